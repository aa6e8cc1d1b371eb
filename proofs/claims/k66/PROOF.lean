import PyProof.Rows.All
import Wide.All
import OpenK.AllK
import Wide.FinOn
import Lean
import PyProof.EqAt
import PyProof.EqKinds
import PyProof.TupleCall
import PyProof.NeKinds
import PyProof.ListRange
import PyProof.TupleOfSeq
import PyProof.SeqI3
import PyProof.DictCompW
import PyProof.DictWalks
import PyProof.SetNew
import PyProof.ReprReads
import PyProof.StrHeap
import PyProof.ReprLen
import PyProof.WalkInts
import KE.KDictSum
import PyProof.Draws
import PySem.Challenge.RW_fairtrees_k66_whole_classes_are_the_coar
set_option Elab.async false
set_option linter.all false
set_option maxRecDepth 100000
namespace L2
open PySem PySem.Spec PyProof.Rows
abbrev Key:=Sum Int Str
def z10:Key->Value->Bool
 | .inl k,v=>Value.isInt k v
 | .inr x,v=>Value.isStrOf x v
def keyH (w:World):Key->Int
 | .inl k=>hashInt k
 | .inr x=>hashStr w x
theorem j6:∀ {k:Key}{v:Value},z10 k v=true->(∃ i t,k=Sum.inl i/\v=Value.int i t)∨(∃ x t,k=Sum.inr x/\v=Value.str x t)
 | .inl i,v,h=>by
  obtain ⟨t,e⟩:=Value.isInt_shape (k:=i) (v:=v) h
  exact .inl ⟨i,t,rfl,e⟩
 | .inr x,v,h=>by
  obtain ⟨t,e⟩:=Value.isStrOf_shape (x:=x) (v:=v) h
  exact .inr ⟨x,t,rfl,e⟩
theorem z57 (i:Int) (t:Tok):z10 (.inl i) (.int i t)=true:=by simp [z10,Value.isInt]
theorem z56 (x:Str) (t:Tok):z10 (.inr x) (.str x t)=true:=by simp [z10,Value.isStrOf]
theorem zB2 (a b:Int):decide ((Sum.inl a:Key)=Sum.inl b)=(a == b):=by
 by_cases e:a=b
 ·subst e;simp
 ·have h:¬ (Sum.inl a:Key)=Sum.inl b:=fun q=>e (Sum.inl.inj q)
  rw [decide_eq_false h]
  exact (beq_eq_false_iff_ne.mpr e).symm
theorem zz9 (a b:Str):decide ((Sum.inr a:Key)=Sum.inr b)=decide (a=b):=by
 by_cases e:a=b
 ·subst e;simp
 ·have h:¬ (Sum.inr a:Key)=Sum.inr b:=fun q=>e (Sum.inr.inj q)
  rw [decide_eq_false h,decide_eq_false e]
theorem zC9 (a:Int) (b:Str):decide ((Sum.inl a:Key)=Sum.inr b)=false:=decide_eq_false (fun q=>nomatch q)
theorem zx1 (a:Str) (b:Int):decide ((Sum.inr a:Key)=Sum.inl b)=false:=decide_eq_false (fun q=>nomatch q)
def k6 (prog:Program) (w:World):PySem.KeyKind prog w Key where
 is:=z10
 hash:=keyH w
 inj:=fun v a b ha hb=>by
  rcases j6 ha with ⟨i,t,rfl,rfl⟩ | ⟨x,t,rfl,rfl⟩
  ·rcases j6 hb with ⟨j,u,rfl,e⟩ | ⟨y,u,rfl,e⟩
   ·injection e with e1 _;rw [e1]
   ·exact nomatch e
  ·rcases j6 hb with ⟨j,u,rfl,e⟩ | ⟨y,u,rfl,e⟩
   ·exact nomatch e
   ·injection e with e1 _;rw [e1]
 byValue:=fun k v h=>by
  rcases j6 h with ⟨i,t,rfl,rfl⟩ | ⟨x,t,rfl,rfl⟩<;>rfl
 pyHash:=fun hv h=>by
  rcases j6 hv with ⟨i,t,rfl,rfl⟩ | ⟨x,t,rfl,rfl⟩
  ·exact wpAny_pyHash_int h
  ·exact wpAny_pyHash_str h
 eqBool:=fun hu hv h=>by
  rcases j6 hu with ⟨i,t,rfl,rfl⟩ | ⟨x,t,rfl,rfl⟩
  ·rcases j6 hv with ⟨j,u,rfl,rfl⟩ | ⟨y,u,rfl,rfl⟩
   ·rw [zB2] at h;exact wpAny_eqBool_int h
   ·rw [zC9] at h;exact SeqAt.EqAt.int_str i t y u _ _ _ _ h
  ·rcases j6 hv with ⟨j,u,rfl,rfl⟩ | ⟨y,u,rfl,rfl⟩
   ·rw [zx1] at h;exact SeqAt.EqAt.str_int x t j u _ _ _ _ h
   ·rw [zz9] at h;exact wpAny_eqBool_str h
 «strs»:=fun k x t v h=>by
  rcases j6 h with ⟨i,u,rfl,e⟩ | ⟨y,u,rfl,e⟩
  ·exact nomatch e
  ·injection e with e1 _
   subst e1
   cases v<;>rfl
theorem z5K (prog:Program) (w:World) (i:Int) (t:Tok):(k6 prog w).is (.inl i) (.int i t)=true:=z57 i t
theorem z5s (prog:Program) (w:World) (x:Str) (t:Tok):(k6 prog w).is (.inr x) (.str x t)=true:=z56 x t
end L2
namespace FT
open PySem PySem.Spec PyProof.Rows L2
abbrev Rise (xs:Array Nat):Prop:=xs.toList.Pairwise (·<·)
instance keyMem (k:Key) (ks:List Key):Decidable (k∈ks):=@List.instDecidableMemOfLawfulBEq Key instBEqOfDecidableEq inferInstance k ks
section
variable (w:World)
def KE (k:Key) (e:Int×Value):Prop:=z10 k e.2=true/\e.1=keyH w k
def SetAt (h:Heap) (a:Addr) (ks:List Key):Prop :=
 ∃ o es ep t ks',h.get? a=some o/\o.ExactSet/\o.data=.set es ep t/\Paired (KE w) ks' es.toList/\ks'.Perm ks/\ks.Nodup/\es.size<scanBound/\t.fits es.size=true/\Rise t.place /\
  (t.led=true∨w.params.followText "set-order" = true)
end
def IsTup0 (h:Heap) (a:Addr) (items:Array Value):Prop:=∃ o,h.get? a=some o/\(o.cls=.type "tuple"/\o.dict=none)/\∃ n,o.data=.seq items n
theorem IsTup0.new (h:Heap) (items:Array Value):IsTup0 (h.push { cls:=.type "tuple",data:=.seq items }) h.objs.size items:=⟨_,Heap.get?_push_size _ rfl,⟨rfl,rfl⟩,_,rfl⟩
theorem IsTup0.tup {h:Heap}{a:Addr}{items:Array Value}(x:IsTup0 h a items):IsTup h a items:=let ⟨o,e,c,d⟩:=x;⟨o,e,c.1,d⟩
theorem IsTup0.lt {h:Heap}{a:Addr}{items:Array Value}(x:IsTup0 h a items):a<h.objs.size:=let ⟨_,e,_⟩:=x;Heap.lt_size e
end FT
namespace L2
open PySem PySem.Spec PyProof.Rows
inductive V where
 | non | bl (b:Bool) | int (i:Int) | str (x:Str) | byt (b:Array UInt8) | flt (b:UInt64) | ref (a:Addr) | ty (n:String)
 deriving DecidableEq
def RelV:V->Value->Prop
 | .non,u=>u=Value.none
 | .bl b,u=>u=Value.bool b
 | .int i,u=>∃ t,u=Value.int i t
 | .str x,u=>∃ t,u=Value.str x t
 | .byt b,u=>∃ t,u=Value.bytes b t
 | .flt b,u=>∃ t,u=Value.float b t
 | .ref a,u=>u=Value.ref a
 | .ty n,u=>u=Value.type n
abbrev Vals:List V->List Value->Prop:=Paired RelV
theorem Vals.length {xs:List V}{us:List Value}(r:Vals xs us):xs.length=us.length:=Paired.length r
theorem Vals.get:∀ {xs:List V}{us:List Value}{i:Nat}{x:V},Vals xs us->xs[i]?=some x->∃ u,us[i]?=some u/\RelV x u
 | _,_,_,_,.nil,e=>by simp at e
 | _,_,0,_,.cons r _,e=>by simp at e;subst e;exact ⟨_,rfl,r⟩
 | _,_,i+1,x,.cons _ t,e=>by
  obtain ⟨u,h1,h2⟩:=Vals.get (i:=i) (x:=x) t (by simpa using e)
  exact ⟨u,by simpa using h1,h2⟩
theorem Vals.set {x:V}{u:Value}(r:RelV x u):∀ {xs:List V}{us:List Value}(i:Nat),Vals xs us->Vals (xs.set i x) (us.set i u)
 | _,_,_,.nil=>.nil
 | _,_,0,.cons _ t=>.cons r t
 | _,_,i+1,.cons q t=>.cons q (Vals.set r i t)
theorem Vals.append:∀ {xs ys:List V}{us ws:List Value},Vals xs us->Vals ys ws->Vals (xs++ys) (us++ws)
 | _,_,_,_,.nil,s=>s
 | _,_,_,_,.cons r t,s=>.cons r (Vals.append t s)
def RelO:Option V->Option Value->Prop
 | some v,some u=>RelV v u
 | none,none=>True
 | _,_=>False
def KV {κ:Type}:List (κ×V)->List (κ×Value)->Prop:=Paired fun (p:κ×V) (q:κ×Value)=>p.1=q.1/\RelV p.2 q.2
def kV:Key->V
 | .inl i=>.int i
 | .inr x=>.str x
inductive HO where
 | lst (xs:List V)
 | tup (xs:List V)
 | dK (kvs:List (Key×V)) | dT (kvs:List (List Key×V))
 | set (ks:List Key)
 | ins (C dx:Addr) (fs:List (Str×V))
 | own (x:Addr)
 | xd (fs:List (Str×V))
 | met (f x:Addr)
 | rng (lo hi:Int)
 | frz (o:Obj) (u:HO)
 | tbl (ps:Array Value)
 | ext (φ:Heap->Prop)
abbrev Hp:=Addr->Option HO
def upd (H:Hp) (a:Addr) (o:HO):Hp:=fun b=>if b=a then some o else H b
theorem y0 {H:Hp}{a:Addr}{o:HO}:upd H a o a=some o:=by unfold upd;rw [if_pos rfl]
theorem y6 {H:Hp}{a b:Addr}{o:HO}(h:b≠a):upd H a o b=H b:=by unfold upd;rw [if_neg h]
theorem zL5 {H:Hp}{a b:Addr}{o u:HO}(h:H a=some o) (h':H b=some u) (d:o≠u):a≠b:=by
 intro e;subst e;rw [h] at h';exact d (Option.some.inj h')
theorem J2 {H:Hp}{a b:Addr}{o:HO}(h:H a=some o) (h':H b=none):a≠b:=by
 intro e;subst e;rw [h] at h';cases h'
section
variable (P:Program) (w:World)
def ObjOk (H:Hp) (h:Heap) (a:Addr):HO->Prop
 | .lst xs=>xs.length≤sizeLine/\∃ (its:List Value) (n:Nat),Vals xs its/\h.get? a=some { cls:=.type "list",data:=.seq its.toArray n }
 | .tup xs=>xs.length≤sizeLine/\∃ its:List Value,Vals xs its/\FT.IsTup0 h a its.toArray
 | .dK kvs=>kvs.length≤sizeLine/\(a == sysModules)=false/\∃ vs,KV kvs vs/\h.DictOf (k6 P w) a vs
 | .dT kvs=>kvs.length≤sizeLine/\(a == sysModules)=false/\∃ xs:List (List Key×Addr×Value),
  Paired (fun (p:List Key×V) (q:List Key×Addr×Value)=>p.1=q.1/\H q.2.1=some (.tup (p.1.map kV))/\RelV p.2 q.2.2) kvs xs /\
  ∃ o es ep,h.get? a=some o/\o.ExactDict/\o.data=.dict es ep/\es.toList=xs.map (entryOfKey (tupleKind (k6 P w)))/\(xs.map (·.1)).Nodup
 | .set ks=>FT.SetAt w h a ks
 | .ins C dx fs=>H dx=some (.own a)/\fs.length≤1000/\dx≠a/\h.get? a=some (PySem.W.instObj C dx) /\
  ∃ mA,h.Ns1 dx mA/\(∀ f,RelO (fs.lookup f) (mA f))/\PySem.Within mA (fs.map (·.1))
 | .own _=>∃ o,h.get? a=some o
 | .xd fs=>∃ mA,h.Ns1 a mA/\∀ f,RelO (fs.lookup f) (mA f)
 | .rng lo hi=>∃ t u v,h.get? a=some { cls:=.type "range",data:=.fields #[.int lo t,.int hi u,.int 1 v] }
 | .frz o u=>h.get? a=some o/\ObjOk H h a u
 | .tbl ps=>h.get? a=some { cls:=.none,data:=.fields ps }
 | .met f x=>h.get? a=some (PySem.W.methodObj (.ref f) (.ref x))
 | .ext φ=>φ h/\(∃ o,h.get? a=some o)/\∀ h1 h2:Heap,φ h1->(∀ o,h1.get? a=some o->h2.get? a=some o)->φ h2
def HOk (H:Hp) (h:Heap):Prop:=∀ a o,H a=some o->ObjOk P w H h a o
end
section
variable {P:Program}{w:World}{H H':Hp}{h h':Heap}{a:Addr}{o:HO}
theorem ObjOk.lt (x:ObjOk P w H h a o):a<h.objs.size:=by
 cases o with
 | lst xs=>obtain ⟨_,_,_,_,e⟩:=x;exact Heap.lt_size e
 | tup xs=>obtain ⟨_,_,_,p⟩:=x;exact p.lt
 | dK kvs=>obtain ⟨_,_,_,_,o,_,_,e,_⟩:=x;exact Heap.lt_size e
 | dT kvs=>obtain ⟨_,_,_,_,o,_,_,e,_⟩:=x;exact Heap.lt_size e
 | set ks=>obtain ⟨o,_,_,_,_,e,_⟩:=x;exact Heap.lt_size e
 | ins C dx fs=>obtain ⟨_,_,_,e,_⟩:=x;exact Heap.lt_size e
 | own y=>obtain ⟨_,e⟩:=x;exact Heap.lt_size e
 | xd fs=>obtain ⟨_,⟨_,_,_,e,_⟩,_⟩:=x;exact Heap.lt_size e
 | rng lo hi=>obtain ⟨_,_,_,e⟩:=x;exact Heap.lt_size e
 | frz ob u=>obtain ⟨e,_⟩:=x;exact Heap.lt_size e
 | tbl ps=>exact Heap.lt_size (show h.get? a=some _ from x)
 | met f y=>exact Heap.lt_size (show h.get? a=some _ from x)
 | ext φ=>obtain ⟨_,⟨_,e⟩,_⟩:=x;exact Heap.lt_size e
theorem Paired.mapP {α β:Type}{F G:α->β->Prop}:∀ {l₁:List α}{l₂:List β},Paired F l₁ l₂->(∀ a b,F a b->G a b)->Paired G l₁ l₂
 | _,_,.nil,_=>.nil
 | _,_,.cons r t,f=>.cons (f _ _ r) (Paired.mapP t f)
theorem ObjOk.stay (x:ObjOk P w H h a o) (k:∀ b u,(b=a∨H b=some (.own a))->h.get? b=some u->h'.get? b=some u)
 (ho:∀ b,H b=some (.own a)->H' b=some (.own a)) (ht:∀ b xs,H b=some (.tup xs)->H' b=some (.tup xs)):ObjOk P w H' h' a o:=by
 induction o with
 | lst xs=>obtain ⟨z,its,n,r,e⟩:=x;exact ⟨z,its,n,r,k _ _ (.inl rfl) e⟩
 | tup xs=>obtain ⟨z,its,r,ob,e,c⟩:=x;exact ⟨z,its,r,ob,k _ _ (.inl rfl) e,c⟩
 | dK kvs=>obtain ⟨z,y,vs,r,ob,es,ep,e,c⟩:=x;exact ⟨z,y,vs,r,ob,es,ep,k _ _ (.inl rfl) e,c⟩
 | dT kvs =>
  obtain ⟨z,y,xs,r,ob,es,ep,e,c⟩:=x
  exact ⟨z,y,xs,Paired.mapP r fun p q z=>⟨z.1,ht _ _ z.2.1,z.2.2⟩,ob,es,ep,k _ _ (.inl rfl) e,c⟩
 | set ks=>obtain ⟨ob,es,ep,t,k',e,c⟩:=x;exact ⟨ob,es,ep,t,k',k _ _ (.inl rfl) e,c⟩
 | ins C dx fs =>
  obtain ⟨d,z,ne,e,mA,⟨od,es,ep,e2,c⟩,r⟩:=x
  exact ⟨ho _ d,z,ne,k _ _ (.inl rfl) e,mA,⟨od,es,ep,k _ _ (.inr d) e2,c⟩,r⟩
 | own y=>obtain ⟨ob,e⟩:=x;exact ⟨ob,k _ _ (.inl rfl) e⟩
 | xd fs=>obtain ⟨mA,⟨od,es,ep,e,c⟩,r⟩:=x;exact ⟨mA,⟨od,es,ep,k _ _ (.inl rfl) e,c⟩,r⟩
 | rng lo hi=>obtain ⟨t,u,v,e⟩:=x;exact ⟨t,u,v,k _ _ (.inl rfl) e⟩
 | frz ob u ih=>obtain ⟨e,q⟩:=x;exact ⟨k _ _ (.inl rfl) e,ih q⟩
 | tbl ps =>
  have e:h.get? a=some { cls:=.none,data:=.fields ps }:=x
  show h'.get? a=some { cls:=.none,data:=.fields ps }
  exact k a _ (.inl rfl) e
 | met f y =>
  have e:h.get? a=some (PySem.W.methodObj (.ref f) (.ref y)):=x
  show h'.get? a=some (PySem.W.methodObj (.ref f) (.ref y))
  exact k a _ (.inl rfl) e
 | ext φ=>obtain ⟨p,⟨o,e⟩,st⟩:=x;exact ⟨st _ _ p fun o q=>k _ _ (.inl rfl) q,⟨o,k _ _ (.inl rfl) e⟩,st⟩
theorem HOk.lt (x:HOk P w H h) (e:H a=some o):a<h.objs.size:=(x a o e).lt
theorem HOk.fresh (x:HOk P w H h) (e:h.objs.size≤a):H a=none:=by
 cases q:H a with
 | none=>rfl
 | some u=>exact absurd (Nat.lt_of_lt_of_le (x.lt q) e) (Nat.lt_irrefl _)
theorem HOk.kept (x:HOk P w H h) (k:∀ b u,h.get? b=some u->h'.get? b=some u):HOk P w H h':=fun a o e =>
 (x a o e).stay (fun b u _ q=>k b u q) (fun _ q=>q) fun _ _ q=>q
theorem HOk.laid (x:HOk P w H h) (k:∀ b u,h.get? b=some u->h'.get? b=some u) (hp:h.objs.size≤a) (new:ObjOk P w (upd H a o) h' a o):HOk P w (upd H a o) h':=fun b u e=>by
 have hn:=x.fresh hp
 by_cases hb:b=a
 ·subst hb;rw [y0] at e;cases e;exact new
 ·rw [y6 hb] at e
  exact (x b u e).stay (fun c v _ q=>k c v q) (fun c q=>by rw [y6 (J2 q hn)];exact q) fun c xs q=>by rw [y6 (J2 q hn)];exact q
end
def Rd (H:Hp) (a:Addr) (u:HO):Prop:=H a=some u∨∃ o,H a=some (.frz o u)
theorem Rd.ok {P:Program}{w:World}{H:Hp}{h:Heap}{a:Addr}{u:HO}(r:Rd H a u) (x:HOk P w H h):ObjOk P w H h a u:=by
 rcases r with r | ⟨o,r⟩
 ·exact x a u r
 ·obtain ⟨_,q⟩:=x a _ r
  exact q
def Mut:Option HO->Prop
 | some (.lst _)=>True
 | some (.dK _)=>True
 | some (.dT _)=>True
 | some (.set _)=>True
 | some (.ins _ _ _)=>True
 | some (.ext _)=>True
 | _=>False
section
variable {P:Program}{w:World}{H:Hp}{h h':Heap}{x e:Addr}{o':HO}
theorem HOk.write (ok:HOk P w H h) (mu:Mut (H x)) (he:e=x∨H e=some (.own x)) (k:∀ b u,b≠e->h.get? b=some u->h'.get? b=some u) (heo:∃ u,h'.get? e=some u)
 (new:ObjOk P w (upd H x o') h' x o'):HOk P w (upd H x o') h':=fun b u q=>by
 have nown:∀ c y,H c=some (.own y)->c≠x:=fun c y r z=>by subst z;rw [r] at mu;exact mu
 have ntup:∀ c xs,H c=some (.tup xs)->c≠x:=fun c xs r z=>by subst z;rw [r] at mu;exact mu
 by_cases hb:b=x
 ·subst hb;rw [y0] at q;cases q;exact new
 ·rw [y6 hb] at q
  by_cases hbe:b=e
  ·have q':H b=some (.own x):=by
    rcases he with z | z
    ·exact absurd (hbe.trans z) hb
    ·rw [hbe];exact z
   rw [q] at q';cases q'
   obtain ⟨v,hv⟩:=heo
   exact ⟨v,by rw [hbe];exact hv⟩
  ·refine (ok b u q).stay (fun c v hc r=>k c v ?_ r) (fun c r=>by rw [y6 (nown c b r)];exact r) fun c xs r=>by rw [y6 (ntup c xs r)];exact r
   rcases hc with rfl | hc
   ·exact hbe
   ·rintro rfl
    rcases he with z | z
    ·exact nown c b hc z
    ·rw [hc] at z;cases z;exact hb rfl
end
structure Un (fs ex:List Addr) (H H':Hp) (h h':Heap):Prop where
 keep:∀ b o,h.get? b=some o->H b=none->b∉fs->b∉ex->h'.get? b=some o
 slot:∀ b o,h.get? b=some o->H b=none->b∈fs->b∉ex->∃ sl,h'.get? b=some { o with slots:=sl }
 free:∀ b o,h.get? b=some o->H b=none->b∉ex->H' b=none
 there:∀ b o,h.get? b=some o->b∉ex->∃ o',h'.get? b=some o'
 tups:∀ b xs,H b=some (.tup xs)->H' b=some (.tup xs)
 frzs:∀ b o u,H b=some (.frz o u)->H' b=some (.frz o u)
 tbls:∀ b ps,H b=some (.tbl ps)->∃ more,H' b=some (.tbl (ps++more))
section
variable {fs fs' ex ex':List Addr}{H H1 H2:Hp}{h h1 h2 h':Heap}{a x e:Addr}{o:HO}
theorem Un.any (u:Un fs ex H H1 h h1) {b:Addr}{ob:Obj}(q:h.get? b=some ob) (n:H b=none) (hx:b∉ex):∃ sl,h1.get? b=some { ob with slots:=sl }:=by
 by_cases hb:b∈fs
 ·exact u.slot b ob q n hb hx
 ·exact ⟨ob.slots,u.keep b ob q n hb hx⟩
theorem Un.kept (k:∀ b u,h.get? b=some u->h'.get? b=some u):Un fs ex H H h h' :=
 ⟨fun b ob q _ _ _=>k b ob q,fun b ob q _ _ _=>⟨ob.slots,k b ob q⟩,fun _ _ _ n _=>n,fun b ob q _=>⟨ob,k b ob q⟩,fun _ _ q=>q,fun _ _ _ q=>q,fun _ ps q=>⟨#[],by rw [q];simp⟩⟩
theorem Un.refl:Un fs ex H H h h:=Un.kept fun _ _ q=>q
theorem Un.laid (k:∀ b u,h.get? b=some u->h'.get? b=some u) (hp:h.objs.size≤a) (hn:H a=none):Un fs ex H (upd H a o) h h' where
 keep:=fun b u q _ _ _=>k b u q
 slot:=fun b u q _ _ _=>⟨u.slots,k b u q⟩
 free:=fun b u q n _=>by rw [y6 (Nat.ne_of_lt (Nat.lt_of_lt_of_le (Heap.lt_size q) hp))];exact n
 there:=fun b u q _=>⟨u,k b u q⟩
 tups:=fun b xs q=>by rw [y6 (J2 q hn)];exact q
 frzs:=fun b u xs q=>by rw [y6 (J2 q hn)];exact q
 tbls:=fun b ps q=>⟨#[],by rw [y6 (J2 q hn),q];simp⟩
theorem Un.write (mu:Mut (H x)) (he:e=x∨H e=some (.own x)) (k:∀ b u,b≠e->h.get? b=some u->h'.get? b=some u) (heo:∃ u,h'.get? e=some u):Un fs ex H (upd H x o) h h':=by
 have hx:∀ b,H b=none->b≠x:=fun b n z=>by subst z;rw [n] at mu;exact mu
 have hb:∀ b,H b=none->b≠e:=fun b n z=>by
  subst z
  rcases he with r | r
  ·exact hx b n r
  ·rw [n] at r;cases r
 have hm:∀ b u,H b=some u->¬ Mut (some u)->b≠x:=fun b u q nm z=>by subst z;rw [q] at mu;exact nm mu
 refine ⟨fun b u q n _ _=>k b u (hb b n) q,fun b u q n _ _=>⟨u.slots,k b u (hb b n) q⟩,fun b u q n _=>by rw [y6 (hx b n)];exact n,fun b u q _=>?_,
  fun b xs q=>by rw [y6 (hm b _ q fun z=>z)];exact q,fun b u xs q=>by rw [y6 (hm b _ q fun z=>z)];exact q,fun b ps q=>⟨#[],by rw [y6 (hm b _ q fun z=>z),q];simp⟩⟩
 by_cases hbe:b=e
 ·subst hbe;exact heo
 ·exact ⟨u,k b u hbe q⟩
end
def trk (h:Heap) (H:Hp):List Addr:=(List.range h.objs.size).filter fun a=>(H a).isSome
def hidT (h:Heap) (H:Hp):Heap:=PySem.W.hideAll h (trk h H)
theorem z8A (h:Heap) (H:Hp):(hidT h H).objs.size=h.objs.size:=PySem.W.hideAll_size _ _
theorem z9t {h:Heap}{H:Hp}{b:Addr}{o:Obj}(e:h.get? b=some o) (n:H b=none):(hidT h H).get? b=some o :=
 PySem.W.hideAll_get _ e fun hm=>by
  have q:(H b).isSome=true:=(List.mem_filter.mp hm).2
  rw [n] at q;simp at q
theorem zl2 {h:Heap}{H:Hp}{b:Addr}{o:Obj}(e:(hidT h H).get? b=some o):h.get? b=some o/\H b=none:=by
 have e':h.get? b=some o:=PySem.W.of_hideAll (trk h H) e
 refine ⟨e',?_⟩
 cases q:H b with
 | none=>rfl
 | some x =>
  have hm:b∈trk h H:=List.mem_filter.mpr ⟨List.mem_range.mpr (Heap.lt_size e'),by simp [q]⟩
  have z:(hidT h H).get? b=none:=PySem.W.hideAll_none (trk h H) hm
  rw [z] at e;cases e
def zl7 (g h:Heap) (L:Addr):List (Addr×Obj):=(List.range h.objs.size).filterMap fun a=>if a=L∨(g.get? a).isSome=true then none else (h.get? a).map fun o=>(a,o)
def rest (g h:Heap) (L d:Addr):List (Addr×Obj):=(zl7 g h L).filter fun p=>decide (p.1≠d)
structure Mod (K:PySem.W.Frag) (mg:Str->Option Value) (base:Heap):Prop where
 kin:K.In base
 glob:base.Ns mainGlobals mg
 blt:∃ mb,base.Ns builtinsNs mb/\∀ x:Str,x≠"__name__"->mb x=bootBuiltins x
 nolimit:base.NoLimit
structure Cx where
 prog:Program
 w:World
 K:PySem.W.Frag
 mg:Str->Option Value
 base:Heap
 A:Around
 N:List Str
 s₀:Shared
 H₀:Hp
 env:Env
 outer:List Env
 stack:List Env
 ex:List Addr
 fn:Str->Bool
 calm:Bool
 pn:List (Addr×Obj)
 xe:Value->Shared->Prop
def frs (l:List Env):List Addr:=l.filterMap (·.frame)
abbrev Cx.fs (X:Cx):List Addr:=frs X.outer
def Vis (sc:Scope) (x:Str):Prop:=sc.names.lookup x=some .local∨sc.names.lookup x=some .cell∨sc.names.lookup x=some .free
def Loc (sc:Scope) (x:Str):Prop:=sc.names.lookup x=some .local∨sc.names.lookup x=some .cell
def Look (env:Env) (h:Heap) (m:Str->Option Value) (x:Str) (u:Value):Prop :=
 (env.kindOf x=some .local/\m x=some u)∨((env.kindOf x=some .cell∨env.kindOf x=some .free)/\∃ c,env.cells.lookup x=some c/\h.IsCell c (some u))
structure Cx.Ok (X:Cx):Prop where
 mod:Mod X.K X.mg X.base
 kind:X.env.scope.kind=.function
 glob:X.env.globals=mainGlobals
 blt:X.env.builtins=builtinsNs
 above:X.s₀.heap.objs.size≤X.env.locals
 inj:∀ x y c,X.env.cells.lookup x=some c->X.env.cells.lookup y=some c->x=y
 has:∀ x,(X.env.kindOf x=some .cell∨X.env.kindOf x=some .free)->∃ c,X.env.cells.lookup x=some c
 cab:∀ x c,X.fn x=true->X.env.cells.lookup x=some c->X.s₀.heap.objs.size≤c
 hd:X.calm=true->X.A.handled=none
 frames:X.A.frames=some X.stack
 stk:X.stack=X.outer∨(X.stack=X.env :: X.outer/\X.env.frame=some X.env.locals)
 exf:∀ b∈X.ex,b≠X.env.locals/\∀ x c,X.env.cells.lookup x=some c->c≠b
 bs:∀ b o,X.base.get? b=some o->X.s₀.heap.get? b=some o/\X.H₀ b=none
 bsz:X.base.objs.size≤X.s₀.heap.objs.size
 noex:∀ b o,X.base.get? b=some o->b∉X.ex
 exfs:∀ b∈X.ex,b∉X.fs
 funs:X.s₀.heap.FunFrames X.base X.outer
 frf:∀ b∈X.fs,X.H₀ b=none
structure Inv (X:Cx) (pins:List (Addr×Obj)) (σ:List (Option V)) (H:Hp) (s:Shared):Prop where
 ok:X.Ok
 os:s.os=X.s₀.os
 bare:AllBare s.gens
 base:Un X.fs X.ex X.H₀ H X.s₀.heap s.heap
 loc:∃ m,s.heap.Ns X.env.locals m/\∀ (i:Nat) (x:Str) (v:V),X.N[i]?=some x->σ[i]?=some (some v)->Vis X.env.scope x->∃ u,RelV v u/\Look X.env s.heap m x u
 cell:∀ x c,X.env.cells.lookup x=some c->∃ v,s.heap.IsCell c v
 free:H X.env.locals=none
 freeC:∀ x c,X.env.cells.lookup x=some c->H c=none
 pin:∀ p∈X.pn++pins,s.heap.get? p.1=some p.2/\H p.1=none/\p.1≠X.env.locals/\p.1∉X.fs/\∀ v,p.2.data≠.cell v
 hok:HOk X.prog X.w H s.heap
 len:σ.length=X.N.length
section
variable {X:Cx}{pins:List (Addr×Obj)}{σ:List (Option V)}{H H':Hp}{s:Shared}{h':Heap}
theorem Cx.Ok.nofr (ok:X.Ok) {b:Addr}{o:Obj}(e:X.base.get? b=some o):b∉X.fs:=fun hb=>by
 have:=(ok.funs.mem hb).1
 rw [e] at this;cases this
theorem Inv.bs (I:Inv X pins σ H s):∀ b o,X.base.get? b=some o->s.heap.get? b=some o/\H b=none:=fun b o e =>
 ⟨I.base.keep b o (I.ok.bs b o e).1 (I.ok.bs b o e).2 (I.ok.nofr e) (I.ok.noex b o e),I.base.free b o (I.ok.bs b o e).1 (I.ok.bs b o e).2 (I.ok.noex b o e)⟩
theorem Inv.bk (I:Inv X pins σ H s):∀ b o,X.base.get? b=some o->s.heap.get? b=some o:=fun b o e=>(I.bs b o e).1
theorem Inv.mod (I:Inv X pins σ H s):Mod X.K X.mg X.base:=I.ok.mod
theorem Inv.kIn (I:Inv X pins σ H s):X.K.In s.heap:=I.ok.mod.kin.keeps I.bk
theorem Inv.fr (I:Inv X pins σ H s):∃ m,Fr X.base X.env.locals s.heap m :=
 let ⟨m,hn,_⟩:=I.loc
 ⟨m,hn,I.bk,Nat.le_trans I.ok.bsz I.ok.above⟩
theorem Inv.lt (I:Inv X pins σ H s):X.env.locals<s.heap.objs.size:=let ⟨_,hn,_⟩:=I.loc;hn.lt
theorem Inv.sz (I:Inv X pins σ H s):X.s₀.heap.objs.size≤s.heap.objs.size:=Nat.le_trans I.ok.above (Nat.le_of_lt I.lt)
theorem Inv.nofs (I:Inv X pins σ H s) {a:Addr}(h:s.heap.objs.size≤a):a∉X.fs:=fun hb=>by
 obtain ⟨_,o,ho,_⟩:=I.ok.funs.mem hb
 exact absurd (Nat.lt_of_lt_of_le (Heap.lt_size ho) (Nat.le_trans I.sz h)) (Nat.lt_irrefl _)
theorem Inv.cne (I:Inv X pins σ H s):∀ x c,X.env.cells.lookup x=some c->c≠X.env.locals:=fun x c e z=>by
 obtain ⟨v,o,ho,hd⟩:=I.cell x c e
 obtain ⟨m,⟨o',es,ep,ho',hd',_⟩,_⟩:=I.loc
 rw [z,ho'] at ho;cases ho;rw [hd'] at hd;cases hd
theorem Inv.funs (I:Inv X pins σ H s):s.heap.FunFrames X.base X.outer:=by
 have all:∀ (l:List Env),(∀ b∈frs l,b∈X.fs)->X.s₀.heap.FunFrames X.base l->s.heap.FunFrames X.base l:=by
  intro l
  induction l with
  | nil=>intro _ _;trivial
  | cons env r ih =>
   intro hs hl
   obtain ⟨hk,⟨L,o,hf,hn,ho,hd⟩,hr⟩:=hl
   have hL:L∈X.fs:=hs L (by unfold frs;rw [List.filterMap_cons,hf];exact List.mem_cons_self)
   obtain ⟨sl,e⟩:=I.base.slot L o ho (I.ok.frf L hL) hL fun z=>I.ok.exfs L z hL
   exact ⟨hk,⟨L,_,hf,hn,e,hd⟩,ih (fun b hb=>hs b (by unfold frs;rw [List.filterMap_cons,hf];exact List.mem_cons_of_mem _ hb)) hr⟩
 exact all X.outer (fun _ hb=>hb) I.ok.funs
theorem Inv.stack (I:Inv X pins σ H s):s.heap.FunFrames X.base X.stack:=by
 rcases I.ok.stk with e | ⟨e,hf⟩
 ·rw [e];exact I.funs
 ·rw [e]
  obtain ⟨m,hn,_⟩:=I.loc
  refine .cons (by rw [I.ok.kind];decide) hf hn ?_ I.funs
  exact Heap.get?_none_of_le (Nat.le_trans I.ok.bsz I.ok.above)
theorem Inv.stkSub (I:Inv X pins σ H s):∀ b∈frs X.stack,b∈X.env.locals :: X.fs:=fun b hb=>by
 rcases I.ok.stk with e | ⟨e,hf⟩
 ·rw [e] at hb;exact List.mem_cons_of_mem _ hb
 ·rw [e] at hb
  unfold frs at hb
  rw [List.filterMap_cons,hf] at hb
  exact hb
theorem Inv.stkFree (I:Inv X pins σ H s):∀ b∈frs X.stack,H b=none:=fun b hb=>by
 rcases List.mem_cons.mp (I.stkSub b hb) with e | hb
 ·rw [e];exact I.free
 ·obtain ⟨_,o,ho,_⟩:=I.ok.funs.mem hb
  exact I.base.free b o ho (I.ok.frf b hb) fun z=>I.ok.exfs b z hb
theorem Inv.step {g':Array GenState}{t':Nat}{d':Drawn}{ch:List Addr}(I:Inv X pins σ H s)
 (hch:∀ b∈ch,(b∈X.ex∨X.s₀.heap.objs.size≤b)/\b≠X.env.locals/\(∀ x c,X.env.cells.lookup x=some c->c≠b)/\∀ p∈X.pn++pins,p.1≠b)
 (keep:∀ b o,b≠X.env.locals->b∉X.fs->b∉ch->s.heap.get? b=some o->H b=none->h'.get? b=some o)
 (slot:∀ b o,b≠X.env.locals->b∈X.fs->b∉ch->s.heap.get? b=some o->H b=none->∃ sl,h'.get? b=some { o with slots:=sl }) (free:∀ b o,b∉ch->s.heap.get? b=some o->H b=none->H' b=none)
 (there:∀ b o,b∉ch->s.heap.get? b=some o->∃ o',h'.get? b=some o')
 (tups:∀ b xs,H b=some (.tup xs)->H' b=some (.tup xs)) (frzs:∀ b o u,H b=some (.frz o u)->H' b=some (.frz o u)) (tbls:∀ b ps,H b=some (.tbl ps)->∃ more,H' b=some (.tbl (ps++more)))
 (ns:∀ m,s.heap.Ns X.env.locals m->h'.Ns X.env.locals m) (hok:HOk X.prog X.w H' h') (hg:AllBare g') :
 Inv X pins σ H' { s with heap:=h',gens:=g',drawn:=d',toks:=t' }:=by
 have neL:∀ b o,X.s₀.heap.get? b=some o->b≠X.env.locals:=fun b o e=>Nat.ne_of_lt (Nat.lt_of_lt_of_le (Heap.lt_size e) I.ok.above)
 have neC:∀ b o,X.s₀.heap.get? b=some o->b∉X.ex->b∉ch:=fun b o e hx hb=>by
  rcases (hch b hb).1 with z | z
  ·exact hx z
  ·exact absurd (Nat.lt_of_lt_of_le (Heap.lt_size e) z) (Nat.lt_irrefl _)
 have cellK:∀ x c,X.env.cells.lookup x=some c->∀ v,s.heap.IsCell c v->h'.IsCell c v:=fun x c e v ⟨o,ho,hd⟩=>by
  have nch:c∉ch:=fun z=>(hch c z).2.2.1 x c e rfl
  by_cases hc:c∈X.fs
  ·obtain ⟨sl,q⟩:=slot c o (I.cne x c e) hc nch ho (I.freeC x c e)
   exact ⟨_,q,hd⟩
  ·exact ⟨o,keep c o (I.cne x c e) hc nch ho (I.freeC x c e),hd⟩
 refine ⟨I.ok,I.os,hg,⟨fun b o e n hb hx=>?_,fun b o e n hb hx=>?_,fun b o e n hx=>?_,fun b o e hx=>?_,fun b xs e=>tups b xs (I.base.tups b xs e),fun b o xs e=>frzs b o xs (I.base.frzs b o xs e),fun b ps e=>?_⟩,?_,fun x c e=>?_,?_,fun x c e=>?_,fun p hp=>?_,hok,I.len⟩
 ·exact keep b o (neL b o e) hb (neC b o e hx) (I.base.keep b o e n hb hx) (I.base.free b o e n hx)
 ·obtain ⟨sl,e1⟩:=I.base.slot b o e n hb hx
  obtain ⟨sl',e2⟩:=slot b _ (neL b o e) hb (neC b o e hx) e1 (I.base.free b o e n hx)
  exact ⟨sl',e2⟩
 ·obtain ⟨o',e1⟩:=I.base.there b o e hx
  exact free b o' (neC b o e hx) e1 (I.base.free b o e n hx)
 ·obtain ⟨o',e1⟩:=I.base.there b o e hx
  exact there b o' (neC b o e hx) e1
 ·obtain ⟨m1,e1⟩:=I.base.tbls b ps e
  obtain ⟨m2,e2⟩:=tbls b _ e1
  exact ⟨m1++m2,by rw [e2,Array.append_assoc]⟩
 ·obtain ⟨m,hn,hl⟩:=I.loc
  refine ⟨m,ns m hn,fun i x v e1 e2 e3=>?_⟩
  obtain ⟨u,r,l⟩:=hl i x v e1 e2 e3
  refine ⟨u,r,?_⟩
  rcases l with l | ⟨k,c,e,z⟩
  ·exact .inl l
  ·exact .inr ⟨k,c,e,cellK x c e _ z⟩
 ·obtain ⟨v,z⟩:=I.cell x c e
  exact ⟨v,cellK x c e v z⟩
 ·obtain ⟨m,⟨o,_,_,ho,_⟩,_⟩:=I.loc
  exact free _ o (fun z=>(hch _ z).2.1 rfl) ho I.free
 ·obtain ⟨v,o,ho,hd⟩:=I.cell x c e
  exact free c o (fun z=>(hch c z).2.2.1 x c e rfl) ho (I.freeC x c e)
 ·obtain ⟨e,n,ne,nf,d⟩:=I.pin p hp
  have nch:p.1∉ch:=fun z=>(hch p.1 z).2.2.2 p hp rfl
  exact ⟨keep p.1 p.2 ne nf nch e n,free p.1 p.2 nch e n,ne,nf,d⟩
theorem Inv.un {t':Nat}(I:Inv X pins σ H s) (u:Un X.fs [] H H' s.heap h') (hok:HOk X.prog X.w H' h'):Inv X pins σ H' { s with heap:=h',toks:=t' }:=by
 obtain ⟨m,⟨o,es,ep,ho,r⟩,_⟩:=id I.loc
 obtain ⟨sl,hL⟩:=u.any ho I.free (by simp)
 exact I.step (g':=s.gens) (d':=s.drawn) (ch:=[]) (fun _ z=>nomatch z) (fun b o _ hb _ e n=>u.keep b o e n hb (by simp)) (fun b o _ hb _ e n=>u.slot b o e n hb (by simp)) (fun b o _ e n=>u.free b o e n (by simp)) (fun b o _ e=>u.there b o e (by simp)) u.tups u.frzs u.tbls (fun m' hm=>by
  obtain ⟨o',es',ep',ho',r'⟩:=hm
  rw [ho] at ho';cases ho'
  exact ⟨_,es',ep',hL,r'⟩) hok I.bare
theorem Inv.call {g':Array GenState}{t':Nat}{d':Drawn}{ch:List Addr}(I:Inv X pins σ H s) (u:Un (frs X.stack) ch H H' s.heap h') (hok:HOk X.prog X.w H' h') (hg:AllBare g')
 (hch:∀ b∈ch,(b∈X.ex∨X.s₀.heap.objs.size≤b)/\b≠X.env.locals/\(∀ x c,X.env.cells.lookup x=some c->c≠b)/\∀ p∈X.pn++pins,p.1≠b) :
 Inv X pins σ H' { s with heap:=h',gens:=g',drawn:=d',toks:=t' }:=by
 obtain ⟨m,⟨o,es,ep,ho,r⟩,_⟩:=id I.loc
 obtain ⟨sl,hL⟩:=u.any ho I.free fun z=>(hch _ z).2.1 rfl
 exact I.step (ch:=ch) hch (fun b o hL hb hc e n=>u.keep b o e n (fun z=>(List.mem_cons.mp (I.stkSub b z)).elim hL hb) hc) (fun b o _ _ hc e n=>u.any e n hc) (fun b o hc e n=>u.free b o e n hc) (fun b o hc e=>u.there b o e hc) u.tups u.frzs u.tbls (fun m' hm=>by
  obtain ⟨o',es',ep',ho',r'⟩:=hm
  rw [ho] at ho';cases ho'
  exact ⟨_,es',ep',hL,r'⟩) hok hg
theorem Inv.turned {t':Nat}{it:Addr}(I:Inv X pins σ H s) (k:∀ b o,b≠it->s.heap.get? b=some o->h'.get? b=some o) (hn:H it=none) (hL:it≠X.env.locals)
 (h1:it∈X.ex∨X.s₀.heap.objs.size≤it) (h2:∀ x c,X.env.cells.lookup x=some c->c≠it) (h3:∀ p∈X.pn++pins,p.1≠it):Inv X pins σ H { s with heap:=h',toks:=t' }:=by
 have nit:∀ b u,H b=some u->b≠it:=fun b u e z=>by rw [z,hn] at e;cases e
 refine I.step (g':=s.gens) (d':=s.drawn) (ch:=[it]) (fun b hb=>?_) (fun b o _ _ hc e _=>k b o (fun z=>hc (by simp [z])) e) (fun b o _ _ hc e _=>⟨o.slots,k b o (fun z=>hc (by simp [z])) e⟩) (fun _ _ _ _ n=>n)
  (fun b o hc e=>⟨o,k b o (fun z=>hc (by simp [z])) e⟩) (fun _ _ e=>e) (fun _ _ _ e=>e) (fun b ps e=>⟨#[],by rw [e];simp⟩) (fun m hm=>?_) (fun b u e=>?_) I.bare
 ·have e:b=it:=by simpa using hb
  subst e
  exact ⟨h1,hL,h2,h3⟩
 ·obtain ⟨o,es,ep,ho,r⟩:=hm
  exact ⟨o,es,ep,k _ o (Ne.symm hL) ho,r⟩
 ·refine (I.hok b u e).stay (fun c v hc q=>k c v ?_ q) (fun _ q=>q) fun _ _ q=>q
  rcases hc with z | z
  ·rw [z];exact nit b u e
  ·exact nit c _ z
theorem Inv.tok (I:Inv X pins σ H s) (t:Nat):Inv X pins σ H { s with toks:=t }:=I.un (h':=s.heap) (t':=t) Un.refl I.hok
theorem Inv.kept {t':Nat}(I:Inv X pins σ H s) (k:∀ b u,s.heap.get? b=some u->h'.get? b=some u):Inv X pins σ H { s with heap:=h',toks:=t' }:=I.un (Un.kept k) (I.hok.kept k)
theorem Inv.laid {a:Addr}{o:HO}{t':Nat}(I:Inv X pins σ H s) (k:∀ b u,s.heap.get? b=some u->h'.get? b=some u) (hp:s.heap.objs.size≤a) (new:ObjOk X.prog X.w (upd H a o) h' a o) :
 Inv X pins σ (upd H a o) { s with heap:=h',toks:=t' }:=I.un (Un.laid k hp (I.hok.fresh hp)) (I.hok.laid k hp new)
theorem Inv.write {x e:Addr}{o:HO}{t':Nat}(I:Inv X pins σ H s) (mu:Mut (H x)) (he:e=x∨H e=some (.own x)) (k:∀ b u,b≠e->s.heap.get? b=some u->h'.get? b=some u) (heo:∃ u,h'.get? e=some u)
 (new:ObjOk X.prog X.w (upd H x o) h' x o):Inv X pins σ (upd H x o) { s with heap:=h',toks:=t' }:=I.un (Un.write mu he k heo) (I.hok.write mu he k heo new)
theorem Inv.weak {σ':List (Option V)}(I:Inv X pins σ H s) (hl:σ'.length=σ.length) (w:∀ (i:Nat) v,σ'[i]?=some (some v)->σ[i]?=some (some v)):Inv X pins σ' H s :=
 ⟨I.ok,I.os,I.bare,I.base,let ⟨m,hn,hl'⟩:=I.loc;⟨m,hn,fun i x v e1 e2 e3=>hl' i x v e1 (w i v e2) e3⟩,I.cell,I.free,I.freeC,I.pin,I.hok,hl.trans I.len⟩
theorem Inv.pins_of {pins':List (Addr×Obj)}(I:Inv X pins σ H s) (h:∀ p∈pins',s.heap.get? p.1=some p.2/\H p.1=none/\p.1≠X.env.locals/\p.1∉X.fs/\∀ v,p.2.data≠.cell v):Inv X pins' σ H s :=
 ⟨I.ok,I.os,I.bare,I.base,I.loc,I.cell,I.free,I.freeC,fun p hp=>(List.mem_append.mp hp).elim (fun z=>I.pin p (List.mem_append_left _ z)) (h p),I.hok,I.len⟩
theorem z6b {N:List Str}(hN:N.Nodup) {i j:Nat}{x:Str}(a:N[i]?=some x) (b:N[j]?=some x):i=j:=by
 obtain ⟨h1,e1⟩:=List.getElem?_eq_some_iff.mp a
 obtain ⟨h2,e2⟩:=List.getElem?_eq_some_iff.mp b
 exact (List.getElem_inj hN).mp (e1.trans e2.symm)
theorem z8L {M:Model}{A:Around}{E:Value->Shared->Prop}{i:Nat}{x:Str}{v:V}{u:Value}{Q:Unit->Shared->Prop}(I:Inv X pins σ H s) (hN:X.N.Nodup) (hi:X.N[i]?=some x) (hx:Loc X.env.scope x) (r:RelV v u)
 (h:∀ s',Inv X pins (σ.set i (some v)) H s'->(∃ a,Heap.SameBut a s.heap s'.heap/\(a=X.env.locals∨X.env.cells.lookup x=some a))->Q () s') (hf:X.fn x=true∨X.env.scope.names.lookup x=some .local:=by first | exact .inl rfl | exact .inr rfl | assumption):wpAny M A (storeName X.env x u) Q E s:=by
 obtain ⟨m,hn,hl⟩:=id I.loc
 have hcls:(X.env.scope.kind == .class || (X.env.scope.kind == .module && X.env.locals != X.env.globals))=false:=by rw [I.ok.kind];rfl
 have hiσ:i<σ.length:=by rw [I.len];exact (List.getElem?_eq_some_iff.mp hi).1
 have cne:=I.cne
 have tracked:∀ {a:Addr} {h':Heap},(∃ o,s.heap.get? a=some o/\H a=none)->Heap.SameBut a s.heap h'->HOk X.prog X.w H h':=fun {a h'} ha hs b ob e=>by
  obtain ⟨_,_,hfree⟩:=ha
  refine (I.hok b ob e).stay (fun c w' hc q=>(hs.2 c ?_).trans q) (fun _ q=>q) fun _ _ q=>q
  rintro rfl
  rcases hc with rfl | hc
  ·rw [hfree] at e;cases e
  ·rw [hfree] at hc;cases hc
 rcases hx with hk | hk
 ·refine wpAny_storeName_local hk hn (fun h' hn' hs=>?_) hcls
  obtain ⟨oL,_,_,hoL,_⟩:=id hn
  refine h _ ⟨I.ok,I.os,I.bare,⟨fun b o e n hb hx=>?_,fun b o e n hb hx=>?_,I.base.free,fun b o e hx=>?_,I.base.tups,I.base.frzs,I.base.tbls⟩,⟨_,hn',fun j y v' e1 e2 e3=>?_⟩,fun y c e=>?_,I.free,I.freeC,fun p hp=>?_,tracked ⟨oL,hoL,I.free⟩ hs,by simpa using I.len⟩ ⟨_,hs,.inl rfl⟩
  ·exact (hs.2 b (Nat.ne_of_lt (Nat.lt_of_lt_of_le (Heap.lt_size e) I.ok.above))).trans (I.base.keep b o e n hb hx)
  ·obtain ⟨sl,e1⟩:=I.base.slot b o e n hb hx
   exact ⟨sl,(hs.2 b (Nat.ne_of_lt (Nat.lt_of_lt_of_le (Heap.lt_size e) I.ok.above))).trans e1⟩
  ·obtain ⟨o',e1⟩:=I.base.there b o e hx
   exact ⟨o',(hs.2 b (Nat.ne_of_lt (Nat.lt_of_lt_of_le (Heap.lt_size e) I.ok.above))).trans e1⟩
  ·by_cases hj:j=i
   ·subst hj
    rw [hi] at e1;cases e1
    rw [List.getElem?_set_self hiσ] at e2
    cases e2
    exact ⟨u,r,.inl ⟨hk,by simp⟩⟩
   ·rw [List.getElem?_set_ne (Ne.symm hj)] at e2
    obtain ⟨u',r',q⟩:=hl j y v' e1 e2 e3
    refine ⟨u',r',?_⟩
    rcases q with ⟨k,e⟩ | ⟨k,c,e,z⟩
    ·refine .inl ⟨k,?_⟩
     have:y≠x:=fun e=>hj (z6b hN e1 (e ▸ hi))
     simp [this,e]
    ·exact .inr ⟨k,c,e,z.sameBut hs (cne y c e)⟩
  ·obtain ⟨w',z⟩:=I.cell y c e
   exact ⟨w',z.sameBut hs (cne y c e)⟩
  ·obtain ⟨e,n,ne,nf,d⟩:=I.pin p hp
   exact ⟨(hs.2 p.1 ne).trans e,n,ne,nf,d⟩
 ·have hfn:X.fn x=true:=by
   rcases hf with z | z
   ·exact z
   ·rw [z] at hk;cases hk
  obtain ⟨c,hc⟩:=I.ok.has x (.inl hk)
  obtain ⟨w',z⟩:=I.cell x c hc
  refine wpAny_storeName_cell I.ok.kind hk hc z (fun h' hc' hs=>?_)
  obtain ⟨oc,hoc,hocd⟩:=id z
  refine h { s with heap:=h' } ⟨I.ok,I.os,I.bare,⟨fun b o e n hb hx=>?_,fun b o e n hb hx=>?_,I.base.free,fun b o e hx=>?_,I.base.tups,I.base.frzs,I.base.tbls⟩,⟨m,hn.sameBut hs (Ne.symm (cne x c hc)),fun j y v' e1 e2 e3=>?_⟩,fun y c' e=>?_,I.free,I.freeC,fun p hp=>?_,tracked ⟨oc,hoc,I.freeC x c hc⟩ hs,by simpa using I.len⟩ ⟨c,hs,.inr hc⟩
  ·exact (hs.2 b (Nat.ne_of_lt (Nat.lt_of_lt_of_le (Heap.lt_size e) (I.ok.cab x c hfn hc)))).trans (I.base.keep b o e n hb hx)
  ·obtain ⟨sl,e1⟩:=I.base.slot b o e n hb hx
   exact ⟨sl,(hs.2 b (Nat.ne_of_lt (Nat.lt_of_lt_of_le (Heap.lt_size e) (I.ok.cab x c hfn hc)))).trans e1⟩
  ·obtain ⟨o',e1⟩:=I.base.there b o e hx
   exact ⟨o',(hs.2 b (Nat.ne_of_lt (Nat.lt_of_lt_of_le (Heap.lt_size e) (I.ok.cab x c hfn hc)))).trans e1⟩
  ·by_cases hj:j=i
   ·subst hj
    rw [hi] at e1;cases e1
    rw [List.getElem?_set_self hiσ] at e2
    cases e2
    exact ⟨u,r,.inr ⟨.inl hk,c,hc,hc'⟩⟩
   ·rw [List.getElem?_set_ne (Ne.symm hj)] at e2
    obtain ⟨u',r',q⟩:=hl j y v' e1 e2 e3
    refine ⟨u',r',?_⟩
    rcases q with q | ⟨k,c',e,z'⟩
    ·exact .inl q
    ·refine .inr ⟨k,c',e,z'.sameBut hs ?_⟩
     rintro rfl
     exact hj (z6b hN e1 (I.ok.inj _ _ _ e hc ▸ hi))
  ·by_cases hcc:c'=c
   ·subst hcc;exact ⟨_,hc'⟩
   ·obtain ⟨w2,z2⟩:=I.cell y c' e
    exact ⟨w2,z2.sameBut hs hcc⟩
  ·obtain ⟨e,n,ne,nf,d⟩:=I.pin p hp
   refine ⟨(hs.2 p.1 ?_).trans e,n,ne,nf,d⟩
   intro q
   rw [q,hoc] at e
   have q':oc=p.2:=Option.some.inj e
   exact d w' (by rw [← q'];exact hocd)
theorem z6s {M:Model}{A:Around}{E:Value->Shared->Prop}{i:Nat}{x:Str}{v:V}{u:Value}{Q:Unit->Shared->Prop}(I:Inv X pins σ H s) (hN:X.N.Nodup) (hi:X.N[i]?=some x) (hx:Loc X.env.scope x) (r:RelV v u)
 (h:∀ s',Inv X pins (σ.set i (some v)) H s'->Q () s') (hf:X.fn x=true∨X.env.scope.names.lookup x=some .local:=by first | exact .inl rfl | exact .inr rfl | assumption):wpAny M A (storeName X.env x u) Q E s :=
 z8L I hN hi hx r (fun s' I' _=>h s' I') hf
theorem Inv.call' {s':Shared}{ch:List Addr}(I:Inv X pins σ H s) (ho:s'.os=s.os) (u:Un (frs X.stack) ch H H' s.heap s'.heap) (hok:HOk X.prog X.w H' s'.heap) (hg:AllBare s'.gens)
 (hch:∀ b∈ch,(b∈X.ex∨X.s₀.heap.objs.size≤b)/\b≠X.env.locals/\(∀ x c,X.env.cells.lookup x=some c->c≠b)/\∀ p∈X.pn++pins,p.1≠b):Inv X pins σ H' s':=by
 obtain ⟨h',g',d',t',o'⟩:=s'
 have e:o'=s.os:=ho
 subst e
 exact I.call (g':=g') (t':=t') (d':=d') u hok hg hch
end
abbrev XK:=Value->Option Addr->Hp->Prop
abbrev St:=List (Option V)
abbrev VK:=V->Hp->Prop
abbrev TE:=St->Hp->VK->Prop
abbrev TT:=St->Hp->(Bool->Hp->Prop)->Prop
abbrev TA:=St->Hp->(List V->Hp->Prop)->Prop
structure Ends where
 nx:St->Hp->Prop
 rt:VK
 bk:St->Hp->Prop:=fun _ _=>False
 ct:St->Hp->Prop:=fun _ _=>False
abbrev TS:=Ends->St->Hp->Prop
def EP (X:Cx) (pins:List (Addr×Obj)) (σ:St) (Q:VK) (u:Value) (s':Shared):Prop:=∃ v H',Inv X pins σ H' s'/\RelV v u/\Q v H'
def TP (X:Cx) (pins:List (Addr×Obj)) (σ:St) (Q:Bool->Hp->Prop) (b:Bool) (s':Shared):Prop:=∃ H',Inv X pins σ H' s'/\Q b H'
def AP (X:Cx) (pins:List (Addr×Obj)) (σ:St) (Q:List V->Hp->Prop) (us:List Value) (s':Shared):Prop:=∃ vs H',Inv X pins σ H' s'/\Vals vs us/\Q vs H'
def SP (X:Cx) (pins:List (Addr×Obj)) (D:Ends) (f:Flow) (s':Shared):Prop :=
 match f with
 | .next=>∃ σ' H',Inv X pins σ' H' s'/\D.nx σ' H'
 | .brk=>∃ σ' H',Inv X pins σ' H' s'/\D.bk σ' H'
 | .cont=>∃ σ' H',Inv X pins σ' H' s'/\D.ct σ' H'
 | .ret u=>∃ v σ' H',Inv X pins σ' H' s'/\RelV v u/\D.rt v H'
def PE (X:Cx) (e:Expr) (t:TE):Prop :=
 ∀ (pins:List (Addr×Obj)) (s:Shared) (σ:St) (H:Hp) (Q:VK),Inv X pins σ H s->t σ H Q->wpAny (model X.prog X.w) X.A (eval e X.env) (EP X pins σ Q) X.xe s
def PT (X:Cx) (e:Expr) (t:TT):Prop :=
 ∀ (pins:List (Addr×Obj)) (s:Shared) (σ:St) (H:Hp) (Q:Bool->Hp->Prop),Inv X pins σ H s->t σ H Q->wpAny (model X.prog X.w) X.A (isTrue e X.env (eval e X.env)) (TP X pins σ Q) X.xe s
def PW (X:Cx) (e:Expr) (t:TT):Prop :=
 ∀ (whole:Sem Value) (pins:List (Addr×Obj)) (s:Shared) (σ:St) (H:Hp) (Q:Bool->Hp->Prop),Inv X pins σ H s->t σ H Q->wpAny (model X.prog X.w) X.A (isTrue e X.env whole) (TP X pins σ Q) X.xe s
theorem PW.pt {X:Cx}{e:Expr}{t:TT}(h:PW X e t):PT X e t:=h _
def PA (X:Cx) (es:List Expr) (t:TA):Prop :=
 ∀ (pos:Pos) (pins:List (Addr×Obj)) (s:Shared) (σ:St) (H:Hp) (Q:List V->Hp->Prop),Inv X pins σ H s->t σ H Q->wpAny (model X.prog X.w) X.A (spliced (backTo pos (starEach es X.env))) (AP X pins σ Q) X.xe s
def PS (X:Cx) (st:Stmt) (t:TS):Prop :=
 ∀ (pins:List (Addr×Obj)) (s:Shared) (σ:St) (H:Hp) (D:Ends),Inv X pins σ H s->t D σ H->wpAny (model X.prog X.w) X.A (exec st X.env) (SP X pins D) X.xe s
def PSs (X:Cx) (st:List Stmt) (t:TS):Prop :=
 ∀ (pins:List (Addr×Obj)) (s:Shared) (σ:St) (H:Hp) (D:Ends),Inv X pins σ H s->t D σ H->wpAny (model X.prog X.w) X.A (execs st X.env) (SP X pins D) X.xe s
theorem thn {α:Type}{t:Sem α}{Q Q':α->Shared->Prop}{M:Model}{A:Around}{E:Value->Shared->Prop}{s:Shared}(h:wpAny M A t Q E s) (hQ:∀ a s,Q a s->Q' a s):wpAny M A t Q' E s:=wpAny_mono h hQ fun _ _ x=>x
section
variable {X:Cx}
def tVar (i:Nat):TE:=fun σ H Q=>∃ v,σ[i]?=some (some v)/\Q v H
def tC (v:V):TE:=fun _ H Q=>Q v H
theorem zG7 {i:Nat}{x:Str}{pos:Pos}(hN:X.N[i]?=some x) (hv:Vis X.env.scope x) (hd:(x == ("__debug__":Str))=false:=by decide) (hcd:(x == ("__classdict__":Str))=false:=by decide):PE X (.Name x pos) (tVar i):=by
 intro pins s σ H Q I h
 obtain ⟨v,e,h⟩:=h
 obtain ⟨m,hn,hl⟩:=I.loc
 obtain ⟨u,r,l⟩:=hl i x v hN e hv
 have fin:EP X pins σ Q u s:=⟨v,H,I,r,h⟩
 rcases l with ⟨hk,hm⟩ | ⟨hk,c,hc,hcell⟩
 ·exact wpAny_Name (wpAny_loadName_local I.ok.kind hk hn hm fin) hd
 ·rcases hk with hk | hk
  ·exact wpAny_Name (wpAny_loadName_cell I.ok.kind hk hc hcell fin) hd
  ·exact wpAny_Name (wpAny_loadName_free I.ok.kind hk hc hcell fin hcd) hd
theorem zB7 {i j pos}:PE X (.Constant (.int i) j pos) (tC (.int i)):=fun _ _ _ H _ I h=>wpAny_Constant_int ⟨.int i,H,I.tok _,⟨_,rfl⟩,h⟩
theorem zN6 {b j pos}:PE X (.Constant (.bool b) j pos) (tC (.bl b)):=fun _ _ _ H _ I h=>Constant_bool ⟨.bl b,H,I,rfl,h⟩
theorem zA2 {j pos}:PE X (.Constant .none j pos) (tC .non):=fun _ _ _ H _ I h=>Constant_none ⟨.non,H,I,rfl,h⟩
theorem zG1 {x j pos}:PE X (.Constant (.str x) j pos) (tC (.str x)):=fun _ _ _ H _ I h=>Calls.Constant_str ⟨.str x,H,I.tok _,⟨_,rfl⟩,h⟩
def Gl (X:Cx) (x:Str):Prop:=X.env.kindOf x=some .globalImplicit
theorem z8h {E:Value->Shared->Prop}{pins:List (Addr×Obj)}{s:Shared}{σ:St}{H:Hp}{x:Str}{u:Value}{pos:Pos}{Q:Value->Shared->Prop}(I:Inv X pins σ H s) (hg:Gl X x) (hm:X.mg x=some u) (h:Q u s)
 (hd:(x == ("__debug__":Str))=false:=by decide):wpAny (model X.prog X.w) X.A (eval (.Name x pos) X.env) Q E s :=
 Calls.Name_function_global I.ok.kind hg (Calls.loadGlobal_global (by rw [I.ok.glob];exact I.mod.glob.keeps I.bk) hm h) hd
theorem z3C {E:Value->Shared->Prop}{pins:List (Addr×Obj)}{s:Shared}{σ:St}{H:Hp}{x:Str}{u:Value}{pos:Pos}{Q:Value->Shared->Prop}(I:Inv X pins σ H s) (hg:Gl X x) (hm:X.mg x=none) (hv:bootBuiltins x=some u) (h:Q u s)
 (hn:x≠"__name__":=by decide) (hd:(x == ("__debug__":Str))=false:=by decide):wpAny (model X.prog X.w) X.A (eval (.Name x pos) X.env) Q E s:=by
 obtain ⟨mb,h1,h2⟩:=I.mod.blt
 exact Calls.Name_function_global I.ok.kind hg (Calls.loadGlobal_builtin (by rw [I.ok.glob];exact I.mod.glob.keeps I.bk) hm (by rw [I.ok.blt];exact h1.keeps I.bk) ((h2 x hn).trans hv) h) hd
theorem zk3 {x:Str}{v:V}{u:Value}{pos:Pos}(hg:Gl X x) (hm:X.mg x=some u) (r:RelV v u) (hd:(x == ("__debug__":Str))=false:=by decide):PE X (.Name x pos) (tC v) :=
 fun _ _ _ H _ I h=>z8h I hg hm ⟨v,H,I,r,h⟩ hd
theorem zr6 {x:Str}{v:V}{u:Value}{pos:Pos}(hg:Gl X x) (hm:X.mg x=none) (hv:bootBuiltins x=some u) (r:RelV v u) (hn:x≠"__name__":=by decide) (hd:(x == ("__debug__":Str))=false:=by decide):PE X (.Name x pos) (tC v) :=
 fun _ _ _ H _ I h=>z3C I hg hm hv ⟨v,H,I,r,h⟩ hn hd
variable {a b:Expr}{ta tb:TE}{pos:Pos}
def tB (t:TE):TT:=fun σ H Q=>t σ H fun x H1=>∃ c,x=.bl c/\Q c H1
variable {tA tB':TT}{rest:List Expr}
def tAnd (t u:TT):TT:=fun σ H Q=>t σ H fun c H1=>if c=true then u σ H1 Q else Q false H1
def tOr (t u:TT):TT:=fun σ H Q=>t σ H fun c H1=>if c=true then Q true H1 else u σ H1 Q
def tNot (t:TT):TT:=fun σ H Q=>t σ H fun c H1=>Q (!c) H1
theorem zj1 (ha:PT X a tA):PW X (.BoolOp .And [a] pos) tA:=by
 intro wh pins s σ H Q I h
 refine isTrue_and (thn (ha pins s σ H Q I h) fun c s1 e=>?_)
 cases c with
 | true=>exact isTrue_and_nil e
 | false=>exact e
theorem zw9 (ha:PT X a tA):PW X (.BoolOp .Or [a] pos) tA:=by
 intro wh pins s σ H Q I h
 refine isTrue_or (thn (ha pins s σ H Q I h) fun c s1 e=>?_)
 cases c with
 | false=>exact isTrue_or_nil e
 | true=>exact e
theorem zG6 (ha:PT X a tA) (hb:PW X (.BoolOp .And (b :: rest) pos) tB'):PW X (.BoolOp .And (a :: b :: rest) pos) (tAnd tA tB'):=by
 intro wh pins s σ H Q I h
 refine isTrue_and (thn (ha pins s σ H _ I h) fun c s1 ⟨H1,I1,q1⟩=>?_)
 cases c with
 | true=>exact hb wh pins s1 σ H1 Q I1 q1
 | false=>exact ⟨H1,I1,q1⟩
theorem zO7 (ha:PT X a tA) (hb:PW X (.BoolOp .Or (b :: rest) pos) tB'):PW X (.BoolOp .Or (a :: b :: rest) pos) (tOr tA tB'):=by
 intro wh pins s σ H Q I h
 refine isTrue_or (thn (ha pins s σ H _ I h) fun c s1 ⟨H1,I1,q1⟩=>?_)
 cases c with
 | true=>exact ⟨H1,I1,q1⟩
 | false=>exact hb wh pins s1 σ H1 Q I1 q1
theorem zH3 (ha:PT X a tA):PT X (.UnaryOp .Not a pos) (tNot tA):=by
 intro pins s σ H Q I h
 exact isTrue_not (ha pins s σ H (fun c H1=>Q (!c) H1) I h)
def zN7 (ta tb:TE):TE:=fun σ H Q=>ta σ H fun x H1=>∃ c,x=.bl c/\if c=true then tb σ H1 Q else Q (.bl false) H1
def tOrV (ta tb:TE):TE:=fun σ H Q=>ta σ H fun x H1=>∃ c,x=.bl c/\if c=true then Q (.bl true) H1 else tb σ H1 Q
def zK6 (ta:TE):TE:=fun σ H Q=>ta σ H fun x H1=>∃ c,x=.bl c/\Q (.bl (!c)) H1
theorem zH5 {op}{t:TE}(h:PE X a t):PE X (.BoolOp op [a] pos) t:=fun pins s σ H Q I hw=>BoolOp_one (h pins s σ H Q I hw)
theorem zI3 (ha:PE X a ta) (hb:PE X (.BoolOp .And (b :: rest) pos) tb):PE X (.BoolOp .And (a :: b :: rest) pos) (zN7 ta tb):=by
 intro pins s σ H Q I h
 refine BoolOp_and (thn (ha pins s σ H _ I h) fun v s1 ⟨x,H1,I1,r1,q1⟩=>?_)
 obtain ⟨c,rfl,q1⟩:=q1
 cases r1
 refine wpAny_truthy_bool ?_
 cases c with
 | true=>exact hb pins s1 σ H1 Q I1 q1
 | false=>exact ⟨.bl false,H1,I1,rfl,q1⟩
theorem zL2 (ha:PE X a ta) (hb:PE X (.BoolOp .Or (b :: rest) pos) tb):PE X (.BoolOp .Or (a :: b :: rest) pos) (tOrV ta tb):=by
 intro pins s σ H Q I h
 refine BoolOp_or (thn (ha pins s σ H _ I h) fun v s1 ⟨x,H1,I1,r1,q1⟩=>?_)
 obtain ⟨c,rfl,q1⟩:=q1
 cases r1
 refine wpAny_truthy_bool ?_
 cases c with
 | false=>exact hb pins s1 σ H1 Q I1 q1
 | true=>exact ⟨.bl true,H1,I1,rfl,q1⟩
theorem zG0 (ha:PE X a ta):PE X (.UnaryOp .Not a pos) (zK6 ta):=by
 intro pins s σ H Q I h
 refine UnaryOp_ (thn (ha pins s σ H _ I h) fun v s1 ⟨x,H1,I1,r1,q1⟩=>?_)
 obtain ⟨c,rfl,q1⟩:=q1
 cases r1
 exact not_of (wpAny_truthy_bool ⟨.bl (!c),H1,I1,rfl,q1⟩)
end
def SqL (K:PySem.W.Frag) (H:Hp) (a:Addr) (xs:List V):Prop :=
 Rd H a (.lst xs) ∨
  ∃ (o:Obj) (its:Array Value) (n:Nat),K.lookup a=some o/\o.cls=.type "list"/\o.dict=none/\o.data=.seq its n/\its.size≤sizeLine/\Vals xs its.toList
def SqT (K:PySem.W.Frag) (H:Hp) (a:Addr) (xs:List V):Prop :=
 Rd H a (.tup xs) ∨
  ∃ (o:Obj) (its:Array Value) (n:Nat),K.lookup a=some o/\(o.cls=.type "tuple"/\o.dict=none)/\o.data=.seq its n/\its.size≤sizeLine/\Vals xs its.toList
def absV:Value->Option V
 | .none=>some .non
 | .bool b=>some (.bl b)
 | .int i _=>some (.int i)
 | .str x _=>some (.str x)
 | .bytes b _=>some (.byt b)
 | .float b _=>some (.flt b)
 | .ref a=>some (.ref a)
 | .type n=>some (.ty n)
 | _=>none
theorem RelV.abs {x:V}{u:Value}(r:RelV x u):absV u=some x:=by
 cases x with
 | non=>cases r;rfl
 | bl _=>cases r;rfl
 | int _=>obtain ⟨t,rfl⟩:=r;rfl
 | str _=>obtain ⟨t,rfl⟩:=r;rfl
 | byt _=>obtain ⟨t,rfl⟩:=r;rfl
 | flt _=>obtain ⟨t,rfl⟩:=r;rfl
 | ref _=>cases r;rfl
 | ty _=>cases r;rfl
theorem RelV.inj {x y:V}{u:Value}(r:RelV x u) (q:RelV y u):x=y:=Option.some.inj (r.abs.symm.trans q.abs)
theorem Vals.inj:∀ {xs ys:List V}{us:List Value},Vals xs us->Vals ys us->xs=ys
 | _,_,_,.nil,.nil=>rfl
 | _,_,_,.cons r t,.cons r' t'=>by rw [r.inj r',Vals.inj t t']
section
variable {X:Cx}{pins:List (Addr×Obj)}{σ:St}{H:Hp}{s:Shared}{a:Addr}{xs ys:List V}
theorem SqL.of {K:PySem.W.Frag}(h:H a=some (.lst xs)):SqL K H a xs:=.inl (.inl h)
theorem SqT.of {K:PySem.W.Frag}(h:H a=some (.tup xs)):SqT K H a xs:=.inl (.inl h)
theorem Inv.list (I:Inv X pins σ H s) (h:SqL X.K H a xs):∃ its:List Value,Vals xs its/\PlainL s.heap a its.toArray/\xs.length≤sizeLine:=by
 rcases h with h | ⟨o,its,n,hk,hc,hd,hs,hz,r⟩
 ·obtain ⟨z,its,n,r,e⟩:=h.ok I.hok
  exact ⟨its,r,⟨_,n,e,rfl,rfl,rfl⟩,z⟩
 ·refine ⟨its.toList,r,⟨o,n,I.kIn a o hk,hc,hd,by simpa using hs⟩,?_⟩
  have e:=r.length
  simp only [Array.length_toList] at e
  omega
theorem Inv.tuple (I:Inv X pins σ H s) (h:SqT X.K H a xs):∃ its:List Value,Vals xs its/\IsTup s.heap a its.toArray/\xs.length≤sizeLine:=by
 rcases h with h | ⟨o,its,n,hk,hc,hs,hz,r⟩
 ·obtain ⟨z,its,r,p⟩:=h.ok I.hok
  exact ⟨its,r,p.tup,z⟩
 ·refine ⟨its.toList,r,⟨o,I.kIn a o hk,hc.1,n,by simpa using hs⟩,?_⟩
  have e:=r.length
  simp only [Array.length_toList] at e
  omega
theorem Inv.list_inj (I:Inv X pins σ H s) (h:SqL X.K H a xs) (h':SqL X.K H a ys):xs=ys:=by
 obtain ⟨its,r,⟨o,n,e,_,_,d⟩,_⟩:=I.list h
 obtain ⟨its',r',⟨o',n',e',_,_,d'⟩,_⟩:=I.list h'
 rw [e] at e';cases e'
 rw [d] at d'
 injection d' with d1 _
 have:its=its':=by simpa using congrArg Array.toList d1
 subst this
 exact r.inj r'
theorem Inv.tuple_inj (I:Inv X pins σ H s) (h:SqT X.K H a xs) (h':SqT X.K H a ys):xs=ys:=by
 obtain ⟨its,r,⟨o,e,_,n,d⟩,_⟩:=I.tuple h
 obtain ⟨its',r',⟨o',e',_,n',d'⟩,_⟩:=I.tuple h'
 rw [e] at e';cases e'
 rw [d] at d'
 injection d' with d1 _
 have:its=its':=by simpa using congrArg Array.toList d1
 subst this
 exact r.inj r'
end
abbrev Cx.wish (X:Cx) (E:Value->Shared->Prop):Cx:={ X with xe:=E }
abbrev Cx.nox (X:Cx):Cx:=X.wish fun _ _=>False
theorem Cx.Ok.wish {X:Cx}(ok:X.Ok) (E:Value->Shared->Prop):(X.wish E).Ok :=
 ⟨ok.mod,ok.kind,ok.glob,ok.blt,ok.above,ok.inj,ok.has,ok.cab,ok.hd,ok.frames,ok.stk,ok.exf,ok.bs,ok.bsz,ok.noex,ok.exfs,ok.funs,ok.frf⟩
theorem Cx.Ok.unwish {X:Cx}{E:Value->Shared->Prop}(ok:(X.wish E).Ok):X.Ok :=
 ⟨ok.mod,ok.kind,ok.glob,ok.blt,ok.above,ok.inj,ok.has,ok.cab,ok.hd,ok.frames,ok.stk,ok.exf,ok.bs,ok.bsz,ok.noex,ok.exfs,ok.funs,ok.frf⟩
section
variable {X:Cx}{pins:List (Addr×Obj)}{σ:St}{H:Hp}{s:Shared}{E:Value->Shared->Prop}
theorem Inv.wish (I:Inv X pins σ H s) (E:Value->Shared->Prop):Inv (X.wish E) pins σ H s:=⟨I.ok.wish E,I.os,I.bare,I.base,I.loc,I.cell,I.free,I.freeC,I.pin,I.hok,I.len⟩
theorem Inv.unwish (I:Inv (X.wish E) pins σ H s):Inv X pins σ H s:=⟨I.ok.unwish,I.os,I.bare,I.base,I.loc,I.cell,I.free,I.freeC,I.pin,I.hok,I.len⟩
theorem SP.unwish {D:Ends}{f:Flow}{s':Shared}(h:SP (X.wish E) pins D f s'):SP X pins D f s':=by
 cases f with
 | next=>obtain ⟨σ',H',I,q⟩:=h;exact ⟨σ',H',I.unwish,q⟩
 | brk=>obtain ⟨σ',H',I,q⟩:=h;exact ⟨σ',H',I.unwish,q⟩
 | cont=>obtain ⟨σ',H',I,q⟩:=h;exact ⟨σ',H',I.unwish,q⟩
 | ret u=>obtain ⟨v,σ',H',I,r,q⟩:=h;exact ⟨v,σ',H',I.unwish,r,q⟩
theorem PSs.nox {st:List Stmt}{t:TS}(h:PSs X.nox st t):PSs X st t:=fun pins s σ H D I hw =>
 wpAny_mono (h pins s σ H D (I.wish _) hw) (fun _ _ q=>q.unwish) fun _ _ z=>False.elim z
end
section
variable {X:Cx}{st:Stmt}{rest:List Stmt}{t u:TS}{e:Expr}{te:TE}{pos:Pos}
def zN1:TS:=fun D σ H=>D.nx σ H
def tSeq (t u:TS):TS:=fun D σ H=>t { D with nx:=u D } σ H
theorem zs9:PSs X [] zN1:=fun _ _ σ H _ I h=>wpAny_execs_nil ⟨σ,H,I,h⟩
theorem zb9 (h1:PS X st t) (h2:PSs X rest u):PSs X (st :: rest) (tSeq t u):=by
 intro pins s σ H D I h
 refine wpAny_execs_cons (thn (h1 pins s σ H { D with nx:=u D } I h) fun f s1 q=>?_)
 cases f with
 | next =>
  obtain ⟨σ',H',I',q⟩:=q
  exact h2 pins s1 σ' H' D I' q
 | ret v=>exact q
 | brk=>exact q
 | cont=>exact q
theorem Inv.quiet {pins:List (Addr×Obj)}{σ:St}{H:Hp}{s:Shared}(I:Inv X pins σ H s):interactive X.env=false:=by simp [interactive,I.ok.kind]
def zK8 (te:TE):TS:=fun D σ H=>te σ H fun _ H1=>D.nx σ H1
theorem zm1 (he:PE X e te) (hs:swapsWith e none pos.line X.env=pure false:=by rfl):PS X (.Expr e pos) (zK8 te):=by
 intro pins s σ H D I h
 exact wpAny_Expr_any (thn (he pins s σ H _ I h) fun v s1 ⟨x,H1,I1,r1,q1⟩=>⟨σ,H1,I1,q1⟩) I.quiet hs
def tRet (te:TE):TS:=fun D σ H=>te σ H D.rt
theorem zG4 (he:PE X e te):PS X (.Return (some e) pos) (tRet te):=by
 intro pins s σ H D I h
 exact wpAny_Return_some (thn (he pins s σ H _ I h) fun v s1 ⟨x,H1,I1,r1,q1⟩=>⟨x,σ,H1,I1,r1,q1⟩)
def tIfS (c:TT) (t u:TS):TS:=fun D σ H=>c σ H fun b H1=>if b=true then t D σ H1 else u D σ H1
theorem zN5 {c:Expr}{a b:List Stmt}{tc:TT}(hc:PT X c tc) (ha:PSs X a t) (hb:PSs X b u):PS X (.If c a b pos) (tIfS tc t u):=by
 intro pins s σ H D I h
 refine wpAny_If (thn (hc pins s σ H _ I h) fun d s1 ⟨H1,I1,q1⟩=>?_)
 cases d with
 | true=>exact ha pins s1 σ H1 D I1 q1
 | false=>exact hb pins s1 σ H1 D I1 q1
end
abbrev TG:=V->St->Hp->(St->Hp->Prop)->Prop
abbrev TGs:=List V->St->Hp->(St->Hp->Prop)->Prop
def PG (X:Cx) (target:Expr) (t:TG):Prop :=
 ∀ (pins:List (Addr×Obj)) (s:Shared) (σ:St) (H:Hp) (v:V) (u:Value) (Q:St->Hp->Prop),Inv X pins σ H s->RelV v u->t v σ H Q ->
  wpAny (model X.prog X.w) X.A (assign target X.env u) (fun _ s'=>∃ σ' H',Inv X pins σ' H' s'/\Q σ' H') X.xe s
def PGs (X:Cx) (ts:List Expr) (t:TGs):Prop :=
 ∀ (pins:List (Addr×Obj)) (s:Shared) (σ:St) (H:Hp) (vs:List V) (us:List Value) (Q:St->Hp->Prop),Inv X pins σ H s->Vals vs us->t vs σ H Q ->
  wpAny (model X.prog X.w) X.A (assignInOrder ((assignEach ts X.env).map (·.2)) us) (fun _ s'=>∃ σ' H',Inv X pins σ' H' s'/\Q σ' H') X.xe s
abbrev TSet:=V->V->V->Hp->(Hp->Prop)->Prop
def PSet (X:Cx) (t:TSet):Prop :=
 ∀ (pins:List (Addr×Obj)) (s:Shared) (σ:St) (H:Hp) (o i v:V) (ov iv u:Value) (Q:Hp->Prop),Inv X pins σ H s->RelV o ov->RelV i iv->RelV v u->t o i v H Q ->
  wpAny (model X.prog X.w) X.A (setItem ov iv u) (fun _ s'=>∃ H',Inv X pins σ H' s'/\Q H') X.xe s
section
variable {X:Cx}{pos:Pos}
def zw6 (i:Nat):TG:=fun v σ H Q=>Q (σ.set i (some v)) H
theorem z3q {i:Nat}{x:Str}(hN:X.N.Nodup) (hi:X.N[i]?=some x) (hx:Loc X.env.scope x) (hf:X.fn x=true∨X.env.scope.names.lookup x=some .local:=by first | exact .inl rfl | exact .inr rfl | assumption):PG X (.Name x pos) (zw6 i):=by
 intro pins s σ H v u Q I r h
 exact wpAny_assign_Name (z6s I hN hi hx r (fun s' I'=>⟨_,H,I',h⟩) hf)
def gNil:TGs:=fun vs σ H Q=>vs=[]/\Q σ H
def zP8 (t:TG) (u:TGs):TGs:=fun vs σ H Q=>∃ v r,vs=v :: r/\t v σ H fun σ' H'=>u r σ' H' Q
theorem z80:PGs X [] gNil:=by
 intro pins s σ H vs us Q I r h
 obtain ⟨e,h⟩:=h
 subst e
 cases r
 exact assignInOrder_nil ⟨σ,H,I,h⟩
theorem z6y {e:Expr}{es:List Expr}{t:TG}{u:TGs}(h1:PG X e t) (h2:PGs X es u)
 (hs:(assignEach (e :: es) X.env).map (·.2)=assign e X.env :: (assignEach es X.env).map (·.2):=by rfl):PGs X (e :: es) (zP8 t u):=by
 intro pins s σ H vs us Q I r h
 obtain ⟨v,vr,e1,h⟩:=h
 subst e1
 cases r with
 | cons r rr =>
  rw [hs]
  refine assignInOrder_cons (thn (h1 pins s σ H _ _ _ I r h) fun _ s1 ⟨σ1,H1,I1,q1⟩=>?_)
  exact h2 pins s1 σ1 H1 _ _ Q I1 rr q1
def gTup (K:PySem.W.Frag) (n:Nat) (t:TGs):TG:=fun v σ H Q=>∃ a xs,v=.ref a/\SqT K H a xs/\xs.length=n/\t xs σ H Q
theorem zh0 {es:List Expr}{k:Nat}{t:TGs}{n:Nat}(hc:X.calm=true) (h:PGs X es t)
 (hn:(assignEach es X.env).length=n:=by rfl) (hst:(assignEach es X.env).findIdx? (·.1)=none:=by rfl):PG X (.Tuple es k pos) (gTup X.K n t):=by
 intro pins s σ H v u Q I r hw
 obtain ⟨a,xs,e1,hq,hl,hw⟩:=hw
 subst e1
 cases r
 obtain ⟨its,rv,ht,hz⟩:=I.tuple hq
 refine assign_Tuple_tuple (I.ok.hd hc) ht (by simp [hn,← hl,rv.length]) hst fun h' hx=>?_
 have I1:Inv X pins σ H { s with heap:=h' }:=I.kept (t':=s.toks) fun b o e=>hx b o (Nat.ne_of_lt (Heap.lt_size e)) e
 exact h pins _ σ H xs _ Q I1 (by simpa using rv) hw
def gSub (to ti:TE) (t:TSet):TG:=fun v σ H Q=>to σ H fun o H1=>ti σ H1 fun i H2=>t o i v H2 fun H3=>Q σ H3
theorem zf0 {o i:Expr}{to ti:TE}{t:TSet}(ho:PE X o to) (hi:PE X i ti) (hs:PSet X t)
 (ha:∀ v,assign (.Subscript o i pos) X.env v=(do
  let ov ← holding [v] (eval o X.env)
  let iv ← holding [v,ov] (eval i X.env)
  standAt pos
  holding [v,ov,iv] (setItem ov iv v)
  release [v,ov,iv] []):=by intro _;rfl):PG X (.Subscript o i pos) (gSub to ti t):=by
 intro pins s σ H v u Q I r h
 rw [ha]
 refine wpAny_bind (wpAny_holding (thn (ho pins s σ H _ I h) fun ov s1 ⟨x,H1,I1,r1,q1⟩=>?_))
 refine wpAny_bind (wpAny_holding (thn (hi pins s1 σ H1 _ I1 q1) fun iv s2 ⟨y,H2,I2,r2,q2⟩=>?_))
 refine wpAny_bind (wpAny_standAt (wpAny_bind (wpAny_holding (thn (hs pins s2 σ H2 x y v ov iv u _ I2 r1 r2 r q2) fun _ s3 ⟨H3,I3,q3⟩=>?_))))
 exact wpAny_release ⟨σ,H3,I3,q3⟩
def tAsg (te:TE) (g:TG):TS:=fun D σ H=>te σ H fun x H1=>g x σ H1 D.nx
theorem zC7 {tg e:Expr}{te:TE}{g:TG}(he:PE X e te) (hg:PG X tg g) (hs:swapsWithSole [tg] e pos.line X.env=pure false:=by rfl) (hw:swappedStores [tg] e X.env=pure none:=by rfl)
 (h1:(assignEach [tg] X.env).map (·.2)=[assign tg X.env]:=by rfl):PS X (.Assign [tg] e pos) (tAsg te g):=by
 intro pins s σ H D I h
 refine wpAny_Assign_stores (thn (he pins s σ H _ I h) fun v s1 ⟨x,H1,I1,r1,q1⟩=>?_) hs hw
 rw [h1]
 exact thn (hg pins s1 σ H1 x v _ I1 r1 q1) fun _ s2 q=>q
theorem zD0 {i:Nat}{x:Str}{e:Expr}{te:TE}{pos':Pos}(hN:X.N.Nodup) (hi:X.N[i]?=some x) (hx:Loc X.env.scope x) (he:PE X e te) (hs:swapsWith e (some (.Name x pos')) pos.line X.env=pure false:=by rfl) (hf:X.fn x=true∨X.env.scope.names.lookup x=some .local:=by first | exact .inl rfl | exact .inr rfl | assumption) :
 PS X (.Assign [.Name x pos'] e pos) (tAsg te (zw6 i)):=by
 intro pins s σ H D I h
 refine wpAny_Assign_Name (thn (he pins s σ H _ I h) fun v s1 ⟨y,H1,I1,r1,q1⟩=>?_) hs
 exact z6s I1 hN hi hx r1 (fun s2 I2=>⟨_,H1,I2,q1⟩) hf
end
section
variable {X:Cx}{pos:Pos}
def zA6 (c:TT) (tb:TS):TS:=fun D σ H=>∃ W:Nat->St->Hp->Prop,(∃ m,W m σ H)/\∀ m σ H,W m σ H ->
 c σ H fun b H1=>if b=true then ∃ N:St->Hp->Prop,(∀ σ' H',N σ' H'->∃ m',m'<m/\W m' σ' H')/\tb { D with nx:=N,ct:=N,bk:=D.nx } σ H1 else D.nx σ H1
theorem z9H {c:Expr}{body:List Stmt}{tc:TT}{tb:TS}(hp:PassesOwn (model X.prog X.w) X.A X.env X.xe) (hc:PT X c tc) (hb:PSs X body tb):PS X (.While c body [] pos) (zA6 tc tb):=by
 intro pins s σ H D I h
 obtain ⟨W,⟨m0,w0⟩,turn⟩:=h
 refine wpAny_While (codeAny_whileLoop (fun n s'=>∃ σ' H',Inv X pins σ' H' s'/\W n σ' H') ?_ m0 ⟨σ,H,I,w0⟩)
 rintro n s1 ⟨σ1,H1,I1,w1⟩
 refine wpAny_passesOwn hp (thn (hc pins s1 σ1 H1 _ I1 (turn n σ1 H1 w1)) fun b s2 ⟨H2,I2,q2⟩=>?_)
 cases b with
 | true =>
  obtain ⟨N,hN,q2⟩:=q2
  rw [if_pos rfl]
  refine wpAny_passesOwn hp (thn (hb pins s2 σ1 H2 _ I2 q2) fun f s3 q3=>?_)
  cases f with
  | next =>
   obtain ⟨σ3,H3,I3,n3⟩:=q3
   obtain ⟨m',hm,w3⟩:=hN σ3 H3 n3
   exact ⟨m',hm,σ3,H3,I3,w3⟩
  | cont =>
   obtain ⟨σ3,H3,I3,n3⟩:=q3
   obtain ⟨m',hm,w3⟩:=hN σ3 H3 n3
   exact ⟨m',hm,σ3,H3,I3,w3⟩
  | brk=>exact q3
  | ret v=>exact q3
 | false =>
  rw [if_neg Bool.false_ne_true]
  exact wpAny_execs_nil ⟨σ1,H2,I2,q2⟩
end
structure It where
 go:Nat->Hp->Prop
 yld:Nat->Hp->V->Hp->Prop
 stop:Nat->Hp->Prop
def FpOk (X:Cx) (pins:List (Addr×Obj)) (H:Hp) (b:Addr):Prop :=
 H b=none/\b≠X.env.locals/\b∉X.fs/\(b∈X.ex∨X.s₀.heap.objs.size≤b)/\(∀ x c,X.env.cells.lookup x=some c->c≠b)/\∀ p∈X.pn++pins,p.1≠b
theorem Inv.fpOk {X:Cx}{pins:List (Addr×Obj)}{σ:St}{H H':Hp}{s:Shared}{b:Addr}(I:Inv X pins σ H s) (hb:s.heap.objs.size≤b) (hn:H' b=none):FpOk X pins H' b:=by
 refine ⟨hn,Nat.ne_of_gt (Nat.lt_of_lt_of_le I.lt hb),I.nofs hb,.inr (Nat.le_trans I.sz hb),fun x c e z=>?_,fun p hp z=>?_⟩
 ·obtain ⟨v,q⟩:=I.cell x c e
  exact absurd (Nat.lt_of_lt_of_le q.lt (by rw [z];exact hb)) (Nat.lt_irrefl _)
 ·exact absurd (Nat.lt_of_lt_of_le (Heap.lt_size (I.pin p hp).1) (by rw [z];exact hb)) (Nat.lt_irrefl _)
structure Turn (P:Program) (w:World) (K:PySem.W.Frag) (tg:Expr) (J:It) (fp:List Addr) (it:Addr) (tn:Nat->Heap->Prop):Prop where
 mem:it∈fp
 obj:∀ i h,tn i h->∀ b∈fp,∃ o,h.get? b=some o/\∀ v,o.data≠.cell v
 keep:∀ i h h',tn i h->(∀ b∈fp,∀ o,h.get? b=some o->h'.get? b=some o)->tn i h'
 item:∀ (X:Cx),X.prog=P->X.w=w->X.K=K->X.calm=true->∀ (i:Nat) (pins:List (Addr×Obj)) (s:Shared) (σ:St) (H:Hp) (E:Value->Shared->Prop),Inv X pins σ H s->(∀ b∈fp,FpOk X pins H b)->tn i s.heap->J.go i H ->
  wpAny (model P w) X.A (pyNext (.ref it)) (fun r s1=>∃ u,r=some u /\
   wpAny (model P w) X.A (letOwnedTupleGo tg (.ref it) u) (fun _ s2=>∃ x H',Inv X pins σ H' s2/\RelV x u/\J.yld i H x H'/\tn (i+1) s2.heap/\∀ b∈fp,H' b=none) E s1) E s
 done:∀ (X:Cx),X.prog=P->X.w=w->X.K=K->X.calm=true->∀ (i:Nat) (pins:List (Addr×Obj)) (s:Shared) (σ:St) (H:Hp) (E:Value->Shared->Prop),Inv X pins σ H s->(∀ b∈fp,FpOk X pins H b)->tn i s.heap->J.stop i H ->
  wpAny (model P w) X.A (pyNext (.ref it)) (fun r s1=>r=none/\Inv X pins σ H s1) E s
 self:∀ (A:Around) (i:Nat) (s:Shared) (Q:Value->Shared->Prop) (E:Value->Shared->Prop),tn i s.heap->Q (.ref it) s->wpAny (model P w) A (pyIter (.ref it)) Q E s
abbrev TI:=St->Hp->(It->Hp->Prop)->Prop
def PIE (X:Cx) (pins:List (Addr×Obj)) (σ:St) (tg:Expr) (R:It->Hp->Prop) (itv:Value) (s2:Shared):Prop :=
 ∃ (it:Addr) (fp:List Addr) (tn:Nat->Heap->Prop) (J:It) (H':Hp),itv=.ref it/\Inv X pins σ H' s2/\Turn X.prog X.w X.K tg J fp it tn/\tn 0 s2.heap/\(∀ b∈fp,FpOk X pins H' b)/\R J H'
def PI (X:Cx) (tg iter:Expr) (wi:TI):Prop :=
 ∀ (pins:List (Addr×Obj)) (s:Shared) (σ:St) (H:Hp) (R:It->Hp->Prop),Inv X pins σ H s->wi σ H R ->
  wpAny (model X.prog X.w) X.A (eval iter X.env) (fun v s1=>wpAny (model X.prog X.w) X.A (pyIter v) (PIE X pins σ tg R) X.xe s1) X.xe s
theorem zd7 {M:Model}{A:Around}{E:Value->Shared->Prop}{s:Shared}{tg:Expr}{it:Addr}{u:Value}{o:Obj}{n:String}{vs:Array Value}{Q:Unit->Shared->Prop}(ho:s.heap.get? it=some o) (hc:o.cls=.type n) (hd:o.data=.fields vs)
 (hn:["enumerate","zip","dict_itemiterator","dict_reverseitemiterator","odict_iterator","itertools.zip_longest","itertools.pairwise"].contains n=false) (hQ:Q () s):wpAny M A (letOwnedTupleGo tg (.ref it) u) Q E s:=by
 unfold letOwnedTupleGo
 cases tg<;>first
  | exact wpAny_pure hQ
  | (cases u<;>first
      | exact wpAny_pure hQ
      | (refine wpAny_bind (wpAny_load ho ?_)
         rw [hc,hd]
         show wpAny M A (if (["enumerate","zip","dict_itemiterator","dict_reverseitemiterator","odict_iterator","itertools.zip_longest","itertools.pairwise"].contains n && vs[0]? == some (rawInt _))=true then _ else _) Q E s
         rw [if_neg (by intro h;rw [hn,Bool.false_and] at h;cases h)]
         exact wpAny_pure hQ))
def Itl (K:PySem.W.Frag) (a:Addr):It :=
 ⟨fun i H=>∃ xs x,SqL K H a xs/\xs[i]?=some x,fun i H x H'=>H'=H/\∀ xs,SqL K H a xs->xs[i]?=some x,fun i H=>∃ xs,SqL K H a xs/\xs.length≤i⟩
def Itt (K:PySem.W.Frag) (a:Addr):It :=
 ⟨fun i H=>∃ xs x,SqT K H a xs/\xs[i]?=some x,fun i H x H'=>H'=H/\∀ xs,SqT K H a xs->xs[i]?=some x,fun i H=>∃ xs,SqT K H a xs/\xs.length≤i⟩
def Itr (lo:Int) (n:Nat):It:=⟨fun i _=>i<n,fun i H x H'=>H'=H/\x=.int (lo+i),fun i _=>n≤i⟩
theorem z7C {P:Program}{w:World}{K:PySem.W.Frag}{tg:Expr}(a it:Addr):Turn P w K tg (Itl K a) [it] it (fun i h=>h.IsListIter it a i) where
 mem:=by simp
 obj:=fun i h st b hb=>by
  have e:b=it:=by simpa using hb
  subst e
  obtain ⟨o,e,c,d⟩:=st
  exact ⟨o,e,fun v z=>by rw [d] at z;cases z⟩
 keep:=fun i h h' st k=>st.at fun o e=>k it (by simp) o e
 item:=by
  intro X hP hw hK hc i pins s σ H E I hf st hg
  subst hP hw hK
  obtain ⟨xs,x,hq,hx⟩:=hg
  obtain ⟨its,rv,p,hz⟩:=I.list hq
  obtain ⟨u,hu,ru⟩:=rv.get hx
  obtain ⟨f0,f1,f2,f3,f4,f5⟩:=hf it (by simp)
  refine wpAny_pyNext_list_item st p.isList (x:=u) (by simpa using hu) fun h' st' sb=>?_
  have I1:Inv X pins σ H { s with heap:=h' }:=I.turned (t':=s.toks) (fun b o hb e=>(sb.2 b hb).trans e) f0 f1 f3 f4 f5
  obtain ⟨o,e,c,d⟩:=id st'
  exact ⟨u,rfl,zd7 (s:={ s with heap:=h' }) e c d (by decide) ⟨x,H,I1,ru,⟨rfl,fun ys hy=>by rw [I.list_inj hy hq];exact hx⟩,st',fun b hb=>(hf b hb).1⟩⟩
 done:=by
  intro X hP hw hK hc i pins s σ H E I hf st hg
  subst hP hw hK
  obtain ⟨xs,hq,hx⟩:=hg
  obtain ⟨its,rv,p,hz⟩:=I.list hq
  obtain ⟨f0,f1,f2,f3,f4,f5⟩:=hf it (by simp)
  have hl:=rv.length
  exact wpAny_pyNext_list_end (I.ok.hd hc) st p.isList (by simp;omega) fun h' eb=>⟨rfl,I.turned (t':=s.toks) (fun b o hb e=>eb b o hb e) f0 f1 f3 f4 f5⟩
 self:=fun _ _ _ _ _ st h=>wpAny_pyIter_listiter st h
theorem z7f {P:Program}{w:World}{K:PySem.W.Frag}{tg:Expr}(a it:Addr):Turn P w K tg (Itt K a) [it] it (fun i h=>h.IsTupleIter it a i) where
 mem:=by simp
 obj:=fun i h st b hb=>by
  have e:b=it:=by simpa using hb
  subst e
  obtain ⟨o,e,c,d⟩:=st
  exact ⟨o,e,fun v z=>by rw [d] at z;cases z⟩
 keep:=fun i h h' st k=>st.at fun o e=>k it (by simp) o e
 item:=by
  intro X hP hw hK hc i pins s σ H E I hf st hg
  subst hP hw hK
  obtain ⟨xs,x,hq,hx⟩:=hg
  obtain ⟨its,rv,p,hz⟩:=I.tuple hq
  obtain ⟨u,hu,ru⟩:=rv.get hx
  obtain ⟨f0,f1,f2,f3,f4,f5⟩:=hf it (by simp)
  refine wpAny_pyNext_tuple_item st (show s.heap.IsTuple a its.toArray from p) (x:=u) (by simpa using hu) fun h' st' sb=>?_
  have I1:Inv X pins σ H { s with heap:=h' }:=I.turned (t':=s.toks) (fun b o hb e=>(sb.2 b hb).trans e) f0 f1 f3 f4 f5
  obtain ⟨o,e,c,d⟩:=id st'
  exact ⟨u,rfl,zd7 (s:={ s with heap:=h' }) e c d (by decide) ⟨x,H,I1,ru,⟨rfl,fun ys hy=>by rw [I.tuple_inj hy hq];exact hx⟩,st',fun b hb=>(hf b hb).1⟩⟩
 done:=by
  intro X hP hw hK hc i pins s σ H E I hf st hg
  subst hP hw hK
  obtain ⟨xs,hq,hx⟩:=hg
  obtain ⟨its,rv,p,hz⟩:=I.tuple hq
  obtain ⟨f0,f1,f2,f3,f4,f5⟩:=hf it (by simp)
  have hl:=rv.length
  exact wpAny_pyNext_tuple_end (I.ok.hd hc) st (show s.heap.IsTuple a its.toArray from p) (by simp;omega) fun h' eb=>⟨rfl,I.turned (t':=s.toks) (fun b o hb e=>eb b o hb e) f0 f1 f3 f4 f5⟩
 self:=fun _ _ _ _ _ st h=>wpAny_pyIter_tupleiter st h
theorem z73 {P:Program}{w:World}{K:PySem.W.Frag}{tg:Expr}(it:Addr) (lo:Int) (n:Nat):Turn P w K tg (Itr lo n) [it] it (fun i h=>IsRangeIter h it (lo+(i:Nat) * 1) ((n:Int) - (i:Nat)) 1) where
 mem:=by simp
 obj:=fun i h st b hb=>by
  have e:b=it:=by simpa using hb
  subst e
  exact ⟨_,st,fun v z=>by
   have z':Data.fields _=Data.cell v:=z
   cases z'⟩
 keep:=fun i h h' st k=>k it (by simp) _ st
 item:=by
  intro X hP hw hK hc i pins s σ H E I hf st hg
  subst hP hw hK
  obtain ⟨f0,f1,f2,f3,f4,f5⟩:=hf it (by simp)
  have W:=Walks.range (prog:=X.prog) (w:=X.w) (I.ok.hd hc) it lo 1 n
  refine W.item i s _ _ hg st fun v h' tk hv st' kk=>?_
  obtain ⟨t,rfl⟩:=hv
  have I1:Inv X pins σ H { s with heap:=h',toks:=tk }:=I.turned (fun b o hb e=>kk b o (by simpa using hb) e) f0 f1 f3 f4 f5
  refine ⟨_,rfl,zd7 (s:={ s with heap:=h',toks:=tk }) (n:="range_iterator") st' rfl rfl (by decide) ⟨.int (lo+i),H,I1,⟨t,?_⟩,⟨rfl,rfl⟩,st',fun b hb=>(hf b hb).1⟩⟩
  rw [Int.mul_one]
 done:=by
  intro X hP hw hK hc i pins s σ H E I hf st hg
  subst hP hw hK
  obtain ⟨f0,f1,f2,f3,f4,f5⟩:=hf it (by simp)
  exact wpAny_pyNext_range_end (I.ok.hd hc) st (by have:n≤i:=hg;omega) fun h' eb=>⟨rfl,I.turned (t':=s.toks) (fun b o hb e=>eb b o hb e) f0 f1 f3 f4 f5⟩
 self:=fun _ _ _ _ _ st h=>wpAny_pyIter_rangeiter st h
section
variable {X:Cx}{tg:Expr}
def zO1 (K:PySem.W.Frag) (tl:TE):TI:=fun σ H R=>tl σ H fun x H1=>∃ a,x=.ref a/\(∃ xs,SqL K H1 a xs)/\R (Itl K a) H1
def iTup (K:PySem.W.Frag) (tl:TE):TI:=fun σ H R=>tl σ H fun x H1=>∃ a,x=.ref a/\(∃ xs,SqT K H1 a xs)/\R (Itt K a) H1
theorem zk4 {l:Expr}{tl:TE}(hl:PE X l tl):PI X tg l (zO1 X.K tl):=by
 intro pins s σ H R I h
 refine thn (hl pins s σ H _ I h) fun v s1 ⟨x,H1,I1,r1,q1⟩=>?_
 obtain ⟨a,e,⟨xs,hq⟩,q⟩:=q1
 subst e
 cases r1
 obtain ⟨its,rv,p,hz⟩:=I1.list hq
 refine wpAny_pyIter_list p.isList ?_
 refine ⟨s1.heap.objs.size,[s1.heap.objs.size],_,_,H1,rfl,I1.kept (t':=s1.toks) fun b o e=>Heap.get?_push_of_some _ e,z7C a _,⟨_,Heap.get?_push_size _ rfl,rfl,rfl⟩,fun b hb=>?_,q⟩
 have e:b=s1.heap.objs.size:=by simpa using hb
 subst e
 exact I1.fpOk (Nat.le_refl _) (I1.hok.fresh (Nat.le_refl _))
theorem zI2 {l:Expr}{tl:TE}(hl:PE X l tl):PI X tg l (iTup X.K tl):=by
 intro pins s σ H R I h
 refine thn (hl pins s σ H _ I h) fun v s1 ⟨x,H1,I1,r1,q1⟩=>?_
 obtain ⟨a,e,⟨xs,hq⟩,q⟩:=q1
 subst e
 cases r1
 obtain ⟨its,rv,p,hz⟩:=I1.tuple hq
 refine wpAny_pyIter_tuple (show s1.heap.IsTuple a its.toArray from p) ?_
 refine ⟨s1.heap.objs.size,[s1.heap.objs.size],_,_,H1,rfl,I1.kept (t':=s1.toks) fun b o e=>Heap.get?_push_of_some _ e,z7f a _,⟨_,Heap.get?_push_size _ rfl,rfl,rfl⟩,fun b hb=>?_,q⟩
 have e:b=s1.heap.objs.size:=by simpa using hb
 subst e
 exact I1.fpOk (Nat.le_refl _) (I1.hok.fresh (Nat.le_refl _))
theorem z9y {pins:List (Addr×Obj)}{σ:St}{H:Hp}{s:Shared}{R:It->Hp->Prop}{E:Value->Shared->Prop}{lo hi:Int}{t u v:Tok}{tk:Nat}(I:Inv X pins σ H s) (h1:-(2 ^ 62)≤lo) (h2:lo<2 ^ 62) (h3:-(2 ^ 62)≤hi) (h4:hi<2 ^ 62)
 (q:R (Itr lo (hi - lo).toNat) H):wpAny (model X.prog X.w) X.A (pyIter (.ref s.heap.objs.size)) (PIE X pins σ tg R) E { s with heap:=s.heap.push { cls:=.type "range",data:=.fields #[.int lo t,.int hi u,.int 1 v] },toks:=tk }:=by
 refine wpAny_pyIter_range (IsRange.new ..) (small_one h1 h2 h3 h4) ?_
 have I1:Inv X pins σ H { s with heap:=s.heap.push { cls:=.type "range",data:=.fields #[.int lo t,.int hi u,.int 1 v] },toks:=tk }:=I.kept fun b o e=>Heap.get?_push_of_some _ e
 refine ⟨(s.heap.push { cls:=.type "range",data:=.fields #[.int lo t,.int hi u,.int 1 v] }).objs.size,[(s.heap.push { cls:=.type "range",data:=.fields #[.int lo t,.int hi u,.int 1 v] }).objs.size],_,_,H,rfl,
  I1.kept (t':=tk) fun b o e=>Heap.get?_push_of_some _ e,z73 _ lo (hi - lo).toNat,?_,fun b hb=>?_,q⟩
 ·have e1:lo+((0:Nat):Int) * 1=lo:=by simp
  have e2:(((hi - lo).toNat:Nat):Int) - ((0:Nat):Int)=Builtin.Range.rangeSize lo hi 1:=by rw [rangeSize_one];split<;>omega
  show IsRangeIter _ _ (lo+((0:Nat):Int) * 1) ((((hi - lo).toNat:Nat):Int) - ((0:Nat):Int)) 1
  rw [e1,e2]
  exact Heap.get?_push_size _ rfl
 ·have e:b=(s.heap.push { cls:=.type "range",data:=.fields #[.int lo t,.int hi u,.int 1 v] }).objs.size:=by simpa using hb
  subst e
  exact I1.fpOk (Nat.le_refl _) (I1.hok.fresh (Nat.le_refl _))
def zM7 (ta:TA):TI:=fun σ H R=>ta σ H fun vs H1=>∃ j:Int,vs=[.int j]/\-(2 ^ 62)≤j/\j<2 ^ 62/\R (Itr 0 j.toNat) H1
theorem z8O {a:Expr}{ta:TA}{p pos:Pos}(hg:Gl X "range") (hm:X.mg "range" = none) (ha:PA X [a] ta) (hs:starEach [a] X.env=[(false,eval a X.env)]:=by rfl):PI X tg (.Call (.Name "range" p) [a] [] pos) (zM7 ta):=by
 intro pins s σ H R I h
 refine Call_ (z3C I hg hm boot_range (PyProof.Rows.callWith_type1 (thn (ha pos pins s σ H _ I h) fun us s1 ⟨vs,H1,I1,r1,q1⟩=>?_) hs rfl))
 obtain ⟨j,e,q1,q2,q⟩:=q1
 subst e
 cases r1 with
 | cons r rr =>
  cases rr
  obtain ⟨t,rfl⟩:=r
  exact call_range_1 (z9y I1 (by omega) (by omega) q1 q2 (by simpa using q))
def tFor (wi:TI) (g:TG) (tb:TS):TS:=fun D σ H=>wi σ H fun J H1=>∃ W:Nat->Nat->St->Hp->Prop,(∃ m,W 0 m σ H1)/\∀ i m σ H,W i m σ H ->
 (J.stop i H/\D.nx σ H)∨(J.go i H/\∃ N:St->Hp->Prop,(∀ σ' H',N σ' H'->∃ m',m'<m/\W (i+1) m' σ' H')/\∀ x H',J.yld i H x H'->g x σ H' fun σ2 H2=>tb { D with nx:=N,ct:=N,bk:=D.nx } σ2 H2)
def z1G (fp:List Addr) (h:Heap):List (Addr×Obj):=fp.filterMap fun b=>(h.get? b).map fun o=>(b,o)
theorem k9 {fp:List Addr}{h:Heap}{b:Addr}{o:Obj}(hb:b∈fp) (e:h.get? b=some o):(b,o)∈z1G fp h:=List.mem_filterMap.mpr ⟨b,hb,by rw [e];rfl⟩
theorem z8J {fp:List Addr}{h:Heap}{p:Addr×Obj}(hp:p∈z1G fp h):p.1∈fp/\h.get? p.1=some p.2:=by
 obtain ⟨b,hb,e⟩:=List.mem_filterMap.mp hp
 cases q:h.get? b with
 | none=>rw [q] at e;cases e
 | some o =>
  rw [q] at e
  have e':(b,o)=p:=Option.some.inj e
  subst e'
  exact ⟨hb,q⟩
theorem Inv.pinned {pins:List (Addr×Obj)}{σ:St}{H:Hp}{s:Shared}{fp:List Addr}(I:Inv X pins σ H s) (hf:∀ b∈fp,FpOk X pins H b) (ho:∀ b∈fp,∃ o,s.heap.get? b=some o/\∀ v,o.data≠.cell v):Inv X (pins++z1G fp s.heap) σ H s :=
 I.pins_of fun p hp=>(List.mem_append.mp hp).elim (fun z=>I.pin p (List.mem_append_right _ z)) fun z=>by
  obtain ⟨hb,e⟩:=z8J z
  obtain ⟨f0,f1,f2,_⟩:=hf p.1 hb
  obtain ⟨o,e',d⟩:=ho p.1 hb
  rw [e] at e';cases e'
  exact ⟨e,f0,f1,f2,d⟩
theorem Inv.unpinned {pins pl:List (Addr×Obj)}{σ:St}{H:Hp}{s:Shared}(I:Inv X (pins++pl) σ H s):Inv X pins σ H s:=I.pins_of fun p hp=>I.pin p (List.mem_append_right _ (List.mem_append_left _ hp))
theorem zx5 {iter:Expr}{body:List Stmt}{wi:TI}{g:TG}{tb:TS}{pos:Pos}(hp:PassesOwn (model X.prog X.w) X.A X.env X.xe) (hc:X.calm=true) (hi:PI X tg iter wi) (hg:PG X tg g) (hb:PSs X body tb)
 (hs:∀ x,foldedSetIterable iter X.env x=pure x:=by intro _;rfl):PS X (.For tg iter body [] pos) (tFor wi g tb):=by
 intro pins s σ H D I h
 refine wpAny_For (thn (hi pins s σ H _ I h) fun v s1 h1=>thn h1 fun itv s2 h2=>?_) hs
 obtain ⟨it,fp,tn,J,H2,e,I2,T,st2,f2,W,⟨m0,w0⟩,turn⟩:=h2
 subst e
 have stat:∀ {H':Hp},(∀ b∈fp,H' b=none)->∀ b∈fp,FpOk X pins H' b:=fun hn b hb=>⟨hn b hb,(f2 b hb).2⟩
 refine codeAny_forLoop_any (fun n s'=>∃ i σ' H',Inv X pins σ' H' s'/\tn i s'.heap/\(∀ b∈fp,H' b=none)/\W i n σ' H') ?_ m0 ⟨0,σ,H2,I2,st2,fun b hb=>(f2 b hb).1,w0⟩
 rintro n s3 ⟨i,σ3,H3,I3,st3,fr3,w3⟩
 rcases turn i n σ3 H3 w3 with ⟨stop,qn⟩ | ⟨go,N,hN,step⟩
 ·refine wpAny_passesOwn hp (thn (T.done X rfl rfl rfl hc i pins s3 σ3 H3 X.xe I3 (stat fr3) st3 stop) fun r s4 ⟨hr,I4⟩=>?_)
  subst hr
  exact wpAny_execs_nil ⟨σ3,H3,I4,qn⟩
 ·refine wpAny_passesOwn hp (thn (T.item X rfl rfl rfl hc i pins s3 σ3 H3 X.xe I3 (stat fr3) st3 go) fun r s4 ⟨u,hr,h4⟩=>?_)
  subst hr
  refine wpAny_passesOwn hp (thn h4 fun _ s5 ⟨x,H5,I5,r5,y5,st5,fr5⟩=>?_)
  have I5':=I5.pinned (stat fr5) (T.obj _ _ st5)
  refine wpAny_passesOwn hp (thn (hg _ s5 σ3 H5 x u _ I5' r5 (step x H5 y5)) fun _ s6 ⟨σ6,H6,I6,q6⟩=>?_)
  refine wpAny_passesOwn hp (thn (hb _ s6 σ6 H6 _ I6 q6) fun f s7 q7=>?_)
  have again:∀ {σ7:St} {H7:Hp},Inv X (pins++z1G fp s5.heap) σ7 H7 s7->N σ7 H7->∃ m,m<n/\∃ i σ' H',Inv X pins σ' H' s7/\tn i s7.heap/\(∀ b∈fp,H' b=none)/\W i m σ' H':=fun {σ7 H7} I7 n7=>by
   obtain ⟨m',hm,w7⟩:=hN σ7 H7 n7
   refine ⟨m',hm,i+1,σ7,H7,I7.unpinned,T.keep _ _ _ st5 fun b hb o e=>(I7.pin (b,o) (List.mem_append_right _ (List.mem_append_right _ (k9 hb e)))).1,fun b hb=>?_,w7⟩
   obtain ⟨o,e,d⟩:=T.obj _ _ st5 b hb
   exact (I7.pin (b,o) (List.mem_append_right _ (List.mem_append_right _ (k9 hb e)))).2.1
  cases f with
  | next=>obtain ⟨σ7,H7,I7,n7⟩:=q7;exact again I7 n7
  | cont=>obtain ⟨σ7,H7,I7,n7⟩:=q7;exact again I7 n7
  | brk=>obtain ⟨σ7,H7,I7,q7⟩:=q7;exact ⟨σ7,H7,I7.unpinned,q7⟩
  | ret v=>obtain ⟨x7,σ7,H7,I7,r7,q7⟩:=q7;exact ⟨x7,σ7,H7,I7.unpinned,r7,q7⟩
end
theorem z1e {lo:Int}{n:Nat}{g:TG}{tb:TS}{D:Ends}{σ:St}{H:Hp}(Pv:Nat->St->Hp->Prop) (h0:Pv 0 σ H)
 (hs:∀ i σ H,i<n->Pv i σ H->g (.int (lo+i)) σ H fun σ2 H2=>tb { D with nx:=Pv (i+1),ct:=Pv (i+1),bk:=D.nx } σ2 H2) (hd:∀ σ H,Pv n σ H->D.nx σ H) :
 ∃ W:Nat->Nat->St->Hp->Prop,(∃ m,W 0 m σ H)/\∀ i m σ H,W i m σ H ->
  ((Itr lo n).stop i H/\D.nx σ H)∨((Itr lo n).go i H/\∃ N:St->Hp->Prop,(∀ σ' H',N σ' H'->∃ m',m'<m/\W (i+1) m' σ' H')/\∀ x H',(Itr lo n).yld i H x H'->g x σ H' fun σ2 H2=>tb { D with nx:=N,ct:=N,bk:=D.nx } σ2 H2):=by
 refine ⟨fun i m σ H=>m=n - i/\i≤n/\Pv i σ H,⟨n,by simp,Nat.zero_le _,h0⟩,?_⟩
 rintro i m σ H ⟨rfl,hi,p⟩
 by_cases hlt:i<n
 ·refine .inr ⟨hlt,Pv (i+1),fun σ' H' p'=>⟨n - (i+1),by omega,rfl,hlt,p'⟩,fun x H' y=>?_⟩
  obtain ⟨e,y⟩:=y
  subst e y
  exact hs i σ _ hlt p
 ·have e:i=n:=by omega
  subst e
  exact .inl ⟨Nat.le_refl _,hd σ H p⟩
abbrev R2:=V->V->Hp->VK->Prop
def OpR (X:Cx) (f:Value->Value->Sem Value) (r:R2):Prop :=
 ∀ (pins:List (Addr×Obj)) (s:Shared) (σ:St) (H:Hp) (x y:V) (v u:Value) (Q:VK),Inv X pins σ H s->RelV x v->RelV y u->r x y H Q ->
  wpAny (model X.prog X.w) X.A (f v u) (EP X pins σ Q) X.xe s
def z1y (X:Cx) (f:Value) (r:List V->Hp->VK->Prop):Prop :=
 ∀ (pins:List (Addr×Obj)) (s:Shared) (σ:St) (H:Hp) (xs:List V) (us:List Value) (Q:VK),Inv X pins σ H s->Vals xs us->r xs H Q ->
  wpAny (model X.prog X.w) X.A (call f us) (EP X pins σ Q) X.xe s
def TruR (X:Cx) (r:V->Hp->(Bool->Hp->Prop)->Prop):Prop :=
 ∀ (pins:List (Addr×Obj)) (s:Shared) (σ:St) (H:Hp) (x:V) (v:Value) (Q:Bool->Hp->Prop),Inv X pins σ H s->RelV x v->r x H Q ->
  wpAny (model X.prog X.w) X.A (truthy v) (TP X pins σ Q) X.xe s
def tOp (r:R2) (ta tb:TE):TE:=fun σ H Q=>ta σ H fun x H1=>tb σ H1 fun y H2=>r x y H2 Q
def rI (C:Int->Int->Prop) (g:Int->Int->V):R2:=fun x y H Q=>∃ i j,x=.int i/\y=.int j/\C i j/\Q (g i j) H
def rI0 (g:Int->Int->V):R2:=fun x y H Q=>∃ i j,x=.int i/\y=.int j/\Q (g i j) H
section
variable {X:Cx}{a b c:Expr}{ta tb tc:TE}{pos:Pos}
theorem binT (ha:PE X a ta) (hb:PE X b tb) {pins:List (Addr×Obj)}{s:Shared}{σ:St}{H:Hp}{R:V->V->Hp->Prop}(I:Inv X pins σ H s)
 (h:ta σ H fun x H1=>tb σ H1 fun y H2=>R x y H2) {Q:Value->Shared->Prop} {f:Value->Value->Sem Value}
 (hf:∀ v u s2 x y H2,Inv X pins σ H2 s2->RelV x v->RelV y u->R x y H2->wpAny (model X.prog X.w) X.A (f v u) Q X.xe s2) :
 wpAny (model X.prog X.w) X.A (eval a X.env) (fun v s₁=>wpAny (model X.prog X.w) X.A (eval b X.env) (fun u s₂=>wpAny (model X.prog X.w) X.A (f v u) Q X.xe s₂) X.xe s₁) X.xe s:=by
 refine thn (ha pins s σ H _ I h) fun v s1 ⟨x,H1,I1,r1,q1⟩=>?_
 refine thn (hb pins s1 σ H1 _ I1 q1) fun u s2 ⟨y,H2,I2,r2,q2⟩=>?_
 exact hf v u s2 x y H2 I2 r1 r2 q2
theorem zM0 {op:Operator}{r:R2}(ho:OpR X (binaryOp op) r) (ha:PE X a ta) (hb:PE X b tb):PE X (.BinOp a op b pos) (tOp r ta tb):=by
 intro pins s σ H Q I h
 exact wpAny_BinOp (binT ha hb I h fun v u s2 x y H2 I2 rx ry q=>ho pins s2 σ H2 x y v u Q I2 rx ry q)
theorem opI {f:Value->Value->Sem Value}{C:Int->Int->Prop}{g:Int->Int->Int}
 (rule:∀ (i j:Int) (t u:Tok) (s:Shared) (Q:Value->Shared->Prop) (E:Value->Shared->Prop),C i j->Q (.int (g i j) s.toks) { s with toks:=s.toks+1 }->wpAny (model X.prog X.w) X.A (f (.int i t) (.int j u)) Q E s) :
 OpR X f (rI C fun i j=>.int (g i j)):=by
 intro pins s σ H x y v u Q I rx ry h
 obtain ⟨i,j,rfl,rfl,hc,q⟩:=h
 obtain ⟨t,rfl⟩:=rx
 obtain ⟨t',rfl⟩:=ry
 exact rule i j t t' s _ _ hc ⟨.int (g i j),H,I.tok _,⟨_,rfl⟩,q⟩
theorem opI0 {f:Value->Value->Sem Value}{g:Int->Int->Int}
 (rule:∀ (i j:Int) (t u:Tok) (s:Shared) (Q:Value->Shared->Prop) (E:Value->Shared->Prop),Q (.int (g i j) s.toks) { s with toks:=s.toks+1 }->wpAny (model X.prog X.w) X.A (f (.int i t) (.int j u)) Q E s) :
 OpR X f (rI0 fun i j=>.int (g i j)):=by
 intro pins s σ H x y v u Q I rx ry h
 obtain ⟨i,j,rfl,rfl,q⟩:=h
 obtain ⟨t,rfl⟩:=rx
 obtain ⟨t',rfl⟩:=ry
 exact rule i j t t' s _ _ ⟨.int (g i j),H,I.tok _,⟨_,rfl⟩,q⟩
theorem opB0 {f:Value->Value->Sem Value}{g:Int->Int->Bool}
 (rule:∀ (i j:Int) (t u:Tok) (s:Shared) (Q:Value->Shared->Prop) (E:Value->Shared->Prop),Q (.bool (g i j)) s->wpAny (model X.prog X.w) X.A (f (.int i t) (.int j u)) Q E s) :
 OpR X f (rI0 fun i j=>.bl (g i j)):=by
 intro pins s σ H x y v u Q I rx ry h
 obtain ⟨i,j,rfl,rfl,q⟩:=h
 obtain ⟨t,rfl⟩:=rx
 obtain ⟨t',rfl⟩:=ry
 exact rule i j t t' s _ _ ⟨.bl (g i j),H,I,rfl,q⟩
def CDiv (i j:Int):Prop:=0<j/\j<1073741824
def CPow (i j:Int):Prop:=0≤j/\j≤1000000/\i.natAbs<2 ^ 64
def CMul (i j:Int):Prop:=(-(2 ^ 64)<i/\i<2 ^ 64)∨(-(2 ^ 64)<j/\j<2 ^ 64)
theorem CMul.ok {i j:Int}(h:CMul i j):IntMulOk i j:=by
 rcases h with ⟨h1,h2⟩ | ⟨h1,h2⟩
 ·exact .of_left (intBits_le_64 h1 h2)
 ·exact .of_right (intBits_le_64 h1 h2)
theorem op_add:OpR X (binaryOp .Add) (rI0 fun i j=>.int (i+j)):=opI0 fun _ _ _ _ _ _ _ q=>add_int q
theorem op_mul:OpR X (binaryOp .Mult) (rI CMul fun i j=>.int (i * j)):=opI fun _ _ _ _ _ _ _ hc q=>mul_int q hc.ok
theorem zu1:OpR X (binaryOp .FloorDiv) (rI CDiv fun i j=>.int (i / j)):=opI fun i j _ _ _ _ _ hc q=>by
 have h1:(0:Int)<j:=hc.1
 have h2:j<1073741824:=hc.2
 exact floordiv_int (by omega) (by rw [Int.fdiv_eq_ediv_of_nonneg i (by omega)];exact q) (.inl (PyProof.noPylong_small (by omega)))
theorem zF2:OpR X (binaryOp .Mod) (rI (fun _ j=>0<j) fun i j=>.int (i % j)):=opI fun i j _ _ _ _ _ hc q=>by
 have h1:(0:Int)<j:=hc
 exact mod_int' (by omega) (by rw [Int.fmod_eq_emod_of_nonneg i (by omega)];exact q)
theorem zA8:OpR X (binaryOp .Pow) (rI CPow fun i j=>.int (i ^ j.toNat)):=opI fun _ _ _ _ _ _ _ hc q=>pow_int_small hc.1 hc.2.1 hc.2.2 q
end
def scal:V->V->Bool
 | .non,.non=>true | .non,.int _=>true | .int _,.non=>true | .non,.bl _=>true | .bl _,.non=>true | .non,.str _=>true | .str _,.non=>true
 | .int _,.int _=>true | .bl _,.bl _=>true | .str _,.str _=>true | .byt _,.byt _=>true
 | .int _,.str _=>true | .str _,.int _=>true | .bl _,.str _=>true | .str _,.bl _=>true
 | _,_=>false
def rEq:R2:=fun x y H Q=>scal x y=true/\Q (.bl (decide (x=y))) H
theorem zt7 {i j:Int}:decide (V.int i=V.int j)=(i == j):=by
 rw [Bool.eq_iff_iff]
 simp
theorem zE6 {i j:Bool}:decide (V.bl i=V.bl j)=(i == j):=by
 rw [Bool.eq_iff_iff]
 simp
theorem zk8 {i j:Str}:decide (V.str i=V.str j)=(i == j):=by
 rw [Bool.eq_iff_iff]
 simp
theorem zp5 {i j:Array UInt8}:decide (V.byt i=V.byt j)=(i.toList == j.toList):=by
 rw [Bool.eq_iff_iff]
 cases i
 cases j
 simp
section
variable {X:Cx}{a b c:Expr}{ta tb tc:TE}{pos:Pos}
theorem z0g {pins:List (Addr×Obj)}{σ:St}{H:Hp}{s:Shared}{Q:VK}{k k':Bool}(I:Inv X pins σ H s) (q:Q (.bl k) H) (e:k=k'):EP X pins σ Q (.bool k') s:=by
 subst e
 exact ⟨.bl k,H,I,rfl,q⟩
theorem zJ8:OpR X (compareOp .Eq) rEq:=by
 intro pins s σ H x y v u Q I rx ry h
 obtain ⟨hs,q⟩:=h
 cases x with
 | non =>
  cases rx
  cases y with
  | non=>cases ry;exact PySem.EqNone.eq_none_none (z0g I q (by simp))
  | bl j=>cases ry;exact PySem.EqNone.eq_none_bool (z0g I q (by simp))
  | int j=>obtain ⟨t',rfl⟩:=ry;exact PySem.EqNone.eq_none_int (z0g I q (by simp))
  | str j=>obtain ⟨t',rfl⟩:=ry;exact PySem.EqNone.eq_none_str (z0g I q (by simp))
  | _=>exact absurd (show false=true from hs) Bool.false_ne_true
 | bl i =>
  cases rx
  cases y with
  | non=>cases ry;exact PySem.EqNone.eq_bool_none (z0g I q (by simp))
  | bl j=>cases ry;exact eq_bool (z0g I q zE6)
  | str j=>obtain ⟨t',rfl⟩:=ry;exact PySem.EqMixed.eq_bool_str (z0g I q (by simp))
  | _=>exact absurd (show false=true from hs) Bool.false_ne_true
 | int i =>
  obtain ⟨t,rfl⟩:=rx
  cases y with
  | non=>cases ry;exact PySem.EqNone.eq_int_none (z0g I q (by simp))
  | int j=>obtain ⟨t',rfl⟩:=ry;exact eq_int (z0g I q zt7)
  | str j=>obtain ⟨t',rfl⟩:=ry;exact PySem.EqMixed.eq_int_str (z0g I q (by simp))
  | _=>exact absurd (show false=true from hs) Bool.false_ne_true
 | str i =>
  obtain ⟨t,rfl⟩:=rx
  cases y with
  | non=>cases ry;exact PySem.EqNone.eq_str_none (z0g I q (by simp))
  | bl j=>cases ry;exact PySem.EqMixed.eq_str_bool (z0g I q (by simp))
  | int j=>obtain ⟨t',rfl⟩:=ry;exact PySem.EqMixed.eq_str_int (z0g I q (by simp))
  | str j=>obtain ⟨t',rfl⟩:=ry;exact eq_str (z0g I q zk8)
  | _=>exact absurd (show false=true from hs) Bool.false_ne_true
 | byt i =>
  obtain ⟨t,rfl⟩:=rx
  cases y with
  | byt j=>obtain ⟨t',rfl⟩:=ry;exact PySem.W.eq_bytes (z0g I q zp5)
  | _=>exact absurd (show false=true from hs) Bool.false_ne_true
 | _=>cases y<;>exact absurd (show false=true from hs) Bool.false_ne_true
theorem op_lt:OpR X (compareOp .Lt) (rI0 fun i j=>.bl (decide (i<j))):=opB0 fun _ _ _ _ _ _ _ q=>lt_int q
theorem op_le:OpR X (compareOp .LtE) (rI0 fun i j=>.bl (decide (i≤j))):=opB0 fun _ _ _ _ _ _ _ q=>le_int q
theorem zN2:OpR X (compareOp .Gt) (rI0 fun i j=>.bl (decide (j<i))):=opB0 fun _ _ _ _ _ _ _ q=>gt_int q
theorem zN0:OpR X (compareOp .GtE) (rI0 fun i j=>.bl (decide (j≤i))):=opB0 fun _ _ _ _ _ _ _ q=>ge_int q
theorem z7B:OpR X (compareOp .Lt) (fun x y H Q=>∃ i j,x=.str i/\y=.str j/\Q (.bl (decide (i.cps.toList<j.cps.toList))) H):=by
 intro pins s σ H x y v u Q I rx ry h
 obtain ⟨i,j,rfl,rfl,q⟩:=h
 obtain ⟨t,rfl⟩:=rx
 obtain ⟨t',rfl⟩:=ry
 exact lt_str (z0g I q rfl)
theorem z4N:OpR X (compareOp .NotIn) (fun x y H Q=>∃ i j,x=.str i/\y=.str j/\Q (.bl (!(!(Builtin.Str.occurrences j i 0 j.length 1).isEmpty))) H):=by
 intro pins s σ H x y v u Q I rx ry h
 obtain ⟨i,j,rfl,rfl,q⟩:=h
 obtain ⟨t,rfl⟩:=rx
 obtain ⟨t',rfl⟩:=ry
 exact notIn_str (z0g I q rfl)
theorem OpR.or {f:Value->Value->Sem Value}{r r':R2}(h:OpR X f r) (h':OpR X f r'):OpR X f (fun x y H Q=>r x y H Q∨r' x y H Q):=by
 intro pins s σ H x y v u Q I rx ry q
 rcases q with q | q
 ·exact h pins s σ H x y v u Q I rx ry q
 ·exact h' pins s σ H x y v u Q I rx ry q
theorem zh8 (b:Expr) {op:CmpOp}(h:op≠.In:=by decide) (h2:op≠.NotIn:=by decide):behindInMarks op b=false:=by
 have e1:(op == CmpOp.In)=false:=by cases op<;>first | rfl | exact absurd rfl h
 have e2:(op == CmpOp.NotIn)=false:=by cases op<;>first | rfl | exact absurd rfl h2
 cases b<;>simp [behindInMarks,e1,e2]
theorem zt2 {op:CmpOp}{r:R2}(ho:OpR X (compareOp op) r) (ha:PE X a ta) (hb:PE X b tb) (hm:behindInMarks op b=false):PE X (.Compare a [op] [b] pos) (tOp r ta tb):=by
 intro pins s σ H Q I h
 exact wpAny_Compare1 (binT ha hb I h fun v u s2 x y H2 I2 rx ry q=>ho pins s2 σ H2 x y v u Q I2 rx ry q) hm
def zs7 (t:TE):TT:=fun σ H Q=>t σ H fun x H'=>∃ k,x=.bl k/\Q k H'
theorem zl4 {op:CmpOp}{r:R2}(ho:OpR X (compareOp op) r) (ha:PE X a ta) (hb:PE X b tb) (hm:behindInMarks op b=false):PT X (.Compare a [op] [b] pos) (zs7 (tOp r ta tb)):=by
 intro pins s σ H Q I h
 refine wpAny_isTrue_Compare1 (thn (ha pins s σ H _ I h) fun v s1 ⟨x,H1,I1,r1,q1⟩=>thn (hb pins s1 σ H1 _ I1 q1) fun u s2 ⟨y,H2,I2,r2,q2⟩ =>
  thn (ho pins s2 σ H2 x y v u _ I2 r1 r2 q2) fun c s3 ⟨z,H3,I3,r3,k,e,q3⟩=>?_) hm
 subst e
 cases r3
 exact wpAny_truthy_bool ⟨H3,I3,q3⟩
def z7L (r r':R2) (ta tb tc:TE):TE:=fun σ H Q=>ta σ H fun x H1=>tb σ H1 fun y H2=>r x y H2 fun z H3=>∃ k,z=.bl k /\
 (if k=true then tc σ H3 fun w' H4=>r' y w' H4 Q else Q (.bl false) H3)
theorem za1 {op op':CmpOp}{r r':R2}(ho:OpR X (compareOp op) r) (ho':OpR X (compareOp op') r') (ha:PE X a ta) (hb:PE X b tb) (hc:PE X c tc)
 (hm:lastMarks [op,op'] [b,c]=false:=by with_unfolding_all rfl):PE X (.Compare a [op,op'] [b,c] pos) (z7L r r' ta tb tc):=by
 intro pins s σ H Q I h
 refine Compare_chain (thn (ha pins s σ H _ I h) fun v s1 ⟨x,H1,I1,r1,q1⟩=>chain_link (thn (hb pins s1 σ H1 _ I1 q1) fun u s2 ⟨y,H2,I2,r2,q2⟩ =>
  thn (ho pins s2 σ H2 x y v u _ I2 r1 r2 q2) fun d s3 ⟨z,H3,I3,r3,k,e,q3⟩=>?_)) hm
 subst e
 cases r3
 refine wpAny_truthy_bool ?_
 cases k with
 | false=>exact ite_ff ⟨.bl false,H3,I3,rfl,q3⟩
 | true=>exact ite_tt (chain_last (thn (hc pins s3 σ H3 _ I3 q3) fun w' s4 ⟨z',H4,I4,r4,q4⟩=>ho' pins s4 σ H4 y z' u w' Q I4 r2 r4 q4))
theorem z9Y {op op':CmpOp}{r r':R2}(ho:OpR X (compareOp op) r) (ho':OpR X (compareOp op') r') (ha:PE X a ta) (hb:PE X b tb) (hc:PE X c tc)
 (hm:lastMarks [op,op'] [b,c]=false:=by with_unfolding_all rfl):PT X (.Compare a [op,op'] [b,c] pos) (zs7 (z7L r r' ta tb tc)):=by
 intro pins s σ H Q I h
 refine isTrue_chain (thn (ha pins s σ H _ I h) fun v s1 ⟨x,H1,I1,r1,q1⟩=>test_link (thn (hb pins s1 σ H1 _ I1 q1) fun u s2 ⟨y,H2,I2,r2,q2⟩ =>
  thn (ho pins s2 σ H2 x y v u _ I2 r1 r2 q2) fun d s3 ⟨z,H3,I3,r3,k,e,q3⟩=>?_)) hm
 subst e
 cases r3
 refine wpAny_truthy_bool ?_
 cases k with
 | false =>
  obtain ⟨k',e',q'⟩:=q3
  cases e'
  exact ite_ff ⟨H3,I3,q'⟩
 | true =>
  refine ite_tt (test_last (thn (hc pins s3 σ H3 _ I3 q3) fun w' s4 ⟨z',H4,I4,r4,q4⟩=>thn (ho' pins s4 σ H4 y z' u w' _ I4 r2 r4 q4) fun d' s5 ⟨z2,H5,I5,r5,k2,e2,q5⟩=>?_))
  subst e2
  cases r5
  exact wpAny_truthy_bool ⟨H5,I5,q5⟩
def TruV (K:PySem.W.Frag) (x:V) (H:Hp) (k:Bool):Prop :=
 match x with
 | .non=>k=false
 | .bl b=>k=b
 | .int i=>k=(i != 0)
 | .str y=>y.length≤sizeLine/\k=((y.length:Int) != 0)
 | .byt y=>y.size≤sizeLine/\k=((y.size:Int) != 0)
 | .ref p=>(∃ xs,SqL K H p xs/\k = !xs.isEmpty)∨(∃ xs,SqT K H p xs/\k = !xs.isEmpty)∨∃ kvs,H p=some (.dK kvs)/\k = !kvs.isEmpty
 | _=>False
theorem z7p {κ:Type}{kvs:List (κ×V)}{vs:List (κ×Value)}(r:KV kvs vs):(!vs.isEmpty) = !kvs.isEmpty:=by
 cases r<;>rfl
theorem z3I {xs:List V}{its:List Value}(r:Vals xs its):(!its.toArray.isEmpty) = !xs.isEmpty:=by
 cases r<;>simp
theorem z3F:(sizeLine:Nat)<2 ^ 63:=by rw [sizeLine_eq];decide
theorem zB6:TruR X (fun x H Q=>∃ k,TruV X.K x H k/\Q k H):=by
 intro pins s σ H x v Q I rx h
 obtain ⟨k,e,q⟩:=h
 have hl:=z3F
 have hs:sizeLine=16777216:=sizeLine_eq
 cases x with
 | non =>
  cases rx
  have e':k=false:=e
  subst e'
  exact truthy_none ⟨H,I,q⟩
 | bl b =>
  cases rx
  have e':k=b:=e
  subst e'
  exact wpAny_truthy_bool ⟨H,I,q⟩
 | int i =>
  obtain ⟨t,rfl⟩:=rx
  have e':k=(i != 0):=e
  subst e'
  exact PySem.P.truthy_int ⟨H,I,q⟩
 | str y =>
  obtain ⟨t,rfl⟩:=rx
  obtain ⟨hy,e'⟩:y.length≤sizeLine/\k=((y.length:Int) != 0):=e
  subst e'
  exact PySem.P.truthy_str (by omega) ⟨H,I.tok _,q⟩
 | byt y =>
  obtain ⟨t,rfl⟩:=rx
  obtain ⟨hy,e'⟩:y.size≤sizeLine/\k=((y.size:Int) != 0):=e
  subst e'
  exact PySem.W.truthy_bytes (by omega) ⟨H,I.tok _,q⟩
 | ref p =>
  cases rx
  have e':(∃ xs,SqL X.K H p xs/\k = !xs.isEmpty)∨(∃ xs,SqT X.K H p xs/\k = !xs.isEmpty)∨∃ kvs,H p=some (.dK kvs)/\k = !kvs.isEmpty:=e
  rcases e' with ⟨xs,hx,e'⟩ | ⟨xs,hx,e'⟩ | ⟨kvs,hx,e'⟩
  ·subst e'
   obtain ⟨its,r,pl,hz⟩:=I.list hx
   have hlen:=r.length
   exact wpAny_truthy_list pl.isList (by simp only [List.size_toArray];omega) ⟨H,I.tok _,by rw [z3I r];exact q⟩
  ·subst e'
   obtain ⟨its,r,pl,hz⟩:=I.tuple hx
   have hlen:=r.length
   exact truthy_tuple pl (by simp only [List.size_toArray];omega) ⟨H,I.tok _,by rw [z3I r];exact q⟩
  ·subst e'
   obtain ⟨hz,hS,vs,r,m⟩:kvs.length≤sizeLine/\(p == sysModules)=false/\∃ vs,KV kvs vs/\s.heap.DictOf (k6 X.prog X.w) p vs:=I.hok p _ hx
   have hlen:kvs.length=vs.length:=Paired.length r
   exact wpAny_truthy_dict hS m (by omega) ⟨H,I.tok _,by rw [z7p r];exact q⟩
 | _=>exact (show False from e).elim
theorem za0 (ha:PE X a ta) (he:∀ whole,isTrue a X.env whole=(do let v ← whole;standAt a.pos;holding [v] (truthy v))) :
 PT X a (fun σ H Q=>ta σ H fun x H'=>∃ k,TruV X.K x H' k/\Q k H'):=by
 intro pins s σ H Q I h
 exact isTrue_plain (thn (ha pins s σ H _ I h) fun v s1 ⟨x,H1,I1,r1,q1⟩=>zB6 pins s1 σ H1 x v Q I1 r1 q1) (he _)
theorem op_add_str:OpR X (binaryOp .Add) (fun x y H Q=>∃ i j,x=.str i/\y=.str j/\i.length+j.length≤sizeLine/\Q (.str (i++j)) H):=by
 intro pins s σ H x y v u Q I rx ry h
 obtain ⟨i,j,rfl,rfl,hz,q⟩:=h
 obtain ⟨t,rfl⟩:=rx
 obtain ⟨t',rfl⟩:=ry
 exact add_str (fun t' tk=>⟨.str (i++j),H,I.tok _,⟨_,rfl⟩,q⟩) hz
theorem vals1 {x:V}{us:List Value}(r:Vals [x] us):∃ u,us=[u]/\RelV x u:=by
 cases r with
 | cons r1 r2=>cases r2;exact ⟨_,rfl,r1⟩
theorem vals2 {x y:V}{us:List Value}(r:Vals [x,y] us):∃ u w',us=[u,w']/\RelV x u/\RelV y w':=by
 cases r with
 | cons r1 r2 =>
  cases r2 with
  | cons r3 r4=>cases r4;exact ⟨_,_,rfl,r1,r3⟩
theorem z4X (hc:X.calm=true):z1y X (.builtin "max") (fun xs H Q=>∃ i j,xs=[.int i,.int j]/\Q (.int (if j > i then j else i)) H):=by
 intro pins s σ H xs us Q I r h
 obtain ⟨i,j,rfl,q⟩:=h
 obtain ⟨u,w',rfl,⟨t,rfl⟩,⟨t',rfl⟩⟩:=vals2 r
 refine max_two_ints (I.ok.hd hc) fun h' tk k=>⟨_,H,I.kept k,?_,q⟩
 by_cases hj:j > i
 ·rw [if_pos hj,if_pos hj];exact ⟨_,rfl⟩
 ·rw [if_neg hj,if_neg hj];exact ⟨_,rfl⟩
def LenV (K:PySem.W.Frag) (x:V) (H:Hp) (n:Nat):Prop :=
 match x with
 | .str y=>y.length≤sizeLine/\n=y.length
 | .byt y=>y.size≤sizeLine/\n=y.size
 | .ref p=>(∃ xs,SqL K H p xs/\n=xs.length)∨∃ xs,SqT K H p xs/\n=xs.length
 | _=>False
theorem zc7:z1y X (.builtin "len") (fun xs H Q=>∃ x n,xs=[x]/\LenV X.K x H n/\Q (.int n) H):=by
 intro pins s σ H xs us Q I r h
 obtain ⟨x,n,rfl,e,q⟩:=h
 obtain ⟨u,rfl,rx⟩:=vals1 r
 have hl:=z3F
 have hs:sizeLine=16777216:=sizeLine_eq
 cases x with
 | str y =>
  obtain ⟨t,rfl⟩:=rx
  obtain ⟨hy,e'⟩:y.length≤sizeLine/\n=y.length:=e
  subst e'
  exact len_str (by omega) ⟨.int _,H,I.tok _,⟨_,rfl⟩,q⟩
 | byt y =>
  obtain ⟨t,rfl⟩:=rx
  obtain ⟨hy,e'⟩:y.size≤sizeLine/\n=y.size:=e
  subst e'
  exact PySem.W.len_bytes (by omega) ⟨.int _,H,I.tok _,⟨_,rfl⟩,q⟩
 | ref p =>
  cases rx
  have e':(∃ xs,SqL X.K H p xs/\n=xs.length)∨∃ xs,SqT X.K H p xs/\n=xs.length:=e
  rcases e' with ⟨xs,hx,e'⟩ | ⟨xs,hx,e'⟩
  ·subst e'
   obtain ⟨its,r',pl,hz⟩:=I.list hx
   have hlen:=r'.length
   exact Calls.call_len_list pl.isList (by simp only [List.size_toArray];omega) ⟨.int xs.length,H,I.tok _,⟨_,by simp only [List.size_toArray];rw [hlen]⟩,q⟩
  ·subst e'
   obtain ⟨its,r',pl,hz⟩:=I.tuple hx
   have hlen:=r'.length
   exact len_tuple pl (by simp only [List.size_toArray];omega) ⟨.int xs.length,H,I.tok _,⟨_,by simp only [List.size_toArray];rw [hlen]⟩,q⟩
 | _=>exact (show False from e).elim
end
structure ObjM (h:Heap) (x dx C:Addr) (mA:Str->Option Value):Prop where
 obj:h.get? x=some (PySem.W.instObj C dx)
 ns:h.Ns1 dx mA
 ne:dx≠x
theorem z7u {h:Heap}{dx:Addr}{mA:Str->Option Value}(n:h.Ns1 dx mA):∃ od,h.get? dx=some od/\∀ name,PySem.W.lookIn name od=some (mA name):=by
 obtain ⟨o,es,ep,ho,hd,hk,_,hm⟩:=n
 refine ⟨o,ho,fun name=>?_⟩
 have e:=hm name
 unfold nsFind findBy at e
 rw [← Array.find?_toList] at e
 unfold PySem.W.lookIn
 rw [hd]
 dsimp only
 split
 ·rename_i y q
  rw [q] at e
  exact congrArg some e
 ·rename_i q
  rw [q] at e
  have a:es.toList.any (·.refKey)=false:=by
   rw [List.any_eq_false]
   intro y hy
   obtain ⟨z,t,hkey⟩:=hk y (Array.mem_toList_iff.mp hy)
   simp [DictEntry.refKey,hkey]
  have a':¬ es.toList.any (·.refKey)=true:=by rw [a];exact Bool.false_ne_true
  rw [if_neg a']
  exact congrArg some e
theorem ObjM.look {h:Heap}{x dx C:Addr}{mA:Str->Option Value}(I:ObjM h x dx C mA):∃ od,PySem.W.InstAt h x (PySem.W.instObj C dx) C (some od)/\∀ name,PySem.W.lookIn name od=some (mA name) :=
 let ⟨od,ho,hl⟩:=z7u I.ns
 ⟨od,⟨I.obj,rfl,rfl,ho⟩,hl⟩
section
variable {prog:Program}{w:World}{A:Around}{E:Value->Shared->Prop}{s:Shared}{K:PySem.W.Frag}{x dx C f:Addr}{mA:Str->Option Value}{name:Str}{v:Value}
end
theorem RelO.some_of {v:V}{o:Option Value}(r:RelO (some v) o):∃ u,o=some u/\RelV v u:=by
 cases o with
 | none=>exact (show False from r).elim
 | some u=>exact ⟨u,rfl,r⟩
section
variable {P:Program}{w:World}{H H':Hp}{h h':Heap}{a C dx:Addr}{fs fs':List (Str×V)}
theorem zm2 (hok:HOk P w H h) (e:H a=some (.ins C dx fs)):∃ mA,ObjM h a dx C mA/\(∀ f,RelO (fs.lookup f) (mA f))/\PySem.Within mA (fs.map (·.1))/\fs.length≤1000/\H dx=some (.own a):=by
 obtain ⟨d,z,ne,ob,mA,n,r,q⟩:=(show ObjOk P w H h a (.ins C dx fs) from hok a _ e)
 exact ⟨mA,⟨ob,n,ne⟩,r,q,z,d⟩
end
structure Cls (K:PySem.W.Frag) (C:Addr):Prop where
 pg:PySem.W.plainGet K C Str.empty=true
 hd:PySem.W.hasDictIn K C=true
 po:PySem.W.plainOver K C=true
 sa:PySem.W.findIn K (.ref C) "__setattr__" = some (some (.builtin "object.__setattr__"))
theorem Cls.get {K:PySem.W.Frag}{C:Addr}(c:Cls K C) (f:Str):PySem.W.plainGet K C f=true:=c.pg
section
variable {X:Cx}{pins:List (Addr×Obj)}{σ:St}{H:Hp}{s:Shared}{a C dx:Addr}{fs:List (Str×V)}{f:Str}{v:V}{A:Around}{E:Value->Shared->Prop}
end
section
variable {X:Cx}{o e value:Expr}{f:Str}{pos pos' tpos:Pos}{ta tv:TE}
end
section
variable {X:Cx}{pins:List (Addr×Obj)}{σ:St}{H:Hp}{s:Shared}{A:Around}{E:Value->Shared->Prop}{Q:Value->Shared->Prop}{c:Value}{b:Bool}
inductive TyOf (K:PySem.W.Frag) (H:Hp):V->Value->Prop where
 | non:TyOf K H .non (.type "NoneType")
 | bl (x:Bool):TyOf K H (.bl x) (.type "bool")
 | int (i:Int):TyOf K H (.int i) (.type "int")
 | str (x:Str):TyOf K H (.str x) (.type "str")
 | flt (x:UInt64):TyOf K H (.flt x) (.type "float")
 | lst {a:Addr} {xs:List V} (e:H a=some (.lst xs)):TyOf K H (.ref a) (.type "list")
 | frz {a:Addr} {o:Obj} {xs:List V} (e:H a=some (.frz o (.lst xs))):TyOf K H (.ref a) (.type "list")
 | tup {a:Addr} {xs:List V} (e:H a=some (.tup xs)):TyOf K H (.ref a) (.type "tuple")
 | dK {a:Addr} {kvs:List (Key×V)} (e:H a=some (.dK kvs)):TyOf K H (.ref a) (.type "dict")
 | dT {a:Addr} {kvs:List (List Key×V)} (e:H a=some (.dT kvs)):TyOf K H (.ref a) (.type "dict")
 | ins {a C dx:Addr} {fs:List (Str×V)} (e:H a=some (.ins C dx fs)) (cl:Cls K C) (ha:PySem.W.findIn K (.ref C) "__class__" = some (some (.builtin "object.__class__")))
  (hn:PySem.W.specialIn K (.builtin "object.__class__") "__get__" = some (some (.builtin "getset_descriptor.__get__"))) (htk:PySem.W.takesIn K (.builtin "object.__class__")=some true)
  (hm:PySem.W.mroIn K C (.type "object")=some true):TyOf K H (.ref a) (.ref C)
theorem z7Y {x:V}{u t:Value}(I:Inv X pins σ H s) (rx:RelV x u) (ty:TyOf X.K H x t) (e:PySem.W.kitOne X.K t c=some b) (h:∀ tk,Q (.bool b) { s with toks:=tk }) :
 wpAny (model X.prog X.w) A (call (.builtin "isinstance") [u,c]) Q E s:=by
 cases ty with
 | non=>cases (show u=Value.none from rx);exact PySem.W.kia_one PySem.W.kitx_none I.kIn True.intro e (fun z=>nomatch z) h
 | bl y=>cases (show u=Value.bool y from rx);exact PySem.W.kia_one PySem.W.kitx_bool I.kIn True.intro e (fun z=>nomatch z) h
 | int i=>obtain ⟨t,q⟩:=(show ∃ t,u=Value.int i t from rx);cases q;exact PySem.W.kia_one PySem.W.kitx_int I.kIn True.intro e (fun z=>nomatch z) h
 | str y=>obtain ⟨t,q⟩:=(show ∃ t,u=Value.str y t from rx);cases q;exact PySem.W.kia_one PySem.W.kitx_str I.kIn True.intro e (fun z=>nomatch z) h
 | flt y=>obtain ⟨t,q⟩:=(show ∃ t,u=Value.float y t from rx);cases q;exact PySem.W.kia_one PySem.W.kitx_float I.kIn True.intro e (fun z=>nomatch z) h
 | @lst a xs ea =>
  cases (show u=Value.ref a from rx)
  obtain ⟨_,_,n,_,h1⟩:=(show ObjOk X.prog X.w H s.heap a (.lst xs) from I.hok a _ ea)
  exact PySem.W.kia_one PySem.W.kitx_list I.kIn ⟨_,h1,rfl⟩ e (fun z=>nomatch z) h
 | @frz a ob xs ea =>
  cases (show u=Value.ref a from rx)
  obtain ⟨_,_,_,n,_,h1⟩:=(show ObjOk X.prog X.w H s.heap a (.frz ob (.lst xs)) from I.hok a _ ea)
  exact PySem.W.kia_one PySem.W.kitx_list I.kIn ⟨_,h1,rfl⟩ e (fun z=>nomatch z) h
 | @tup a xs ea =>
  cases (show u=Value.ref a from rx)
  obtain ⟨_,_,_,p⟩:=(show ObjOk X.prog X.w H s.heap a (.tup xs) from I.hok a _ ea)
  obtain ⟨o,h1,h2,_⟩:=p
  exact PySem.W.kia_one PySem.W.kitx_tuple I.kIn ⟨o,h1,h2.1⟩ e (fun z=>nomatch z) h
 | @dK a kvs ea =>
  cases (show u=Value.ref a from rx)
  obtain ⟨_,_,vs,_,p⟩:=(show ObjOk X.prog X.w H s.heap a (.dK kvs) from I.hok a _ ea)
  obtain ⟨o,es,ep,h1,h2,_⟩:=p
  exact PySem.W.kia_one PySem.W.kitx_dict I.kIn ⟨o,h1,h2.1⟩ e (fun z=>nomatch z) h
 | @dT a kvs ea =>
  cases (show u=Value.ref a from rx)
  obtain ⟨_,_,xs,_,o,es,ep,h1,h2,_⟩:=(show ObjOk X.prog X.w H s.heap a (.dT kvs) from I.hok a _ ea)
  exact PySem.W.kia_one PySem.W.kitx_dict I.kIn ⟨o,h1,h2.1⟩ e (fun z=>nomatch z) h
 | @ins a C dx fs ea cl ha hn htk hm =>
  cases (show u=Value.ref a from rx)
  obtain ⟨mA,O,_⟩:=zm2 I.hok ea
  obtain ⟨od,J,_⟩:=O.look
  exact PySem.W.kia_one (PySem.W.kitx_own (cl.get _) cl.hd ha hn htk hm) I.kIn J e (fun z=>nomatch z) h
end
structure Room (k:Nat) (A:Around):Prop where
 hd:A.handled=none
 dp:A.depth+3 * k+5<recursionLimit
 un:A.units+16 * k+200<cLine
 gd:A.guards=some []
theorem Room.mono {j k:Nat}{A:Around}(r:Room k A) (h:j≤k):Room j A:=⟨r.hd,by have:=r.dp;omega,by have:=r.un;omega,r.gd⟩
theorem Room.deeper {k:Nat}{A:Around}(r:Room (k+1) A) (env:Env):Room k (A.deeper env) :=
 ⟨r.hd,by have:=r.dp;show A.depth+1+3 * k+5<_;omega,by have:=r.un;show A.units+3+16 * k+200<_;omega,r.gd⟩
theorem Room.depth {k:Nat}{A:Around}(r:Room k A):A.depth<recursionLimit:=by have:=r.dp;omega
theorem Room.units {k:Nat}{A:Around}(r:Room k A):A.units+64<cLine:=by have:=r.un;omega
def tNil:TA:=fun _ H Q=>Q [] H
def zb2 (ta:TE) (tr:TA):TA:=fun σ H Q=>ta σ H fun x H1=>tr σ H1 fun xs H2=>Q (x :: xs) H2
section
variable {X:Cx}{e:Expr}{es:List Expr}{te:TE}{t:TA}{pos:Pos}
theorem z17:PA X [] tNil:=fun _ _ _ _ H Q I h=>Calls.spliced_nil ⟨[],H,I,.nil,h⟩
theorem z0d (ha:PE X e te) (hr:PA X es t) (hs:starEach (e :: es) X.env=(false,eval e X.env) :: starEach es X.env:=by rfl):PA X (e :: es) (zb2 te t):=by
 intro pos pins s σ H Q I h
 rw [hs]
 show wpAny _ _ (spliced ((false,eval e X.env) :: backTo pos (starEach es X.env))) _ _ s
 refine Calls.spliced_cons (thn (ha pins s σ H _ I h) fun u s1 ⟨x,H1,I1,r1,q1⟩=>?_)
 exact thn (hr pos pins s1 σ H1 _ I1 q1) fun us s2 ⟨xs,H2,I2,r2,q2⟩=>⟨x :: xs,H2,I2,.cons r1 r2,q2⟩
def tTup (t:TA):TE:=fun σ H Q=>t σ H fun xs H1=>xs.length≤sizeLine/\∀ p,H1 p=none->Q (.ref p) (upd H1 p (.tup xs))
def tLst (t:TA):TE:=fun σ H Q=>t σ H fun xs H1=>xs.length≤sizeLine/\∀ p,H1 p=none->Q (.ref p) (upd H1 p (.lst xs))
theorem zD9 {x1}(h:PA X es t):PE X (.Tuple es x1 pos) (tTup t):=by
 intro pins s σ H Q I hq
 refine wpAny_Tuple_spliced (thn (h pos pins s σ H _ I hq) fun us s1 ⟨xs,H1,I1,r,z,q⟩=>⟨by rw [← r.length];exact z,?_⟩)
 have hf:H1 s1.heap.objs.size=none:=I1.hok.fresh (Nat.le_refl _)
 refine ⟨.ref s1.heap.objs.size,upd H1 s1.heap.objs.size (.tup xs),I1.laid (t':=s1.toks) (fun b u e=>Heap.get?_push_of_some _ e) (Nat.le_refl _) ?_,rfl,q _ hf⟩
 exact ⟨z,us,r,⟨_,Heap.get?_push_size _ rfl,⟨rfl,rfl⟩,_,rfl⟩⟩
theorem zG9 (h:PA X es t):PE X (.List es pos) (tLst t):=by
 intro pins s σ H Q I hq
 refine wpAny_List_spliced (thn (h pos pins s σ H _ I hq) fun us s1 ⟨xs,H1,I1,r,z,q⟩=>⟨by rw [← r.length];exact z,?_⟩)
 have hf:H1 s1.heap.objs.size=none:=I1.hok.fresh (Nat.le_refl _)
 refine ⟨.ref s1.heap.objs.size,upd H1 s1.heap.objs.size (.lst xs),I1.laid (t':=s1.toks) (fun b u e=>Heap.get?_push_of_some _ e) (Nat.le_refl _) ?_,rfl,q _ hf⟩
 exact ⟨z,us,0,r,Heap.get?_push_size _ rfl⟩
end
abbrev Sp:=List V->Hp->VK->XK->Prop
abbrev CXT:=List Env->Hp->Shared->XK->Value->Shared->Prop
structure Env0 (P:Program) (w:World) (K:PySem.W.Frag) (mg:Str->Option Value) (base:Heap) (A:Around) (outer:List Env) (s:Shared) (H:Hp):Prop where
 frames:A.frames=some outer
 mod:Mod K mg base
 bs:∀ b o,base.get? b=some o->s.heap.get? b=some o/\H b=none
 bsz:base.objs.size≤s.heap.objs.size
 funs:s.heap.FunFrames base outer
 frf:∀ b∈frs outer,H b=none
 hok:HOk P w H s.heap
 bare:AllBare s.gens
def CE (outer:List Env) (P:Program) (w:World) (H:Hp) (s:Shared) (Q:VK) (u:Value) (s':Shared):Prop :=
 ∃ v H',s'.os=s.os/\AllBare s'.gens/\Un (frs outer) [] H H' s.heap s'.heap/\HOk P w H' s'.heap/\RelV v u/\Q v H'
def CR (CX:CXT) (outer:List Env) (P:Program) (w:World) (H:Hp) (s:Shared) (Q:VK) (E:XK) (r:Result) (s':Shared):Prop :=
 match r with
 | .ok (.ret u)=>CE outer P w H s Q u s'
 | .ok _=>False
 | .error e=>CX outer H s E e s'
structure FnOk (P:Program) (w:World) (K:PySem.W.Frag) (mg:Str->Option Value) (base:Heap) (CX:CXT) (k:Nat) (f:Addr) (fd:FuncData) (ps:List Str) (sp:Sp):Prop where
 len:∀ vs H Q E,sp vs H Q E->vs.length=ps.length
 run:∀ (A:Around) (outer:List Env) (s:Shared) (H:Hp) (args:Args) (us:List Value) (vs:List V) (Q:VK) (E:XK),Room k A->Env0 P w K mg base A outer s H->BindsTo s fd args (ps.zip us)->Vals vs us->sp vs H Q E ->
  codeAny (model P w) A (.call (.ref f) args) (CR CX outer P w H s Q E) s
theorem FnOk.imp {P:Program}{w:World}{K:PySem.W.Frag}{mg:Str->Option Value}{base:Heap}{CX:CXT}{k:Nat}{f:Addr}{fd:FuncData}{ps:List Str}{sp sp':Sp}(F:FnOk P w K mg base CX k f fd ps sp)
 (h:∀ vs H Q E,sp' vs H Q E->sp vs H Q E):FnOk P w K mg base CX k f fd ps sp' :=
 ⟨fun vs H Q E q=>F.len vs H Q E (h _ _ _ _ q),fun A outer s H args us vs Q E hr he hb hv hs=>F.run A outer s H args us vs Q E hr he hb hv (h _ _ _ _ hs)⟩
section
variable {X:Cx}{pins:List (Addr×Obj)}{σ:St}{H:Hp}{s s':Shared}
theorem Inv.env0 (I:Inv X pins σ H s):Env0 X.prog X.w X.K X.mg X.base X.A X.stack s H :=
 ⟨I.ok.frames,I.ok.mod,I.bs,Nat.le_trans I.ok.bsz I.sz,I.stack,I.stkFree,I.hok,I.bare⟩
theorem Inv.after {Q:VK}{u:Value}(I:Inv X pins σ H s) (h:CE X.stack X.prog X.w H s Q u s'):EP X pins σ Q u s':=by
 obtain ⟨v,H',os,bare,un,hok,r,q⟩:=h
 obtain ⟨hh,g,d,t,os'⟩:=s'
 obtain rfl:os'=s.os:=os
 exact ⟨v,H',I.call (h':=hh) (g':=g) (d':=d) (t':=t) (ch:=[]) un hok bare (fun b z=>absurd z (by simp)),r,q⟩
end
def zK5 (sp:Sp) (dvs:List V) (E:XK) (t:TA):TE:=fun σ H Q=>t σ H fun vs H1=>sp (vs++dvs) H1 Q E
def Binds (K:PySem.W.Frag) (fd:FuncData) (ps:List Str) (ds:List Value):Prop :=
 ∀ (s:Shared) (us:List Value),K.In s.heap->(us++ds).length=ps.length->BindsTo s fd ⟨us,[]⟩ (ps.zip (us++ds))
theorem Binds.all {K:PySem.W.Frag}{fd:FuncData}{ps:List Str}(h:∀ us:List Value,us.length=ps.length->bindArgs fd ⟨us,[]⟩=pure (ps.zip us)):Binds K fd ps []:=fun s us _ hl=>by
 rw [List.append_nil] at hl ⊢
 exact .of_eq (h us hl)
def z9b (CX:CXT) (X:Cx) (E:XK):Prop:=∀ (pins:List (Addr×Obj)) (σ:St) (H:Hp) (s:Shared) (e:Value) (s':Shared),Inv X pins σ H s->CX X.stack H s E e s'->X.xe e s'
section
variable {X:Cx}{CX:CXT}{k:Nat}{f C:Addr}{fd:FuncData}{ps:List Str}{sp:Sp}{dvs:List V}{ds:List Value}{E:XK}{x m:Str}{p pos apos:Pos}{e o:Expr}{es:List Expr}{ta:TE}{t:TA}
theorem zH0 {pins:List (Addr×Obj)}{σ:St}{H:Hp}{s:Shared}{Q:VK}{us:List Value}{vs:List V}(F:FnOk X.prog X.w X.K X.mg X.base CX k f fd ps sp) (hr:Room k X.A) (hb:Binds X.K fd ps ds) (hd:Vals dvs ds) (hx:z9b CX X E)
 (I:Inv X pins σ H s) (r:Vals vs us) (h:sp (vs++dvs) H Q E):wpAny (model X.prog X.w) X.A (call (.ref f) us) (EP X pins σ Q) X.xe s:=by
 have r2:Vals (vs++dvs) (us++ds):=r.append hd
 have hl:(us++ds).length=ps.length:=by rw [← r2.length];exact F.len _ _ _ _ h
 refine wpAny_call (codeAny_mono (F.run X.A X.stack s H ⟨us,[]⟩ (us++ds) (vs++dvs) Q E hr I.env0 (hb s us I.kIn hl) r2 h) fun r s' hq=>?_)
 cases r with
 | error e=>exact hx pins σ H s e s' I hq
 | ok fl =>
  cases fl with
  | ret u=>exact I.after hq
  | next=>exact False.elim hq
  | brk=>exact False.elim hq
  | cont=>exact False.elim hq
theorem zt9 (F:FnOk X.prog X.w X.K X.mg X.base CX k f fd ps sp) (hr:Room k X.A) (hg:Gl X x) (hm:X.mg x=some (.ref f)) (hk:PySem.W.keepIn X.K (.ref f)=true) (hb:Binds X.K fd ps ds) (hd:Vals dvs ds) (hx:z9b CX X E)
 (ha:PA X (e :: es) t) (hdb:(x == ("__debug__":Str))=false:=by decide) (he:starEach (e :: es) X.env=(false,eval e X.env) :: starEach es X.env:=by rfl) (hpl:(backTo pos (starEach es X.env)).any (·.1)=false:=by rfl) :
 PE X (.Call (.Name x p) (e :: es) [] pos) (zK5 sp dvs E t):=by
 intro pins s σ H Q I h
 refine wpAny_Call_Name_kw (z8h I hg hm ?_ hdb)
 refine PySem.W.callWith_K (h₀:=X.base) I.ok.mod.kin hk (thn (ha pos pins s σ H _ I h) fun us s1 ⟨vs,H1,I1,r,q⟩=>⟨I1.kIn,?_⟩) he hpl
 exact zH0 F hr hb hd hx I1 r q
end
section
variable {X:Cx}{CX:CXT}{k:Nat}{f C:Addr}{fd:FuncData}{ps ks:List Str}{sp:Sp}{E:XK}{x m:Str}{p pos apos kpos:Pos}{e o:Expr}{es:List Expr}{kws:List Keyword}{te ta:TE}{t tk:TA}{nm:Option Str}
variable {g:List Value->List Value->List Value}{gV:List V->List V->List V}
end
structure FnScope (N P:List Str) (sc:Scope):Prop where
 kind:sc.kind=.function
 co:sc.isCoroutine=false
 gen:sc.isGenerator=false
 nd:N.Nodup
 pre:N.take P.length=P
 par:∀ x∈P,sc.names.lookup x=some .local∨sc.names.lookup x=some .cell
 nofree:∀ y∈sc.names,y.2≠.free
theorem z5a {kindOf:Str->Option NameKind}{x:Str}:∀ {binds:List (Str×Value)}{m:Str->Option Value},(∀ v,(x,v)∉binds)->bindL kindOf binds m x=m x
 | [],_,_=>rfl
 | (n,v) :: r,m,h=>by
  unfold bindL
  rw [z5a fun w hw=>h w (List.mem_cons_of_mem _ hw)]
  split
  ·have:x≠n:=by rintro rfl;exact h v List.mem_cons_self
   simp [this]
  ·rfl
theorem z4w {kindOf:Str->Option NameKind}{x:Str}:∀ {binds:List (Str×Value)}{m:Str->Option Value},(∀ v,(x,v)∉binds)->bindC kindOf binds m x=m x
 | [],_,_=>rfl
 | (n,v) :: r,m,h=>by
  unfold bindC
  rw [z4w fun w hw=>h w (List.mem_cons_of_mem _ hw)]
  split
  ·rfl
  ·have:x≠n:=by rintro rfl;exact h v List.mem_cons_self
   simp [this]
theorem z4v {kindOf:Str->Option NameKind}{x:Str}{v:Value}:∀ {P:List Str}{vs:List Value}{i:Nat}{m:Str->Option Value},P.Nodup->P[i]?=some x->vs[i]?=some v->kindOf x=some .local ->
 bindL kindOf (P.zip vs) m x=some v
 | [],_,_,_,_,h,_,_=>by simp at h
 | _ :: _,[],_,_,_,_,h,_=>by simp at h
 | p :: P,w :: vs,0,m,nd,h1,h2,hk=>by
  simp at h1 h2;subst h1;subst h2
  show bindL kindOf ((p,w) :: P.zip vs) m p=_
  unfold bindL
  rw [z5a fun v hv=>(List.nodup_cons.mp nd).1 (List.of_mem_zip hv).1,if_pos hk]
  simp
 | p :: P,w :: vs,i+1,m,nd,h1,h2,hk=>by
  show bindL kindOf ((p,w) :: P.zip vs) m x=_
  unfold bindL
  exact z4v (i:=i) (List.nodup_cons.mp nd).2 (by simpa using h1) (by simpa using h2) hk
theorem z5d {kindOf:Str->Option NameKind}{x:Str}{v:Value}:∀ {P:List Str}{vs:List Value}{i:Nat}{m:Str->Option Value},P.Nodup->P[i]?=some x->vs[i]?=some v->kindOf x≠some .local ->
 bindC kindOf (P.zip vs) m x=some v
 | [],_,_,_,_,h,_,_=>by simp at h
 | _ :: _,[],_,_,_,_,h,_=>by simp at h
 | p :: P,w :: vs,0,m,nd,h1,h2,hk=>by
  simp at h1 h2;subst h1;subst h2
  show bindC kindOf ((p,w) :: P.zip vs) m p=_
  unfold bindC
  rw [z4w fun v hv=>(List.nodup_cons.mp nd).1 (List.of_mem_zip hv).1,if_neg hk]
  simp
 | p :: P,w :: vs,i+1,m,nd,h1,h2,hk=>by
  show bindC kindOf ((p,w) :: P.zip vs) m x=_
  unfold bindC
  exact z5d (i:=i) (List.nodup_cons.mp nd).2 (by simpa using h1) (by simpa using h2) hk
def start (N:List Str) (vs:List V):St:=vs.map some++List.replicate (N.length - vs.length) none
def cxOf (CX:CXT) (P:Program) (w:World) (K:PySem.W.Frag) (mg:Str->Option Value) (base:Heap) (N:List Str) (qual:Str) (scope:Scope) (f:Addr) (cd:Value) (A:Around) (outer:List Env) (s:Shared) (H:Hp) (E:XK):Cx where
 prog:=P
 w:=w
 K:=K
 mg:=mg
 base:=base
 A:=A.deeper (envOfC qual scope s.heap.objs.size f cd)
 N:=N
 s₀:=s
 H₀:=H
 env:=envOfC qual scope s.heap.objs.size f cd
 outer:=outer
 stack:=envOfC qual scope s.heap.objs.size f cd :: outer
 ex:=[]
 calm:=true
 fn:=fun _=>true
 pn:=[]
 xe:=fun e s'=>wpAny (model P w) (A.deeper (envOfC qual scope s.heap.objs.size f cd)) (leaving (envOfC qual scope s.heap.objs.size f cd) e) (fun _ s''=>CX outer H s E e s'') (fun e' s''=>CX outer H s E e' s'') s'
theorem z6d {sc:Scope}{n:Nat}{x:Str}(h:sc.names.lookup x=some .cell):∃ c,(cellsFrom n sc.names []).lookup x=some c:=by
 have q:=PySem.W.cellsFrom_some sc.names n [] (.inl h)
 exact Option.isSome_iff_exists.mp q
theorem z8d {CX:CXT}{P:Program}{w:World}{K:PySem.W.Frag}{mg:Str->Option Value}{base:Heap}{N ps:List Str}{qual:Str}{scope:Scope}{f:Addr}{cd:Value}{A:Around}{outer:List Env}{s s1:Shared}{H:Hp}{E:XK}{us:List Value}{vs:List V}
 (S:FnScope N ps scope) (hd:A.handled=none) (e0:Env0 P w K mg base A outer s H) (hl:vs.length=ps.length) (r:Vals vs us)
 (x:InCallC s s.heap.objs.size (bindL (envOfC qual scope s.heap.objs.size f cd).kindOf (ps.zip us) fun _=>none) (cellsFrom (s.heap.objs.size+1) scope.names []) (bindC (envOfC qual scope s.heap.objs.size f cd).kindOf (ps.zip us) fun _=>none) s1) :
 Inv (cxOf CX P w K mg base N qual scope f cd A outer s H E) [] (start N vs) H s1:=by
 have hpl:ps.length≤N.length:=by have:=congrArg List.length S.pre;rw [List.length_take] at this;omega
 obtain ⟨h1,tk,rfl,hk⟩:=x.done
 have noA:∀ b:Addr,b∉(cxOf CX P w K mg base N qual scope f cd A outer s H E).ex:=fun b z=>absurd (show b∈([]:List Addr) from z) (by simp)
 refine ⟨⟨e0.mod,S.kind,rfl,rfl,Nat.le_refl _,fun y z c h1 h2=>?_,fun y hy=>?_,fun y c _ h=>?_,fun _=>hd,Around.frames_deeper e0.frames,.inr ⟨rfl,rfl⟩,fun b z=>absurd z (noA b),e0.bs,e0.bsz,fun b _ _=>noA b,fun b z=>absurd z (noA b),e0.funs,e0.frf⟩,
  rfl,e0.bare,Un.kept hk,⟨_,x.toInCall.ns,fun i y v h1 h2 h3=>?_⟩,fun y c h=>⟨_,x.cell y c h⟩,e0.hok.fresh (Nat.le_refl _),fun y c h=>?_,fun p hp=>absurd (show p∈([]:List (Addr×Obj)) from hp) (by simp),e0.hok.kept hk,?_⟩
 ·exact name_of_addr x.apart (PySem.mem_of_lookup h1) (PySem.mem_of_lookup h2)
 ·have hy:scope.names.lookup y=some .cell∨scope.names.lookup y=some .free:=hy
  rcases hy with hy | hy
  ·exact z6d hy
  ·exact absurd rfl (S.nofree _ (PySem.mem_of_lookup hy))
 ·exact Nat.le_of_lt (x.above y c (PySem.mem_of_lookup h))
 ·have hi:i<vs.length:=by
   unfold start at h2
   by_cases hi:i<vs.length
   ·exact hi
   ·rw [List.getElem?_append_right (by simpa using hi)] at h2
    rw [List.getElem?_replicate] at h2
    split at h2<;>cases h2
  have ha:vs[i]?=some v:=by
   unfold start at h2
   rw [List.getElem?_append_left (by simpa using hi),List.getElem?_map] at h2
   cases e:vs[i]? with
   | none=>rw [e] at h2;cases h2
   | some a=>rw [e] at h2;cases h2;rfl
  obtain ⟨u,hu,rv⟩:=r.get ha
  have hp:ps[i]?=some y:=by
   rw [← S.pre,List.getElem?_take_of_lt (by omega)];exact h1
  have ndP:ps.Nodup:=by rw [← S.pre];exact S.nd.sublist (List.take_sublist _ _)
  refine ⟨u,rv,?_⟩
  rcases S.par y (List.mem_of_getElem? hp) with k | k
  ·exact .inl ⟨k,z4v ndP hp hu k⟩
  ·obtain ⟨c,e⟩:=z6d (n:=s.heap.objs.size+1) k
   refine .inr ⟨.inl k,c,e,?_⟩
   have q:=x.cell y c e
   rw [z5d ndP hp hu (by show scope.names.lookup y≠_;rw [k];decide)] at q
   exact q
 ·exact e0.hok.fresh (Nat.le_of_lt (x.above y c (PySem.mem_of_lookup h)))
 ·unfold start
  show _=N.length
  rw [List.length_append,List.length_map,List.length_replicate]
  omega
theorem zF8 {CX:CXT}{P:Program}{w:World}{K:PySem.W.Frag}{mg:Str->Option Value}{base:Heap}{k:Nat}{f:Addr}{name qual:Str}{params:Arguments}{body:List Stmt}{scope:Scope}{dV kV doc pm cdv ct oc:Value}{an od:Option Addr}
 {osl:Array (Option Value)} {N ps:List Str} {sp:Sp} (lk:K.lookup f=some ⟨oc,od,.func (PySem.W.fnOf name qual params body scope dV kV doc pm an cdv ct),osl⟩) (hcd:PySem.W.codeIn K cdv qual=true) (S:FnScope N ps scope)
 (len:∀ vs H Q E,sp vs H Q E->vs.length=ps.length)
 (hbody:∀ (A:Around) (outer:List Env) (s:Shared) (H:Hp) (vs:List V) (Q:VK) (E:XK),Room k (A.deeper (envOfC qual scope s.heap.objs.size f cdv))->sp vs H Q E ->
  ∃ t,PSs (cxOf CX P w K mg base N qual scope f cdv A outer s H E) body t/\t { nx:=fun _ H'=>Q .non H',rt:=Q } (start N vs) H) :
 FnOk P w K mg base CX (k+1) f (PySem.W.fnOf name qual params body scope dV kV doc pm an cdv ct) ps sp:=by
 refine ⟨len,fun A outer s H args us vs Q E hr e0 hb r hsp=>?_⟩
 have hl:=len _ _ _ _ hsp
 have KX:K.In s.heap:=e0.mod.kin.keeps fun b o e=>(e0.bs b o e).1
 have lim:s.heap.NoLimit:=e0.mod.nolimit.keeps fun b o e=>(e0.bs b o e).1
 have hkind:∀ y∈ps.zip us,scope.names.lookup y.1=some .local∨(scope.names.lookup y.1=some .cell/\((cellsFrom (s.heap.objs.size+1) scope.names []).lookup y.1).isSome=true):=fun ⟨n,v⟩ hy=>by
  rcases S.par n (List.of_mem_zip hy).1 with q | q
  ·exact .inl q
  ·exact .inr ⟨q,PySem.W.cellsFrom_some _ _ _ (.inl q)⟩
 refine codeAny_call_function hr.depth (KX _ _ lk) rfl S.co S.gen rfl (PySem.W.codeRec_of KX hcd) (hb _ _ _ _ ?_)
 refine wpAny_newFunctionEnv_cells S.kind hkind fun env he s1 x=>?_
 subst he
 refine ⟨lim.keeps x.toInCall.keep,codeAny_func ?_⟩
 obtain ⟨t,ht,hq⟩:=hbody A outer s H vs Q E (hr.deeper _) hsp
 have I:Inv (cxOf CX P w K mg base N qual scope f cdv A outer s H E) [] (start N vs) H s1:=z8d S hr.hd e0 hl r x
 refine wpAny_mono (ht [] s1 (start N vs) H _ I hq) (fun fl s' hs=>?_) fun e s' hs=>hs
 have fin:∀ {σ':St} {H':Hp} {v:V} {u:Value},Inv (cxOf CX P w K mg base N qual scope f cdv A outer s H E) [] σ' H' s'->RelV v u->Q v H'->CE outer P w H s Q u s' :=
  fun {σ' H' v u} J rv q=>⟨v,H',J.os,J.bare,J.base,J.hok,rv,q⟩
 cases fl with
 | ret u =>
  obtain ⟨v,σ',H',J,rv,q⟩:=hs
  exact fin J rv q
 | next =>
  obtain ⟨σ',H',J,q⟩:=hs
  exact fin (v:=V.non) (u:=Value.none) J rfl q
 | brk =>
  obtain ⟨_,_,_,q⟩:=hs
  exact False.elim q
 | cont =>
  obtain ⟨_,_,_,q⟩:=hs
  exact False.elim q
section
variable {X:Cx}{x:Str}{p pos:Pos}{e:Expr}{es:List Expr}{t:TA}{id T:String}{r:List V->Hp->VK->Prop}
def tCB (r:List V->Hp->VK->Prop) (t:TA):TE:=fun σ H Q=>t σ H fun vs H1=>r vs H1 Q
theorem z0F (hc:z1y X (.builtin id) r) (hg:Gl X x) (hm:X.mg x=none) (hv:bootBuiltins x=some (.builtin id)) (ha:PA X (e :: es) t) (hn:x≠"__name__":=by decide) (hdb:(x == ("__debug__":Str))=false:=by decide)
 (he:starEach (e :: es) X.env=(false,eval e X.env) :: starEach es X.env:=by rfl) (hpl:(backTo pos (starEach es X.env)).any (·.1)=false:=by rfl):PE X (.Call (.Name x p) (e :: es) [] pos) (tCB r t):=by
 intro pins s σ H Q I h
 refine wpAny_Call_Name_kw (z3C I hg hm hv ?_ hn hdb)
 exact PyProof.Rows.callWith_builtin1 (thn (ha pos pins s σ H _ I h) fun us s1 ⟨vs,H1,I1,r1,q1⟩=>hc pins s1 σ H1 vs us Q I1 r1 q1) he hpl
theorem z0z (hc:z1y X (.type T) r) (hg:Gl X x) (hm:X.mg x=none) (hv:bootBuiltins x=some (.type T)) (ha:PA X (e :: es) t) (hn:x≠"__name__":=by decide) (hdb:(x == ("__debug__":Str))=false:=by decide)
 (he:starEach (e :: es) X.env=(false,eval e X.env) :: starEach es X.env:=by rfl) (hpl:(backTo pos (starEach es X.env)).any (·.1)=false:=by rfl):PE X (.Call (.Name x p) (e :: es) [] pos) (tCB r t):=by
 intro pins s σ H Q I h
 refine wpAny_Call_Name_kw (z3C I hg hm hv ?_ hn hdb)
 exact PyProof.Rows.callWith_type1 (thn (ha pos pins s σ H _ I h) fun us s1 ⟨vs,H1,I1,r1,q1⟩=>hc pins s1 σ H1 vs us Q I1 r1 q1) he hpl
end
end L2
namespace HT
open PySem PyProof.Rows
section
open PySem.SeqAt
open PySem.AutoSeq1 (wpAny_loadPart')
open PySem.MeetsSeq PySem.MeetsSeq2 PySem.MeetsSeq3
end
section
variable {prog:Program}{w:World}{A:Around}{E:Value->Shared->Prop}{s:Shared}
theorem cat_tup {t b:Addr}{vs ws:List Value}{Q:Value->Shared->Prop}(ht:IsTup s.heap t vs.toArray) (hb:IsTup s.heap b ws.toArray) (hv:vs≠[])
 (h1:ws=[]->Q (.ref t) s) (h2:ws≠[]->Q (.ref s.heap.objs.size) { s with heap:=s.heap.push { cls:=.type "tuple",data:=.seq (vs++ws).toArray } })
 (hsz:vs.length+ws.length≤sizeLine):wpAny (model prog w) A (binaryOp .Add (.ref t) (.ref b)) Q E s:=by
 obtain ⟨⟨cls,dd,data,sl⟩,ho,hc,n,hd⟩:=id ht
 obtain ⟨⟨cls2,dd2,data2,sl2⟩,ho2,hc2,n2,hd2⟩:=id hb
 simp only at hc hd hc2 hd2
 subst hc hd hc2 hd2
 have e:vs.toArray++ws.toArray=(vs++ws).toArray:=by simp
 by_cases hw:ws=[]
 ·exact concat_meets ⟨_,ho,rfl⟩ ⟨_,ho2,rfl⟩ noFill_tuple_add seq_tuple_add PySem.F.slot_tuple_add PySem.F.entry_tuple_add (PySem.F.args_tuple_add_2 _ _)
   (tuple_addW1 t b vs.toArray ws.toArray n n2 dd dd2 sl sl2 (by simpa using hv) (by simp [hw])) ⟨ho,ho2,h1 hw⟩
 ·refine concat_meets ⟨_,ho,rfl⟩ ⟨_,ho2,rfl⟩ noFill_tuple_add seq_tuple_add PySem.F.slot_tuple_add PySem.F.entry_tuple_add (PySem.F.args_tuple_add_2 _ _)
   (tuple_addW2 t b vs.toArray ws.toArray n n2 dd dd2 sl sl2 (by simpa using hv) (by simpa using hw) (by rw [List.size_toArray,List.size_toArray];exact hsz)) ⟨ho,ho2,?_⟩
  rw [e]
  exact h2 hw
def sIx (n d:Nat):Option Int->Nat
 | none=>d
 | some v=>if v<0 then (v+(n:Int)).toNat else min v.toNat n
end
end HT
namespace L2
open PySem PySem.Spec PyProof.Rows
abbrev TO:=St->Hp->(Option Int->Hp->Prop)->Prop
theorem intsAre_of {ns:List Int}:∀ {us:List Value},Vals (ns.map V.int) us->IntsAre us ns:=by
 induction ns with
 | nil=>intro us r;rw [List.map_nil] at r;cases r;exact .nil
 | cons n ns ih =>
  intro us r
  rw [List.map_cons] at r
  cases r with
  | cons r1 r2 =>
   obtain ⟨t,e⟩:=r1
   subst e
   exact .cons n t (ih r2)
section
variable {X:Cx}{e:Expr}{te:TE}{lo hi:Option Expr}{tl th:TO}{pos p2:Pos}
def zp8 (K:PySem.W.Frag):R2:=fun x y H Q=>∃ a b xs ys,x=.ref a/\y=.ref b/\SqT K H a xs/\SqT K H b ys/\xs≠[]/\xs.length+ys.length≤sizeLine /\
 (ys=[]->Q (.ref a) H)/\(ys≠[]->∀ p,H p=none->Q (.ref p) (upd H p (.tup (xs++ys))))
theorem Vals.nil_iff {xs:List V}{us:List Value}(r:Vals xs us):us=[]↔xs=[]:=by
 cases r with
 | nil=>simp
 | cons _ _=>simp
theorem op_catT:OpR X (binaryOp .Add) (zp8 X.K):=by
 intro pins s σ H x y v u Q I rx ry h
 obtain ⟨a,b,xs,ys,rfl,rfl,ha,hb,hx,hz,q1,q2⟩:=h
 cases rx
 cases ry
 obtain ⟨its,r1,p1,_⟩:=I.tuple ha
 obtain ⟨its2,r2,p2,_⟩:=I.tuple hb
 refine HT.cat_tup p1 p2 (fun z=>hx (r1.nil_iff.mp z)) (fun z=>⟨.ref a,H,I,rfl,q1 (r2.nil_iff.mp z)⟩) (fun z=>?_) (by rw [← r1.length,← r2.length];exact hz)
 refine ⟨.ref s.heap.objs.size,_,I.laid (t':=s.toks) (o:=.tup (xs++ys)) (fun b ob q=>Heap.get?_push_of_some _ q) (Nat.le_refl _) ?_,rfl,q2 (fun w=>z (r2.nil_iff.mpr w)) _ (I.hok.fresh (Nat.le_refl _))⟩
 exact ⟨by rw [List.length_append];exact hz,_,r1.append r2,FT.IsTup0.new _ _⟩
end
def ixN (n:Nat) (i:Int):Option Nat:=if 0≤i then (if i<n then some i.toNat else none) else if -(n:Int)≤i then some (i+n).toNat else none
def atI {α:Type} (xs:List α) (i:Int):Option α:=(ixN xs.length i).bind fun j=>xs[j]?
theorem z86 {n:Nat}{i:Int}{j:Nat}(h:ixN n i=some j):seqIndex? i n=some j/\j<n/\-(n:Int)≤i/\i<n:=by
 unfold ixN at h
 by_cases h0:0≤i
 ·rw [if_pos h0] at h
  by_cases h1:i<n
  ·rw [if_pos h1] at h
   have e:i.toNat=j:=Option.some.inj h
   exact ⟨by rw [seqIndex_of h0 h1,e],by omega,by omega,h1⟩
  ·rw [if_neg h1] at h;cases h
 ·rw [if_neg h0] at h
  by_cases h1:-(n:Int)≤i
  ·rw [if_pos h1] at h
   have e:(i+n).toNat=j:=Option.some.inj h
   exact ⟨by rw [seqIndex_neg (by omega) h1,e],by omega,h1,by omega⟩
  ·rw [if_neg h1] at h;cases h
theorem z5I {α:Type}{xs:List α}{i:Int}{v:α}(h:atI xs i=some v):∃ j,seqIndex? i xs.length=some j/\xs[j]?=some v/\j<xs.length/\-(xs.length:Int)≤i/\i<xs.length:=by
 unfold atI at h
 cases e:ixN xs.length i with
 | none=>rw [e] at h;cases h
 | some j =>
  rw [e] at h
  obtain ⟨h1,h2,h3,h4⟩:=z86 e
  exact ⟨j,h1,h,h2,h3,h4⟩
theorem z3Y {α:Type}{xs:List α}{j:Nat}{v:α}(h:xs[j]?=some v):atI xs (j:Int)=some v:=by
 have hj:j<xs.length:=(List.getElem?_eq_some_iff.mp h).1
 have e:ixN xs.length (j:Int)=some j:=by
  unfold ixN
  rw [if_pos (by omega),if_pos (by omega)];simp
 unfold atI;rw [e];exact h
def z8W (b:Expr):Prop:=∀ o i,subscripted b false o i=operate [o,i] (getItem o i)
def IxR (X:Cx) (r:R2):Prop :=
 ∀ (value slice:Expr) (pins:List (Addr×Obj)) (s:Shared) (σ:St) (H:Hp) (x y:V) (v u:Value) (Q:VK),Inv X pins σ H s->RelV x v->RelV y u->r x y H Q ->
  subscripted slice false v u=operate [v,u] (getItem v u)->wpAny (model X.prog X.w) X.A (subscriptTail value slice v u) (EP X pins σ Q) X.xe s
def MtR (X:Cx) (id:String) (r:V->List V->Hp->VK->Prop):Prop :=
 ∀ (pins:List (Addr×Obj)) (s:Shared) (σ:St) (H:Hp) (x:V) (xs:List V) (v:Value) (us:List Value) (Q:VK),Inv X pins σ H s->RelV x v->Vals xs us->r x xs H Q ->
  wpAny (model X.prog X.w) X.A (call (.builtin id) (v :: us)) (EP X pins σ Q) X.xe s
section
variable {X:Cx}{a b:Expr}{ta tb:TE}{pos:Pos}
theorem IxR.or {r r':R2}(h:IxR X r) (h':IxR X r'):IxR X (fun x y H Q=>r x y H Q∨r' x y H Q):=by
 intro value slice pins s σ H x y v u Q I rx ry q hs
 rcases q with q | q
 ·exact h value slice pins s σ H x y v u Q I rx ry q hs
 ·exact h' value slice pins s σ H x y v u Q I rx ry q hs
theorem zJ9 {r:R2}(hr:IxR X r) (ha:PE X a ta) (hb:PE X b tb) (hs:z8W b):PE X (.Subscript a b pos) (tOp r ta tb):=by
 intro pins s σ H Q I h
 exact Subscript_ (binT ha hb I h fun v u s2 x y H2 I2 rx ry q=>hr a b pins s2 σ H2 x y v u Q I2 rx ry q (hs _ _))
def rIxL (K:PySem.W.Frag):R2:=fun x y H Q=>∃ p xs i v,x=.ref p/\y=.int i/\SqL K H p xs/\atI xs i=some v/\Q v H
def rIxT (K:PySem.W.Frag):R2:=fun x y H Q=>∃ p xs i v,x=.ref p/\y=.int i/\SqT K H p xs/\atI xs i=some v/\Q v H
def rIxS:R2:=fun x y H Q=>∃ z i c,x=.str z/\y=.int i/\z.length≤sizeLine/\atI z.cps.toList i=some c/\Q (.str ⟨#[c]⟩) H
theorem ix_list:IxR X (rIxL X.K):=by
 intro value slice pins s σ H x y v u Q I rx ry h hs
 obtain ⟨p,xs,i,z,rfl,rfl,hq,he,q⟩:=h
 cases rx
 obtain ⟨t,rfl⟩:=ry
 obtain ⟨its,r,pl,hz⟩:=I.list hq
 obtain ⟨j,h1,h2,h3,h4,h5⟩:=z5I he
 obtain ⟨w,ew,rw'⟩:=r.get h2
 have hl:=r.length
 have hn:=z3F
 have fin:EP X pins σ Q w s:=⟨z,H,I,rw',q⟩
 by_cases h0:0≤i
 ·have hj:i.toNat=j:=by
   rw [seqIndex_of h0 h5] at h1
   exact Option.some.inj h1
  exact item_listR pl.isList h0 (by omega) (by rw [hj];simpa using ew) fin hs
 ·have hj:(i+(its.toArray.size:Int)).toNat=j:=by
   rw [seqIndex_neg (by omega) h4] at h1
   rw [List.size_toArray,← hl]
   exact Option.some.inj h1
  exact subscriptTail_builtinR (x:=w) pl.isList.typeIs slot_list_getitem.lookup
   (wpAny_getItem_list_neg (Q:=fun r s'=>r=w/\EP X pins σ Q r s') pl.isList (by omega) (by rw [List.size_toArray]<;>omega) (by omega) (by rw [hj];simpa using ew) ⟨rfl,fin⟩) hs
theorem ix_tup:IxR X (rIxT X.K):=by
 intro value slice pins s σ H x y v u Q I rx ry h hs
 obtain ⟨p,xs,i,z,rfl,rfl,hq,he,q⟩:=h
 cases rx
 obtain ⟨t,rfl⟩:=ry
 obtain ⟨its,r,pl,hz⟩:=I.tuple hq
 obtain ⟨j,h1,h2,h3,h4,h5⟩:=z5I he
 obtain ⟨w,ew,rw'⟩:=r.get h2
 have hl:=r.length
 have hn:=z3F
 have fin:EP X pins σ Q w s:=⟨z,H,I,rw',q⟩
 exact subscriptTail_builtinR (x:=w) pl.typeIs slot_tuple_getitem.lookup
  (getItem_tuple (j:=j) (Q:=fun r s'=>r=w/\EP X pins σ Q r s') pl (by omega) (by omega) (by rw [List.size_toArray,← hl];exact h1) (by simpa using ew) ⟨rfl,fin⟩) hs
theorem zF4:IxR X rIxS:=by
 intro value slice pins s σ H x y v u Q I rx ry h hs
 obtain ⟨z,i,c,rfl,rfl,hz,he,q⟩:=h
 obtain ⟨t,rfl⟩:=rx
 obtain ⟨t',rfl⟩:=ry
 obtain ⟨j,h1,h2,h3,h4,h5⟩:=z5I he
 have hl:z.cps.toList.length=z.length:=by simp [Str.length]
 rw [hl] at h1 h4 h5
 have hn:=z3F
 exact tail_any (typeIs_str s z t) slot_str_getitem.lookup (getItem_str (c:=c) (by
  have e1:decide (i < -(2 ^ 63:Int))=false:=decide_eq_false (by omega)
  have e2:decide (i ≥ 2 ^ 63)=false:=decide_eq_false (by omega)
  rw [e1,e2,Bool.or_false]) (by rw [h1];simpa using h2) ⟨.str ⟨#[c]⟩,H,I.tok _,⟨_,rfl⟩,q⟩) hs
def rIx (K:PySem.W.Frag):R2:=fun x y H Q=>rIxL K x y H Q∨rIxT K x y H Q∨rIxS x y H Q
theorem zx9:IxR X (rIx X.K):=ix_list.or (ix_tup.or zF4)
theorem z7a (its:List Value) (n j:Nat) (u:Value):Obj.mapSeq (·.setIfInBounds j u) { cls:=.type "list",data:=.seq its.toArray n }={ cls:=.type "list",data:=.seq (its.set j u).toArray n }:=by
 simp [Obj.mapSeq]
theorem Inv.lst {pins:List (Addr×Obj)}{σ:St}{H:Hp}{s:Shared}{p:Addr}{xs:List V}(I:Inv X pins σ H s) (h:H p=some (.lst xs)) :
 ∃ (its:List Value) (n:Nat),Vals xs its/\s.heap.get? p=some { cls:=.type "list",data:=.seq its.toArray n }/\xs.length≤sizeLine:=by
 obtain ⟨z,its,n,r,e⟩:=I.hok p _ h
 exact ⟨its,n,r,e,z⟩
theorem Inv.lstUpd {pins:List (Addr×Obj)}{σ:St}{H:Hp}{s:Shared}{p:Addr}{xs ys:List V}{its its':List Value}{n n':Nat}{f:Obj->Obj}(I:Inv X pins σ H s) (h:H p=some (.lst xs))
 (ho:s.heap.get? p=some { cls:=.type "list",data:=.seq its.toArray n }) (hf:f { cls:=.type "list",data:=.seq its.toArray n }={ cls:=.type "list",data:=.seq its'.toArray n' }) (r:Vals ys its') (hz:ys.length≤sizeLine) (t:Nat) :
 Inv X pins σ (upd H p (.lst ys)) { s with heap:=s.heap.update p f,toks:=t }:=by
 have e:(s.heap.update p f).get? p=some { cls:=.type "list",data:=.seq its'.toArray n' }:=by
  rw [Heap.get?_update_self f ho (by rw [hf]<;>rfl),hf]
 refine I.write (x:=p) (e:=p) (by rw [h];trivial) (.inl rfl) (fun b u hb q=>(Heap.get?_update_other _ _ (Ne.symm hb)).trans q) ⟨_,e⟩ ?_
 exact ⟨hz,its',n',r,e⟩
def zN4:V->V->V->Hp->(Hp->Prop)->Prop:=fun o i v H Q=>∃ p xs k j,o=.ref p/\i=.int k/\H p=some (.lst xs)/\ixN xs.length k=some j/\Q (upd H p (.lst (xs.set j v)))
theorem set_list:PSet X zN4:=by
 intro pins s σ H o i v ov iv u Q I ro ri rv h
 obtain ⟨p,xs,k,j,rfl,rfl,hp,hj,q⟩:=h
 cases ro
 obtain ⟨t,rfl⟩:=ri
 obtain ⟨its,n,r,ho,hz⟩:=I.lst hp
 obtain ⟨h1,h2,h3,h4⟩:=z86 hj
 have hl:=r.length
 have hn:=z3F
 have I':Inv X pins σ (upd H p (.lst (xs.set j v))) { s with heap:=s.heap.update p (Obj.mapSeq (·.setIfInBounds j u)) } :=
  I.lstUpd hp ho (z7a its n j u) (r.set rv j) (by rw [List.length_set];exact hz) s.toks
 by_cases h0:0≤k
 ·have hk:k.toNat=j:=by
   rw [seqIndex_of h0 h4] at h1
   exact Option.some.inj h1
  exact PySem.W.ki_setAt ho h0 (by omega) (by rw [List.size_toArray,← hl];exact h4) (by rw [hk];exact ⟨_,I',q⟩)
 ·have hk:(k+(its.toArray.size:Int)).toNat=j:=by
   rw [seqIndex_neg (by omega) h3] at h1
   rw [List.size_toArray,← hl]
   exact Option.some.inj h1
  exact PySem.W.ki_setBack ho (by omega) (by rw [List.size_toArray,← hl];exact h3) (by omega) (by rw [hk];exact ⟨_,I',q⟩)
def z3u:V->Bool
 | .non=>true
 | .bl _=>true
 | .int _=>true
 | .str _=>true
 | _=>false
def eqV:V->V->Bool
 | .non,.non=>true
 | .bl a,.bl b=>a == b
 | .bl a,.int b=>(if a then 1 else 0) == b
 | .int a,.bl b=>a == (if b then 1 else 0)
 | .int a,.int b=>a == b
 | .str a,.str b=>a == b
 | _,_=>false
theorem zG2 {A:Around}{s:Shared}{y x:V}{u v:Value}(ry:RelV y u) (rx:RelV x v) (fy:z3u y=true) (fx:z3u x=true):SeqAt.EqAt A s u v (eqV y x):=by
 cases y with
 | non =>
  cases ry
  cases x with
  | non=>cases rx;exact SeqAt.EqAt.same _
  | bl b=>cases rx;exact SeqAt.EqAt.none_bool b
  | int b=>obtain ⟨t,rfl⟩:=rx;exact SeqAt.EqAt.none_int b t
  | str b=>obtain ⟨t,rfl⟩:=rx;exact SeqAt.EqAt.none_str b t
  | _=>exact absurd (show false=true from fx) Bool.false_ne_true
 | bl a =>
  cases ry
  cases x with
  | non=>cases rx;exact SeqAt.EqAt.bool_none a
  | bl b=>cases rx;exact SeqAt.EqAt.bool_bool a b
  | int b=>obtain ⟨t,rfl⟩:=rx;exact SeqAt.EqAt.bool_int a b t
  | str b=>obtain ⟨t,rfl⟩:=rx;exact SeqAt.EqAt.bool_str a b t
  | _=>exact absurd (show false=true from fx) Bool.false_ne_true
 | int a =>
  obtain ⟨t',rfl⟩:=ry
  cases x with
  | non=>cases rx;exact SeqAt.EqAt.int_none a t'
  | bl b=>cases rx;exact SeqAt.EqAt.int_bool a t' b
  | int b=>obtain ⟨t,rfl⟩:=rx;exact SeqAt.EqAt.int_int a t' b t
  | str b=>obtain ⟨t,rfl⟩:=rx;exact SeqAt.EqAt.int_str a t' b t
  | _=>exact absurd (show false=true from fx) Bool.false_ne_true
 | str a =>
  obtain ⟨t',rfl⟩:=ry
  cases x with
  | non=>cases rx;exact SeqAt.EqAt.str_none a t'
  | bl b=>cases rx;exact SeqAt.EqAt.str_bool a t' b
  | int b=>obtain ⟨t,rfl⟩:=rx;exact SeqAt.EqAt.str_int a t' b t
  | str b=>obtain ⟨t,rfl⟩:=rx;exact SeqAt.EqAt.str_str a t' b t
  | _=>exact absurd (show false=true from fx) Bool.false_ne_true
 | _=>exact absurd (show false=true from fy) Bool.false_ne_true
def eqU (x:V) (u:Value):Bool:=match u with
 | .none=>eqV .non x
 | .bool b=>eqV (.bl b) x
 | .int i _=>eqV (.int i) x
 | .str z _=>eqV (.str z) x
 | _=>false
theorem zf8 {x y:V}{u:Value}(r:RelV y u) (f:z3u y=true):eqU x u=eqV y x:=by
 cases y with
 | non=>cases r;rfl
 | bl b=>cases r;rfl
 | int i=>obtain ⟨t,rfl⟩:=r;rfl
 | str z=>obtain ⟨t,rfl⟩:=r;rfl
 | _=>exact absurd (show false=true from f) Bool.false_ne_true
theorem z35 {x:V}:∀ {xs:List V}{us:List Value},Vals xs us->xs.all z3u=true->us.any (eqU x)=xs.any fun y=>eqV y x
 | _,_,.nil,_=>rfl
 | y :: xs,u :: us,.cons r t,f=>by
  rw [List.all_cons,Bool.and_eq_true] at f
  rw [List.any_cons,List.any_cons,zf8 r f.1,z35 t f.2]
theorem z1Y {A:Around}{s:Shared}{x:V}{v:Value}(rx:RelV x v) (fx:z3u x=true):∀ {xs:List V}{us:List Value},Vals xs us->xs.all z3u=true->∀ u∈us,SeqAt.EqAt A s u v (eqU x u)
 | _,_,.nil,_=>fun u hu=>by cases hu
 | y :: xs,u :: us,.cons r t,f=>fun u' hu=>by
  rw [List.all_cons,Bool.and_eq_true] at f
  rcases List.mem_cons.mp hu with rfl | hu
  ·rw [zf8 r f.1];exact zG2 r rx f.1 fx
  ·exact z1Y rx fx t f.2 u' hu
def inV (x:V) (xs:List V):Bool:=xs.any fun y=>eqV y x
def rIn (K:PySem.W.Frag) (neg:Bool):R2:=fun x y H Q=>∃ p xs,y=.ref p/\(SqL K H p xs∨SqT K H p xs)/\z3u x=true/\xs.all z3u=true/\Q (.bl (if neg then !inV x xs else inV x xs)) H
theorem z98:OpR X (compareOp .In) (rIn X.K false):=by
 intro pins s σ H x y v u Q I rx ry h
 obtain ⟨p,xs,rfl,hq,fx,fs,q⟩:=h
 cases ry
 rcases hq with hq | hq
 ·obtain ⟨its,r,pl,hz⟩:=I.list hq
  refine SeqAt.in_listAt (eqU x) pl.isList (fun w hw=>z1Y rx fx r fs w (by simpa using hw)) ⟨.bl _,H,I,rfl,?_⟩
  rw [show its.toArray.any (eqU x)=its.any (eqU x) by simp,z35 r fs]
  exact q
 ·obtain ⟨its,r,pl,hz⟩:=I.tuple hq
  refine SeqAt.in_tupleAt (eqU x) pl (fun w hw=>z1Y rx fx r fs w (by simpa using hw)) ⟨.bl _,H,I,rfl,?_⟩
  rw [show its.toArray.any (eqU x)=its.any (eqU x) by simp,z35 r fs]
  exact q
theorem z5h:OpR X (compareOp .NotIn) (rIn X.K true):=by
 intro pins s σ H x y v u Q I rx ry h
 obtain ⟨p,xs,rfl,hq,fx,fs,q⟩:=h
 cases ry
 rcases hq with hq | hq
 ·obtain ⟨its,r,pl,hz⟩:=I.list hq
  refine SeqAt.notIn_listAt (eqU x) pl.isList (fun w hw=>z1Y rx fx r fs w (by simpa using hw)) ⟨.bl _,H,I,rfl,?_⟩
  rw [show its.toArray.any (eqU x)=its.any (eqU x) by simp,z35 r fs]
  exact q
 ·obtain ⟨its,r,pl,hz⟩:=I.tuple hq
  refine SeqAt.notIn_tupleAt (eqU x) pl (fun w hw=>z1Y rx fx r fs w (by simpa using hw)) ⟨.bl _,H,I,rfl,?_⟩
  rw [show its.toArray.any (eqU x)=its.any (eqU x) by simp,z35 r fs]
  exact q
theorem z4D:z1y X (.type "list") (fun xs H Q=>∃ p ys,xs=[.ref p]/\(SqL X.K H p ys∨SqT X.K H p ys)/\∀ l,H l=none->Q (.ref l) (upd H l (.lst ys))):=by
 intro pins s σ H xs us Q I r h
 obtain ⟨p,ys,rfl,hq,q⟩:=h
 obtain ⟨u,rfl,rx⟩:=vals1 r
 cases rx
 have fin:∀ (its:List Value),Vals ys its->ys.length≤sizeLine->∀ (h':Heap) (c':Nat),(∀ b o',s.heap.get? b=some o'->h'.get? b=some o') ->
  h'.get? s.heap.objs.size=some { cls:=.type "list",dict:=none,data:=.seq its.toArray c',slots:=#[] }->EP X pins σ Q (.ref s.heap.objs.size) { s with heap:=h' }:=fun its r' hz h' c' kp e =>
  ⟨.ref s.heap.objs.size,_,I.laid (t':=s.toks) kp (Nat.le_refl _) (show ObjOk X.prog X.w _ h' _ (.lst ys) from ⟨hz,its,c',r',e⟩),rfl,q _ (I.hok.fresh (Nat.le_refl _))⟩
 rcases hq with hq | hq
 ·obtain ⟨its,r',pl,hz⟩:=I.list hq
  have hlen:=r'.length
  obtain ⟨o,ho,hc,n,hd⟩:=pl.isList
  exact call_list_seq p (.inl rfl) ho hc hd (fun h' c' kp e=>fin its r' hz h' c' kp e) (by simp only [List.size_toArray]<;>omega)
 ·obtain ⟨its,r',pl,hz⟩:=I.tuple hq
  have hlen:=r'.length
  obtain ⟨o,ho,hc,n,hd⟩:=pl
  exact call_list_seq p (.inr rfl) ho hc hd (fun h' c' kp e=>fin its r' hz h' c' kp e) (by simp only [List.size_toArray]<;>omega)
theorem z4l:z1y X (.type "tuple") (fun xs H Q=>∃ p ys,xs=[.ref p]/\((SqL X.K H p ys/\∀ l,H l=none->Q (.ref l) (upd H l (.tup ys)))∨(SqT X.K H p ys/\Q (.ref p) H))):=by
 intro pins s σ H xs us Q I r h
 obtain ⟨p,ys,rfl,h⟩:=h
 obtain ⟨u,rfl,rx⟩:=vals1 r
 cases rx
 rcases h with ⟨hq,q⟩ | ⟨hq,q⟩
 ·obtain ⟨its,r',pl,hz⟩:=I.list hq
  have hlen:=r'.length
  refine call_tuple_list pl.isList (fun h' kp=>?_) (by simp only [List.size_toArray]<;>omega)
  have I1:Inv X pins σ H { s with heap:=h' }:=I.kept (t':=s.toks) kp
  have I2:Inv X pins σ (upd H h'.objs.size (.tup ys)) { s with heap:=h'.push { cls:=.type "tuple",data:=.seq its.toArray } } :=
   I1.laid (t':=s.toks) (fun b o e=>Heap.get?_push_of_some _ e) (Nat.le_refl _) (show ObjOk X.prog X.w _ _ _ (.tup ys) from ⟨hz,its,r',FT.IsTup0.new _ _⟩)
  exact ⟨.ref h'.objs.size,_,I2,rfl,q _ (I1.hok.fresh (Nat.le_refl _))⟩
 ·obtain ⟨its,r',pl,hz⟩:=I.tuple hq
  exact call_tuple_same pl ⟨.ref p,H,I,rfl,q⟩
def tyV (K:PySem.W.Frag) (T:String) (x:V) (H:Hp):Prop:=match x with
 | .str _=>T = "str"
 | .int _=>T = "int"
 | .ref p=>(T = "list"/\∃ xs,SqL K H p xs)∨(T = "tuple"/\∃ o,K.lookup p=some o/\o.cls=.type "tuple"/\o.dict=none) ∨
  (T = "dict"/\((∃ kvs,H p=some (.dK kvs))∨∃ kvs,H p=some (.dT kvs)))∨(T = "set"/\∃ ks,H p=some (.set ks))
 | _=>False
theorem zy3 {pins:List (Addr×Obj)}{σ:St}{H:Hp}{s:Shared}{T:String}{x:V}{v:Value}(I:Inv X pins σ H s) (r:RelV x v) (ty:tyV X.K T x H) :
 s.TypeIs v T/\∀ a,v=.ref a->∃ ob,s.heap.get? a=some ob/\ob.dict=none:=by
 cases x with
 | str z =>
  obtain ⟨t,rfl⟩:=r
  cases (show T = "str" from ty)
  exact ⟨typeIs_str s z t,fun _ e=>nomatch e⟩
 | int i =>
  obtain ⟨t,rfl⟩:=r
  cases (show T = "int" from ty)
  exact ⟨typeIs_int s i t,fun _ e=>nomatch e⟩
 | ref p =>
  cases r
  rcases ty with ⟨rfl,xs,hq⟩ | ⟨rfl,o,hk,hc,hd⟩ | ⟨rfl,hk⟩ | ⟨rfl,ks,hk⟩
  ·obtain ⟨its,_,pl,_⟩:=I.list hq
   refine ⟨pl.isList.typeIs,fun a e=>?_⟩
   cases e
   obtain ⟨o,n,e,c,hd,_⟩:=pl
   exact ⟨o,e,hd⟩
  ·refine ⟨⟨o,I.kIn p o hk,hc⟩,fun a e=>?_⟩
   cases e
   exact ⟨o,I.kIn _ o hk,hd⟩
  ·have z:∃ o,s.heap.get? p=some o/\o.ExactDict:=by
    rcases hk with ⟨kvs,hk⟩ | ⟨kvs,hk⟩
    ·obtain ⟨_,_,_,_,o,_,_,e,ex,_⟩:=I.hok p _ hk
     exact ⟨o,e,ex⟩
    ·obtain ⟨_,_,_,_,o,_,_,e,ex,_⟩:=I.hok p _ hk
     exact ⟨o,e,ex⟩
   obtain ⟨o,e,ex⟩:=z
   refine ⟨⟨o,e,ex.1⟩,fun a e2=>?_⟩
   cases e2
   exact ⟨o,e,ex.2.1⟩
  ·obtain ⟨o,_,_,_,_,e,ex,_⟩:=I.hok p _ hk
   refine ⟨⟨o,e,ex.1⟩,fun a e2=>?_⟩
   cases e2
   exact ⟨o,e,ex.2.1⟩
 | _=>exact False.elim ty
def tBM (K:PySem.W.Frag) (T:String) (r:V->List V->Hp->VK->Prop) (to:TE) (t:TA):TE:=fun σ H Q=>to σ H fun x H1=>tyV K T x H1/\t σ H1 fun xs H2=>r x xs H2 Q
variable {o e:Expr}{es:List Expr}{to:TE}{t:TA}{name:Str}{apos cpos:Pos}{T id:String}{r:V->List V->Hp->VK->Prop}
theorem z9A (pa:PlainAttrs T) (slot:Slot T name id) (hty:typeOf (.builtin id)=pure (.type "method_descriptor")) (hm:MtR X id r) (ho:PE X o to) (ha:PA X (e :: es) t)
 (hbase:attributeBase o name X.env (eval o X.env)=eval o X.env:=by rfl)
 (hfew:((backTo cpos (starEach (e :: es) X.env)).all (fun x=>!x.1) && (backToKw cpos (keywordEach [] X.env)).all (fun x=>x.1.isSome)
  && decide ((e :: es).length+([]:List Keyword).length+(if ([]:List Keyword).isEmpty then 0 else 1)<30))=true:=by rfl)
 (hline:(apos.endLine == cpos.line)=true:=by rfl) (hs:starEach (e :: es) X.env=(false,eval e X.env) :: starEach es X.env:=by rfl) (hplain:(backTo cpos (starEach es X.env)).any (·.1)=false:=by rfl) :
 PE X (.Call (.Attribute o name apos) (e :: es) [] cpos) (tBM X.K T r to t):=by
 intro pins s σ H Q I h
 refine wpAny_Call_method_late hbase hfew hline rfl (thn (ho pins s σ H _ I h) fun v s1 ⟨x,H1,I1,r1,ty,q1⟩=>?_)
 obtain ⟨h1,h2⟩:=zy3 I1 r1 ty
 refine ⟨T,id,pa,slot,hty,h1,h2,?_⟩
 have hA:=ha cpos pins s1 σ H1 _ I1 q1
 rw [hs] at hA ⊢
 refine Calls.callWith_builtin (by show (false || (backTo cpos (starEach es X.env)).any (·.1))=false;rw [hplain]<;>rfl) (Calls.evalArgs_plain ?_)
 exact thn hA fun us s2 ⟨vs,H2,I2,r2,q2⟩=>hm pins s2 σ H2 x vs v us Q I2 r1 r2 q2
end
def MtM (X:Cx) (id:String) (r:V->List V->Hp->VK->Prop):Prop :=
 ∀ (pins:List (Addr×Obj)) (s:Shared) (σ:St) (H:Hp) (x:V) (xs:List V) (v:Value) (us:List Value) (Q:VK),Inv X pins σ H s->RelV x v->Vals xs us->r x xs H Q ->
  wpAny (model X.prog X.w) X.A (call (.builtin id) (v :: us)) (EP X pins σ Q) X.xe s
theorem Vals.one:∀ {x:V}{us:List Value},Vals [x] us->∃ u,us=[u]/\RelV x u
 | _,_,.cons r .nil=>⟨_,rfl,r⟩
theorem Vals.eraseIdx:∀ {xs:List V}{us:List Value}(i:Nat),Vals xs us->Vals (xs.eraseIdx i) (us.eraseIdx i)
 | _,_,_,.nil=>.nil
 | _,_,0,.cons _ t=>t
 | _,_,i+1,.cons r t=>.cons r (Vals.eraseIdx i t)
theorem Vals.rep {xs:List V}{us:List Value}(h:Vals xs us):∀ k:Nat,Vals (List.replicate k xs).flatten (List.replicate k us).flatten
 | 0=>.nil
 | k+1=>by
  rw [List.replicate_succ,List.replicate_succ,List.flatten_cons,List.flatten_cons]
  exact Vals.append h (Vals.rep h k)
theorem z4O {α:Type}:∀ (l:List α) (i:Nat),(l.eraseIdx i).length≤l.length
 | [],_=>Nat.le_refl _
 | _ :: _,0=>Nat.le_succ _
 | _ :: r,i+1=>Nat.succ_le_succ (z4O r i)
theorem foldl_rep (its:List Value):∀ (k:Nat) (acc:List Value),
 List.foldl (fun x1 x2=>x1++x2) acc.toArray (List.replicate k its.toArray)=(acc++(List.replicate k its).flatten).toArray
 | 0,acc=>by simp
 | k+1,acc=>by
  have e:acc.toArray++its.toArray=(acc++its).toArray:=by simp
  have e2:(acc++its)++(List.replicate k its).flatten=acc++(List.replicate (k+1) its).flatten:=by
   rw [List.replicate_succ,List.flatten_cons,List.append_assoc]
  rw [← e2,← foldl_rep its k (acc++its),← e,List.replicate_succ,List.foldl_cons]
section
variable {X:Cx}{pins:List (Addr×Obj)}{σ:St}{H:Hp}{s:Shared}{l b:Addr}{xs ys zs:List V}
theorem Inv.lset {its its':List Value}{n:Nat}{f:Array Value->Array Value}{t':Nat}(I:Inv X pins σ H s) (hH:H l=some (.lst xs))
 (e:s.heap.get? l=some { cls:=.type "list",data:=.seq its.toArray n }) (hf:f its.toArray=its'.toArray) (hv:Vals ys its') (hz:ys.length≤sizeLine) :
 Inv X pins σ (upd H l (.lst ys)) { s with heap:=s.heap.update l (Obj.mapSeq f),toks:=t' }:=by
 have q:=PySem.IsL.update e f
 rw [hf] at q
 refine I.write (x:=l) (e:=l) (by rw [hH];exact trivial) (.inl rfl) (fun b' u hb hu=>(Heap.get?_update_other s.heap (Obj.mapSeq f) (Ne.symm hb)).trans hu) ⟨_,q⟩ ?_
 exact ⟨hz,its',_,hv,q⟩
theorem Inv.lnew {its:List Value}{t':Nat}(I:Inv X pins σ H s) (hv:Vals ys its) (hz:ys.length≤sizeLine) :
 Inv X pins σ (upd H s.heap.objs.size (.lst ys)) { s with heap:=s.heap.push { cls:=.type "list",data:=.seq its.toArray },toks:=t' } :=
 I.laid (fun _ _ q=>Heap.get?_push_of_some _ q) (Nat.le_refl _) ⟨hz,its,0,hv,Heap.get?_push_size _ rfl⟩
theorem Inv.fresh (I:Inv X pins σ H s):H s.heap.objs.size=none:=I.hok.fresh (Nat.le_refl _)
theorem Inv.lstM (I:Inv X pins σ H s) (hH:H l=some (.lst xs)):xs.length≤sizeLine/\∃ (its:List Value) (n:Nat),Vals xs its/\xs.length=its.length/\s.heap.get? l=some { cls:=.type "list",data:=.seq its.toArray n }:=by
 obtain ⟨z,its,n,r,e⟩:=I.hok l _ hH
 exact ⟨z,its,n,r,r.length,e⟩
theorem zd8 {n:Nat}(h:n≤sizeLine):Builtin.List.listTooLong n=false:=by
 unfold Builtin.List.listTooLong
 exact decide_eq_false (by omega)
end
section
variable {X:Cx}
def zu9:V->List V->Hp->VK->Prop:=fun x vs H Q=>∃ l xs y,x=.ref l/\vs=[y]/\H l=some (.lst xs)/\xs.length<sizeLine/\Q .non (upd H l (.lst (xs++[y])))
theorem z3k:MtM X "list.append" zu9:=by
 intro pins s σ H x vs v us Q I rx rv h
 obtain ⟨l,xs,y,rfl,rfl,hH,hz,q⟩:=h
 cases rx
 obtain ⟨u,rfl,ru⟩:=rv.one
 obtain ⟨z,its,n,r,hl,e⟩:=I.lstM hH
 refine call_meets F.slot_list_append ⟨_,e,rfl⟩ F.entry_list_append (F.args_list_append_2 _ _) (PySem.list_append l its.toArray n u (by rw [List.size_toArray];omega)) ⟨e,?_⟩
 refine ⟨.non,_,I.lset (its':=its++[u]) hH e (by simp) (r.append (.cons ru .nil)) ?_,rfl,q⟩
 rw [List.length_append,List.length_singleton]
 omega
def zC1:V->List V->Hp->VK->Prop:=fun x vs H Q=>∃ l xs i k y,x=.ref l/\vs=[.int i]/\H l=some (.lst xs)/\-(2 ^ 63)≤i/\i<2 ^ 63/\seqIndex? i xs.length=some k/\xs[k]?=some y/\Q y (upd H l (.lst (xs.eraseIdx k)))
theorem zc1:MtM X "list.pop" zC1:=by
 intro pins s σ H x vs v us Q I rx rv h
 obtain ⟨l,xs,i,k,y,rfl,rfl,hH,h1,h2,hk,hy,q⟩:=h
 cases rx
 obtain ⟨u,rfl,ru⟩:=rv.one
 obtain ⟨t,rfl⟩:=ru
 obtain ⟨z,its,n,r,hl,e⟩:=I.lstM hH
 obtain ⟨w,hw,rw'⟩:=r.get hy
 refine call_meets F.slot_list_pop ⟨_,e,rfl⟩ F.entry_list_pop (F.args_list_pop_2 _ _)
  (MeetsSeq.list_pop_at l its.toArray n i t k w (fitsIndex_both h1 h2) (by rw [List.size_toArray,← hl];exact hk) (by rw [← Array.getElem?_toList];exact hw) (by rw [List.size_toArray];omega)) ⟨e,?_⟩
 refine ⟨y,_,I.lset (its':=its.eraseIdx k) hH e ?_ (r.eraseIdx k) ?_,rw',q⟩
 ·show its.toArray.eraseIdxIfInBounds k=(its.eraseIdx k).toArray
  rw [List.eraseIdxIfInBounds_toArray]
 ·have:=z4O xs k
  omega
def rCat:R2:=fun x y H Q=>∃ l b xs zs,x=.ref l/\y=.ref b/\H l=some (.lst xs)/\H b=some (.lst zs)/\xs.length+zs.length≤sizeLine/\∀ p,H p=none->Q (.ref p) (upd H p (.lst (xs++zs)))
theorem op_cat:OpR X (binaryOp .Add) rCat:=by
 intro pins s σ H x y v u Q I rx ry h
 obtain ⟨l,b,xs,zs,rfl,rfl,hH,hB,hz,q⟩:=h
 cases rx
 cases ry
 obtain ⟨z,its,n,r,hl,e⟩:=I.lstM hH
 obtain ⟨z2,its2,n2,r2,hl2,e2⟩:=I.lstM hB
 refine PySem.P.add_list e e2 ?_ (by rw [List.size_toArray,List.size_toArray];omega)
 have ea:its.toArray++its2.toArray=(its++its2).toArray:=by simp
 rw [ea]
 exact ⟨.ref _,_,I.lnew (t':=s.toks) (r.append r2) (by rw [List.length_append];omega),rfl,q _ I.fresh⟩
def rRep:R2:=fun x y H Q=>∃ l k xs,x=.ref l/\y=.int k/\H l=some (.lst xs)/\-(2 ^ 63)≤k/\k<2 ^ 63/\xs.length * k.toNat≤sizeLine /\
 ∀ p,H p=none->Q (.ref p) (upd H p (.lst (List.replicate k.toNat xs).flatten))
theorem len_rep {α:Type}(xs:List α) (k:Nat):(List.replicate k xs).flatten.length=k * xs.length:=by
 induction k with
 | zero=>simp
 | succ k ih=>rw [List.replicate_succ,List.flatten_cons,List.length_append,ih,Nat.succ_mul,Nat.add_comm]
theorem zw4:OpR X (binaryOp .Mult) rRep:=by
 intro pins s σ H x y v u Q I rx ry h
 obtain ⟨l,k,xs,rfl,rfl,hH,h1,h2,hz,q⟩:=h
 cases rx
 obtain ⟨t,rfl⟩:=ry
 obtain ⟨z,its,n,r,hl,e⟩:=I.lstM hH
 have hlen:its.toArray.size * k.toNat≤sizeLine:=by rw [List.size_toArray,← hl];exact hz
 have hcap:¬ its.toArray.size * k.toNat > (2 ^ 63 - 1) / 8:=by
  have:(sizeLine:Nat)≤(2 ^ 63 - 1) / 8:=by decide
  omega
 have hfit:¬ (!Builtin.List.listFitsIndex k)=true:=by
  rw [fitsIndex_both h1 h2]
  exact Bool.false_ne_true
 have hlong:¬ Builtin.List.listTooLong (its.toArray.size * k.toNat)=true:=by
  rw [zd8 hlen]
  exact Bool.false_ne_true
 have hnew:List.foldl (fun x1 x2=>x1++x2) #[] (List.replicate (if its.toArray.isEmpty=true then 0 else k.toNat) its.toArray)=(List.replicate k.toNat its).flatten.toArray:=by
  have f0:∀ m:Nat,List.foldl (fun x1 x2=>x1++x2) #[] (List.replicate m its.toArray)=(List.replicate m its).flatten.toArray:=fun m=>by
   have:=foldl_rep its m []
   rw [List.nil_append] at this
   exact this
  rw [f0]
  cases its with
  | nil=>simp
  | cons a r'=>rw [if_neg (by simp)]
 refine wpAny_binaryOp_repeat_ref (T:="list") (U:="int") (by decide) ⟨_,e,rfl⟩ (fun s'=>typeIs_int s' k t) noFill_list_mul F.fills_int_mul F.slot_int_rmul repeat_list F.slot_int_index.lookup
  (call_meets F.slot_int_rmul (typeIs_int s k t) F.entry_int_rmul (F.args_int_rmul_2 _ _) (int___rmul___int_list k t l its.toArray n)
   ⟨e,rfl,⟨_,e,rfl⟩,call_meets F.slot_list_mul ⟨_,e,rfl⟩ F.entry_list_mul (F.args_list_mul_2 _ _) (AutoListH.list___mul___list_int_3 l its.toArray n k t hfit hcap hlong) ⟨e,?_⟩⟩)
 rw [hnew]
 exact ⟨.ref _,_,I.lnew (t':=s.toks) (r.rep k.toNat) (by rw [len_rep,Nat.mul_comm];exact hz),rfl,q _ I.fresh⟩
end
section
variable {prog:Program}{w:World}{A:Around}{E:Value->Shared->Prop}{s:Shared}
end
section
variable {X:Cx}
end
end L2
namespace Att
open PySem PySem.W PySem.Calls PyProof.Rows
theorem z3j {P:Params}{h:Heap}:∀ (ns:List Int) (vs:List Value),WellAll P h vs (ns.map WData.int)->IntsAre vs ns:=by
 intro ns
 induction ns with
 | nil =>
  intro vs w
  rw [List.map_nil] at w
  cases w
  exact .nil
 | cons n ns ih =>
  intro vs w
  rw [List.map_cons] at w
  cases w with
  | cons a b =>
   cases a
   exact .cons _ _ (ih _ b)
theorem z9j {l:OpenLaw}{n:Nat}(hn:l.most=some n) {P:Params}{h:Heap}{args:List WData}{vals:List Value}
 (hpre:l.row.toRowW.claim.pre args=true) (hwl:WellAll P h vals args) :
 ∃ a vs ns,vals=[Value.ref a]/\args=[WData.list (ns.map WData.int)]/\h.get? a=some { cls:=.type "list",data:=.seq vs.toArray }/\IntsAre vs ns/\ns.length≤n:=by
 have hsh:WShape.hasAll [] args [.list .int]=true:=(pre_splitW hpre).1
 have hc:l.pre.holds [] { args:=args }=true:=(pre_splitW hpre).2
 obtain ⟨d,r,rfl,h1,h2⟩:=hasAllW_cons hsh
 obtain rfl:=hasAllW_nil h2
 obtain ⟨xs,rfl,h3⟩:=hasW_list h1
 obtain ⟨ns,rfl⟩:=items_int h3
 have hlen:ns.length≤n:=by
  unfold OpenLaw.pre at hc
  have h4:(WTm.not (.lt (.lit (.int (n:Int))) (.len (.arg 0)))).holds [] { args:=[.list (ns.map .int)] }=true:=by
   have h4:=(holds_andW hc).1
   rw [hn] at h4
   exact h4
  have h5:=condW_of h4 (w_not (w_lt w_lit (w_len_list (w_arg rfl))))
  rw [List.length_map] at h5
  refine Nat.le_of_not_lt fun q=>?_
  have q':(n:Int)<((ns.length:Nat):Int):=by omega
  first
   | (rw [decide_eq_true q'] at h5;exact absurd h5 (by decide))
   | (simp at h5;omega)
 cases hwl with
 | cons w1 w2 =>
  cases w2
  cases w1 with
  | list ho hall=>exact ⟨_,_,ns,rfl,rfl,ho,z3j ns _ hall,hlen⟩
theorem z9c (l:OpenLaw) (args:List WData):l.row.toRowW.claim.post args (.bool true) args=true :=
 postW_of (r:=l.row.toRowW) (X:=(true == true))
  (show WShape.has [] (.bool true) .bool=true by first | rfl | decide | simp [WShape.has,WShape.arms,WShape.armsAll])
  (show (WTm.eq .res (.lit (.bool true))).value [] { args:=args,res:=some (.bool true),after:=args }=some (.bool (true == true)) from w_eq_bool (w_res rfl) w_lit) rfl
theorem attach_call {l:OpenLaw}{n:Nat}{q:Program}{loose:List Str}{XP:(Str->Option Value)->Heap->Prop}{YP:World->Heap->Prop}{d:DefRec}
 (hn:l.most=some n) (hdf:d.params.defaults=[])
 (call:∀ (w:World) (s₀ s₁:Shared) (mg mb:Str->Option Value) (fa:Addr) (o:Obj) (pm cd doc:Value) (a:Addr) (vs:List Value) (ns:List Int),
  Ground q loose [] XP w s₀ mg mb s₁.heap->YP w s₁.heap ->
  s₁.heap.get? fa=some o->o.data=.func (docDef d.name d.params d.body d.scope pm cd doc)->s₁.heap.CodeRec cd d.name->mg d.name=some (.ref fa) ->
  s₁.heap.get? a=some { cls:=.type "list",data:=.seq vs.toArray }->IntsAre vs ns->ns.length≤n->s₁.gens = #[] ->
  codeAny (model l.prog w) callerA (.call (.ref fa) ⟨[.ref a],[]⟩) (fun r s'=>r=.ok (.ret (.bool true))/\OldK s₁.heap s'.heap/\s'.os=s₁.os/\AllBare s'.gens) s₁) :
 WalkO q loose XP YP l.row.toRowW d [] (fun f vs=>PySem.call f vs):=by
 intro w s₀ s₁ mg mb G Y fa o pm cd doc dV kV ho hd hcd hD hmg hg args vals as hpre hlay hrd hwl hlo
 obtain rfl:dV=.none:=Dflts.none hD hdf
 obtain rfl:kV=.none:=Dflts.noKw hD
 obtain ⟨a,vs,ns,rfl,rfl,hobj,hints,hlen⟩:=z9j hn hpre hwl
 refine enter_call (codeAny_mono (call w s₀ s₁ mg mb fa o pm cd doc a vs ns G Y ho (fd_plain hd) hcd hmg hobj hints hlen hg) fun r s' hq=>?_)
 obtain ⟨rfl,h2,h3,h4⟩:=hq
 exact ⟨.inl ⟨.bool true,.bool true,[],rfl,fun _=>rfl,.bool true,z9c l _,fun _=>⟨List.Pairwise.nil,fun _ hm=>(nomatch hm)⟩⟩,h2,h3,h4⟩
section
variable {prog:Program}{w:World}{A:Around}{E:Value->Shared->Prop}{s:Shared}{K:Frag}
end
end Att
namespace L2
open PySem PySem.Spec PyProof.Rows
theorem z2V:∀ {vs:List Value}{ns:List Int},IntsAre vs ns->Vals (ns.map V.int) vs
 | _,_,.nil=>.nil
 | _,_,.cons n t h=>.cons ⟨t,rfl⟩ (z2V h)
def Only (H:Hp):Prop:=∀ b,H b=none∨∃ o xs,H b=some (.frz o (.lst xs))
theorem z9J {P:Program}{w:World}{K:PySem.W.Frag}{mg mb:Str->Option Value}{CX:CXT}{k:Nat}{fa a:Addr}{fd:FuncData}{x:Str}{sp:Sp}{s₁:Shared}{vs:List Value}{ns:List Int}
 (KX:K.In s₁.heap) (hns:s₁.heap.Ns mainGlobals mg) (hb:s₁.heap.Ns builtinsNs mb) (hbb:∀ x:Str,x≠"__name__"->mb x=bootBuiltins x) (hlim:s₁.heap.NoLimit) (hg:s₁.gens = #[])
 (ha:s₁.heap.get? a=some { cls:=.type "list",data:=.seq vs.toArray }) (hi:IntsAre vs ns) (hl:ns.length≤sizeLine) (hr:Room k callerA)
 (F:∀ base:Heap,K.In base->base.Ns mainGlobals mg->FnOk P w K mg base CX k fa fd [x] sp) (hbind:∀ (s:Shared) (u:Value),BindsTo s fd ⟨[u],[]⟩ [(x,u)])
 (hsp:∀ H:Hp,Only H->SqL K H a (ns.map V.int)->sp [.ref a] H (fun v _=>v=.bl true) fun _ _ _=>False)
 (hCX:∀ H e s',CX [] H s₁ (fun _ _ _=>False) e s'->False) :
 codeAny (model P w) callerA (.call (.ref fa) ⟨[.ref a],[]⟩) (fun r s'=>r=.ok (.ret (.bool true))/\OldK s₁.heap s'.heap/\s'.os=s₁.os/\AllBare s'.gens) s₁:=by
 have rv:=z2V hi
 have lenV:=hi.length
 have core:∀ H:Hp,Only H->SqL K H a (ns.map V.int)->HOk P w H s₁.heap->(∀ b,H b≠none->b=a)->(H a≠none->K.lookup a=none) ->
  codeAny (model P w) callerA (.call (.ref fa) ⟨[.ref a],[]⟩) (fun r s'=>r=.ok (.ret (.bool true))/\OldK s₁.heap s'.heap/\s'.os=s₁.os/\AllBare s'.gens) s₁:=by
  intro H hO hS hok hA hK
  have base_of:∀ {b:Addr} {o:Obj},s₁.heap.get? b=some o->H b=none->(hidT s₁.heap H).get? b=some o:=fun e n=>z9t e n
  have noA:∀ {b:Addr} {o:Obj} {es:Array DictEntry} {ep:Nat},s₁.heap.get? b=some o->o.data=.dict es ep->H b=none:=fun {b o es ep} e d=>by
   cases q:H b with
   | none=>rfl
   | some u =>
    have e':b=a:=hA b (by rw [q];simp)
    subst e'
    rw [ha] at e;cases e
    have d':Data.seq vs.toArray _=Data.dict es ep:=d
    cases d'
  have nsK:∀ {b:Addr} {m:Str->Option Value},s₁.heap.Ns b m->(hidT s₁.heap H).Ns b m:=fun {b m} ⟨o,es,ep,e,d,r⟩=>⟨o,es,ep,base_of e (noA e d),d,r⟩
  have hKb:K.In (hidT s₁.heap H):=fun b o e=>base_of (KX b o e) (by
   cases q:H b with
   | none=>rfl
   | some u =>
    have e':b=a:=hA b (by rw [q];simp)
    subst e'
    rw [hK (by rw [q];simp)] at e;cases e)
  have hM:Mod K mg (hidT s₁.heap H):=⟨hKb,nsK hns,⟨mb,nsK hb,hbb⟩,let ⟨mc,h1,h2⟩:=hlim;⟨mc,nsK h1,h2⟩⟩
  have e0:Env0 P w K mg (hidT s₁.heap H) callerA [] s₁ H:=⟨rfl,hM,fun b o e=>zl2 e,Nat.le_of_eq (z8A _ _),trivial,fun b hb=>absurd (show b∈([]:List Addr) from hb) (by simp),hok,.of_eq hg⟩
  refine codeAny_mono ((F _ hKb (nsK hns)).run callerA [] s₁ H ⟨[.ref a],[]⟩ [.ref a] [.ref a] _ _ hr e0 (hbind s₁ (.ref a)) (.cons rfl .nil) (hsp H hO hS)) fun r s' h=>?_
  cases r with
  | error e=>exact (hCX H e s' h).elim
  | ok fl =>
   cases fl with
   | next=>exact False.elim h
   | brk=>exact False.elim h
   | cont=>exact False.elim h
   | ret u =>
    obtain ⟨v,H',os,bare,un,hok',r',q⟩:=h
    have q':v=.bl true:=q
    subst q'
    obtain rfl:u=Value.bool true:=r'
    refine ⟨rfl,OldK.of_keep fun b o e=>?_,os,bare⟩
    cases q:H b with
    | none=>exact un.keep b o e q (by intro z;exact absurd (show b∈([]:List Addr) from z) (by simp)) (by simp)
    | some u =>
     rcases hO b with z | ⟨ob,xs,z⟩
     ·rw [q] at z;cases z
     ·have z2:=un.frzs b ob _ z
      obtain ⟨e1,_⟩:=hok b _ z
      obtain ⟨e2,_⟩:=hok' b _ z2
      rw [e] at e1;cases e1
      exact e2
 cases hk:K.lookup a with
 | some o =>
  have e:=KX a o hk
  rw [ha] at e
  cases e
  refine core (fun _=>none) (fun _=>.inl rfl) (.inr ⟨_,vs.toArray,_,hk,rfl,rfl,rfl,by rw [List.size_toArray,lenV];exact hl,by simpa using rv⟩) (fun b u z=>by have z':(none:Option HO)=some u:=z;cases z') (fun b z=>absurd rfl z) fun z=>absurd rfl z
 | none =>
  refine core (fun b=>if b=a then some (.frz { cls:=.type "list",data:=.seq vs.toArray } (.lst (ns.map V.int))) else none) (fun b=>?_) (.inl (.inr ⟨{ cls:=.type "list",data:=.seq vs.toArray },if_pos rfl⟩)) (fun b u z=>?_) (fun b z=>?_) fun _=>hk
  ·by_cases hb:b=a
   ·exact .inr ⟨_,_,if_pos hb⟩
   ·exact .inl (if_neg hb)
  ·by_cases hb:b=a
   ·have z':=(if_pos hb).symm.trans z
    cases z'
    subst hb
    exact ⟨ha,by rw [List.length_map];exact hl,vs,_,rv,ha⟩
   ·have z':=(if_neg hb).symm.trans z
    cases z'
  ·by_cases hb:b=a
   ·exact hb
   ·exact absurd (if_neg hb) z
abbrev KOf {K:PySem.W.Frag} {h:Heap} (_:K.In h):PySem.W.Frag:=K
theorem walk_of {l:PySem.W.OpenLaw}{n k:Nat}{q:Program}{loose:List Str}{XP:(Str->Option Value)->Heap->Prop}{YP:World->Heap->Prop}{d:DefRec}{K:Params->PySem.W.Frag}{CX:World->CXT}{sp:World->Sp}{x:Str}
 (hn:l.most=some n) (hn2:n≤sizeLine) (hdf:d.params.defaults=[]) (hr:Room k callerA)
 (hY:∀ (w:World) (h:Heap),YP w h->(K w.params).In h)
 (F:∀ (w:World) (mg:Str->Option Value) (fa:Addr) (h:Heap),(K w.params).In h->h.Ns mainGlobals mg->mg d.name=some (.ref fa) ->
  ∃ fd:FuncData,(∀ (s:Shared) (u:Value),BindsTo s fd ⟨[u],[]⟩ [(x,u)]) /\
   ∀ base:Heap,(K w.params).In base->base.Ns mainGlobals mg->FnOk l.prog w (K w.params) mg base (CX w) k fa fd [x] (sp w))
 (hsp:∀ (w:World) (H:Hp) (a:Addr) (ns:List Int),ns.length≤n->Only H->SqL (K w.params) H a (ns.map V.int)->sp w [.ref a] H (fun v _=>v=.bl true) fun _ _ _=>False)
 (hCX:∀ (w:World) (H:Hp) (s:Shared) (e:Value) (s':Shared),CX w [] H s (fun _ _ _=>False) e s'->False) :
 PySem.W.WalkO q loose XP YP l.row.toRowW d [] (fun f vs=>PySem.call f vs):=by
 refine Att.attach_call hn hdf fun w s₀ s₁ mg mb fa o pm cd doc a vs ns G Y ho hd hcd hmg hobj hints hlen hg=>?_
 have KX:=hY w _ Y
 obtain ⟨fd,hb,hF⟩:=F w mg fa _ KX G.T.g hmg
 exact z9J KX G.T.g G.T.b G.T.builtins G.T.nolimit hg hobj hints (Nat.le_trans hlen hn2) hr hF hb (fun H hO hS=>hsp w H a ns hlen hO hS) fun H e s'=>hCX w H s₁ e s'
def z1O (s:Stmt):Arguments:=match s with
 | .FunctionDef _ a _ _ _ _ _ _ _ _=>a
 | _=>{ posonlyargs:=[],args:=[],vararg:=none,kwonlyargs:=[],kw_defaults:=[],kwarg:=none,defaults:=[] }
def z0h (s:Stmt):List Stmt:=match s with
 | .FunctionDef _ _ b _ _ _ _ _ _ _=>b
 | _=>[]
def j8 (s:Stmt):Scope:=match s with
 | .FunctionDef _ _ _ _ _ _ sc _ _ _=>sc
 | _=>{ kind:=.function,names:=[],isGenerator:=false,isCoroutine:=false }
abbrev CX0:CXT:=fun _ _ _ _ _ _=>False
abbrev E0:XK:=fun _ _ _=>False
theorem zL3 {X:Cx}:z9b CX0 X E0:=fun _ _ _ _ _ _ _ h=>h.elim
structure Fun (K:PySem.W.Frag) (x qual:Str) (st:Stmt) (f:Addr) (fd:FuncData):Prop where
 ex:∃ (oc:Value) (od:Option Addr) (kV doc pm:Value) (an:Option Addr) (cdv ct:Value) (osl:Array (Option Value)),
  fd=PySem.W.fnOf x qual (z1O st) (z0h st) (j8 st) .none kV doc pm an cdv ct/\K.lookup f=some ⟨oc,od,.func fd,osl⟩/\PySem.W.codeIn K cdv qual=true
 kp:PySem.W.keepIn K (.ref f)=true
section
variable {P:Program}{w:World}{K:PySem.W.Frag}{mg:Str->Option Value}{base:Heap}
theorem Fun.ok {x qual:Str}{st:Stmt}{f:Addr}{fd:FuncData}{N ps:List Str}{k:Nat}{sp:Sp}(F:Fun K x qual st f fd) (S:FnScope N ps (j8 st)) (len:∀ vs H Q E,sp vs H Q E->vs.length=ps.length)
 (hbody:∀ (cdv:Value) (A:Around) (outer:List Env) (s:Shared) (H:Hp) (vs:List V) (Q:VK) (E:XK),Room k (A.deeper (envOfC qual (j8 st) s.heap.objs.size f cdv))->sp vs H Q E ->
  ∃ t,PSs (cxOf CX0 P w K mg base N qual (j8 st) f cdv A outer s H E).nox (z0h st) t/\t { nx:=fun _ H'=>Q .non H',rt:=Q } (start N vs) H):FnOk P w K mg base CX0 (k+1) f fd ps sp:=by
 obtain ⟨oc,od,kV,doc,pm,an,cdv,ct,osl,rfl,lk,hcd⟩:=F.ex
 refine zF8 lk hcd S len fun A outer s H vs Q E hr hsp=>?_
 obtain ⟨t,h,q⟩:=hbody cdv A outer s H vs Q E hr hsp
 exact ⟨t,h.nox,q⟩
theorem Fun.binds {x qual:Str}{st:Stmt}{f:Addr}{fd:FuncData}{ps:List Str}(F:Fun K x qual st f fd)
 (h:∀ (kV doc pm:Value) (an:Option Addr) (cdv ct:Value) (us:List Value),us.length=ps.length->bindArgs (PySem.W.fnOf x qual (z1O st) (z0h st) (j8 st) .none kV doc pm an cdv ct) ⟨us,[]⟩=pure (ps.zip us)):Binds K fd ps []:=by
 obtain ⟨oc,od,kV,doc,pm,an,cdv,ct,osl,rfl,lk,hcd⟩:=F.ex
 exact .all (h kV doc pm an cdv ct)
theorem zx4 {x qual:Str}{st:Stmt}{f:Addr}{oc:Value}{od an:Option Addr}{osl:Array (Option Value)}{kV doc pm cdv ct:Value}(l:K.lookup f=some ⟨oc,od,.func (PySem.W.fnOf x qual (z1O st) (z0h st) (j8 st) .none kV doc pm an cdv ct),osl⟩)
 (c:PySem.W.codeIn K cdv qual=true) (k:PySem.W.keepIn K (.ref f)=true):Fun K x qual st f (PySem.W.fnOf x qual (z1O st) (z0h st) (j8 st) .none kV doc pm an cdv ct):=⟨⟨oc,od,kV,doc,pm,an,cdv,ct,osl,rfl,l,c⟩,k⟩
end
theorem z3s {A:Around}{k:Nat}(hr:Room k A):A.units+1<cLine:=Nat.lt_of_le_of_lt (Nat.add_le_add_left (by decide:1≤64) _) hr.units
section
variable {X:Cx}
end
abbrev z0R (ifs:List Expr) (env:Env):Sem Bool :=
 forIn ifs true fun c r=>if r=true then do { let ok ← isTrue c env (eval c env);pure (ForInStep.yield ok) } else pure (ForInStep.yield r)
theorem z8j {prog:Program}{w:World}{A:Around}{R:Result->Shared->Prop}{s:Shared}{elt target iter:Expr}
 {ifs:List Expr} {scope:Scope} {pos:Pos} {it acc:Value} {env:Env} (I:Nat->Shared->Prop)
 (turn:∀ n s,I n s->wpAny (model prog w) A (pyNext it) (fun r s1=>match r with
  | none=>R (.ok .next) s1
  | some v=>wpAny (model prog w) A (letOwnedTupleGo target it v) (fun _ s2 =>
   wpAny (model prog w) A (assign target env v) (fun _ s3 =>
    wpAny (model prog w) A (z0R ifs env) (fun ok s4 =>
     if ok=true then wpAny (model prog w) A (eval elt env) (fun x s5 =>
      wpAny (model prog w) A (call (.builtin "list.append") [acc,x]) (fun _ s6=>∃ m,m<n/\I m s6)
       (notedBy (model prog w) A env fun e s'=>R (.error e) s') s5)
       (notedBy (model prog w) A env fun e s'=>R (.error e) s') s4
     else ∃ m,m<n/\I m s4)
     (notedBy (model prog w) A env fun e s'=>R (.error e) s') s3)
    (notedBy (model prog w) A env fun e s'=>R (.error e) s') s2)
   (notedBy (model prog w) A env fun e s'=>R (.error e) s') s1)
  (notedBy (model prog w) A env fun e s'=>R (.error e) s') s)
 (n:Nat) (h:I n s) :
 codeAny (model prog w) A (.compLoop (.ListComp elt [⟨target,iter,ifs,0⟩] scope pos) 0 it acc env) R s:=by
 refine codeAny_loop rfl I (fun n s hI=>?_) n h
 show wpAny _ A ((compTurn (.ListComp elt [⟨target,iter,ifs,0⟩] scope pos) 0 it acc env).onRaise
  (fun x=>do noteFrame x env;theTreesLotGoes x)) _ _ s
 refine wpAny_noted ?_
 rw [compTurn_list]
 refine wpAny_bind (wpAny_standAt (wpAny_bind (wpAny_mono (turn n s hI) (fun r s1 h1=>?_) fun _ _ z=>z)))
 cases r with
 | none=>exact wpAny_pure h1
 | some v =>
  refine wpAny_bind (wpAny_mono h1 (fun _ s2 h2=>?_) fun _ _ z=>z)
  refine wpAny_bind (wpAny_mono h2 (fun _ s3 h3=>wpAny_bind (wpAny_mono h3 (fun ok s4 h4=>?_) fun _ _ z=>z)) fun _ _ z=>z)
  cases ok with
  | false=>exact wpAny_pure ⟨rfl,h4⟩
  | true =>
   refine wpAny_bind (wpAny_bind (wpAny_mono h4 (fun x s5 h5=>wpAny_bind (wpAny_mono h5 (fun _ s6 h6=>?_) fun _ _ z=>z)) fun _ _ z=>z))
   exact wpAny_pure (wpAny_pure ⟨rfl,h6⟩)
def y4 (env:Env):List (Str×NameKind)->List (Str×Addr)->List (Str×Addr)
 | [],acc=>acc
 | (n,k) :: r,acc=>y4 env r (if k == .free then match env.cells.lookup n with | some c=>(n,c) :: acc | none=>acc else acc)
theorem z2s {env:Env}:∀ (names:List (Str×NameKind)) (acc:List (Str×Addr)),(∀ x∈names,x.2=.free->∃ c,env.cells.lookup x.1=some c) ->
 (forIn names acc fun (x:Str×NameKind) (r:List (Str×Addr))=>(if (x.2 == NameKind.free)=true then do { let c ← cellOf env x.1;pure (ForInStep.yield ((x.1,c) :: r)) } else pure (ForInStep.yield r):Sem (ForInStep (List (Str×Addr)))))=(pure (y4 env names acc):Sem _)
 | [],acc,_=>by rw [List.forIn_nil];rfl
 | (n,k) :: r,acc,h=>by
  rw [List.forIn_cons]
  have hr:∀ x∈r,x.2=.free->∃ c,env.cells.lookup x.1=some c:=fun x hx=>h x (List.mem_cons_of_mem _ hx)
  by_cases hk:k=.free
  ·subst hk
   obtain ⟨c,hc⟩:=h (n,.free) List.mem_cons_self rfl
   have hc':env.cells.lookup n=some c:=hc
   simp only [y4,beq_self_eq_true,if_true,cellOf,hc',pure_bind]
   exact z2s r _ hr
  ·have hb:(k == NameKind.free)=false:=by simpa using hk
   simp only [y4,hb,Bool.false_eq_true,if_false,pure_bind]
   exact z2s r _ hr
theorem z03 {scope:Scope}{env:Env}(h:∀ x∈scope.names,x.2=.free->∃ c,env.cells.lookup x.1=some c) :
 closureFor scope env=pure (y4 env scope.names []):=by
 unfold closureFor
 exact congrArg (fun m:Sem (List (Str×Addr))=>m >>= fun z=>pure z) (z2s scope.names [] h)
theorem z5Z {env:Env}:∀ (names:List (Str×NameKind)) (acc:List (Str×Addr)) {x:Str}{c:Addr},(y4 env names acc).lookup x=some c ->
 env.cells.lookup x=some c∨acc.lookup x=some c
 | [],acc,x,c,h=>.inr h
 | (n,k) :: r,acc,x,c,h=>by
  rcases z5Z r _ h with q | q
  ·exact .inl q
  ·by_cases hk:(k == NameKind.free)=true
   ·rw [if_pos hk] at q
    cases e:env.cells.lookup n with
    | none=>rw [e] at q;exact .inr q
    | some c' =>
     rw [e] at q
     simp only [List.lookup_cons] at q
     cases hx:x == n with
     | true =>
      rw [hx] at q
      cases q
      have:x=n:=by simpa using hx
      subst this
      exact .inl e
     | false=>rw [hx] at q;exact .inr q
   ·rw [if_neg hk] at q
    exact .inr q
theorem z6c {env:Env}{x:Str}{c:Addr}(hc:env.cells.lookup x=some c):∀ (names:List (Str×NameKind)) (acc:List (Str×Addr)),
 acc.lookup x=some c->(y4 env names acc).lookup x=some c
 | [],acc,h=>h
 | (n,k) :: r,acc,h=>by
  refine z6c hc r _ ?_
  by_cases hk:(k == NameKind.free)=true
  ·rw [if_pos hk]
   cases e:env.cells.lookup n with
   | none=>exact h
   | some c' =>
    simp only [List.lookup_cons]
    cases hx:x == n with
    | true =>
     have:x=n:=by simpa using hx
     subst this
     rw [hc] at e
     exact e.symm
    | false=>exact h
  ·rw [if_neg hk];exact h
theorem z5E {env:Env}{x:Str}{c:Addr}(hc:env.cells.lookup x=some c):∀ (names:List (Str×NameKind)) (acc:List (Str×Addr)),
 (x,NameKind.free)∈names->(y4 env names acc).lookup x=some c
 | [],_,h=>absurd h (by simp)
 | (n,k) :: r,acc,h=>by
  rcases List.mem_cons.mp h with e | h
  ·cases e
   refine z6c hc r _ ?_
   rw [if_pos (by simp),hc]
   simp [List.lookup_cons]
  ·exact z5E hc r _ h
theorem z1A {sc:Scope}{env:Env}{x:Str}{k:NameKind}(h:(relabel sc env).names.lookup x=some k) :
 ∃ k0,sc.names.lookup x=some k0/\(k=k0∨(k=.cell/\k0=.free)):=by
 unfold relabel at h
 dsimp only at h
 generalize sc.names=ns at h ⊢
 induction ns with
 | nil=>simp at h
 | cons a r ih =>
  obtain ⟨n,k1⟩:=a
  simp only [List.map_cons] at h
  by_cases hc:(k1 == NameKind.free && env.scope.kind == .function && env.kindOf n == some .cell)=true
  ·rw [if_pos hc] at h
   simp only [List.lookup_cons] at h ⊢
   cases hx:x == n with
   | true =>
    rw [hx] at h
    cases h
    refine ⟨k1,rfl,.inr ⟨rfl,?_⟩⟩
    simp only [Bool.and_eq_true] at hc
    simpa using hc.1.1
   | false=>rw [hx] at h;exact ih h
  ·rw [if_neg hc] at h
   simp only [List.lookup_cons] at h ⊢
   cases hx:x == n with
   | true=>rw [hx] at h;cases h;exact ⟨_,rfl,.inl rfl⟩
   | false=>rw [hx] at h;exact ih h
theorem z5p {sc:Scope}{env:Env}{x:Str}(h:sc.names.lookup x=some .free) :
 (relabel sc env).names.lookup x=some .cell∨(relabel sc env).names.lookup x=some .free:=by
 unfold relabel
 dsimp only
 generalize sc.names=ns at h ⊢
 induction ns with
 | nil=>simp at h
 | cons a r ih =>
  obtain ⟨n,k1⟩:=a
  simp only [List.map_cons]
  simp only [List.lookup_cons] at h
  by_cases hc:(k1 == NameKind.free && env.scope.kind == .function && env.kindOf n == some .cell)=true
  ·rw [if_pos hc]
   simp only [List.lookup_cons]
   cases hx:x == n with
   | true=>exact .inl rfl
   | false=>rw [hx] at h;exact ih h
  ·rw [if_neg hc]
   simp only [List.lookup_cons]
   cases hx:x == n with
   | true=>rw [hx] at h;exact .inr h
   | false=>rw [hx] at h;exact ih h
structure CS (X:Cx) (sc:Scope) (N':List Str) (cap:List (Option Nat)):Prop where
 kind:sc.kind=.function
 nocell:∀ y∈sc.names,y.2≠.cell
 loc:∀ x∈sc.names,x.2=.local->sc.names.lookup x.1=some .local
 fr:∀ x∈sc.names,x.2=.free->X.env.kindOf x.1=some .cell∨X.env.kindOf x.1=some .free
 len:cap.length=N'.length
 capt:∀ (i j:Nat),cap[i]?=some (some j)->∃ x,N'[i]?=some x/\X.N[j]?=some x/\sc.names.lookup x=some .free
def Y1 (cap:List (Option Nat)) (σ:St):St:=cap.map fun o=>match o with | some j=>(σ[j]?).join | none=>none
def Cx.comp (X:Cx) (N':List Str) (sc:Scope) (s:Shared) (H:Hp) (fp:List Addr) (xe:Value->Shared->Prop):Cx :=
 { X with N:=N',s₀:=s,H₀:=H,env:=compEnvC sc (y4 X.env sc.names []) s.heap.objs.size X.env,outer:=X.stack,stack:=X.stack,ex:=fp,fn:=fun _=>false,pn:=[],xe:=xe }
section
variable {X:Cx}{pins:List (Addr×Obj)}{σ:St}{H:Hp}{s:Shared}{sc:Scope}{N':List Str}{cap:List (Option Nat)}{fp:List Addr}{xe:Value->Shared->Prop}{h':Heap}
theorem CS.cells (S:CS X sc N' cap) (I:Inv X pins σ H s):∀ x∈sc.names,x.2=.free->∃ c,X.env.cells.lookup x.1=some c:=fun x hx hf =>
 I.ok.has x.1 (S.fr x hx hf)
theorem Inv.compIn {t:Nat}(I:Inv X pins σ H s) (S:CS X sc N' cap) (hf:∀ b∈fp,FpOk X pins H b) (hlt:∀ b∈fp,b<s.heap.objs.size)
 (hns:h'.Ns s.heap.objs.size fun _=>none) (hk:∀ b o,s.heap.get? b=some o->h'.get? b=some o) :
 Inv (X.comp N' sc s H fp xe) [] (Y1 cap σ) H { s with heap:=h',toks:=t }:=by
 have hfrom:∀ {x c},(y4 X.env sc.names []).lookup x=some c->X.env.cells.lookup x=some c:=fun {x c} q=>by
  rcases z5Z _ _ q with z | z
  ·exact z
  ·simp at z
 have hlook:∀ {x},((relabel sc X.env).names.lookup x=some .cell∨(relabel sc X.env).names.lookup x=some .free)->sc.names.lookup x=some .free:=fun {x} q=>by
  rcases q with q | q
  ·obtain ⟨k0,e,z⟩:=z1A q
   rcases z with z | z
   ·subst z;exact absurd rfl (S.nocell _ (PySem.mem_of_lookup e))
   ·rw [e,z.2]
  ·obtain ⟨k0,e,z⟩:=z1A q
   rcases z with z | z
   ·rw [e,z]
   ·cases z.1
 refine ⟨⟨I.ok.mod,?_,I.ok.glob,I.ok.blt,Nat.le_refl _,fun x y c h1 h2=>I.ok.inj x y c (hfrom h1) (hfrom h2),fun x hx=>?_,fun x c q=>absurd (show false=true from q) (by decide),I.ok.hd,I.ok.frames,.inl rfl,fun b hb=>⟨?_,fun x c q=>?_⟩,
  I.bs,Nat.le_trans I.ok.bsz I.sz,fun b o e hb=>?_,fun b hb hz=>?_,I.stack,I.stkFree⟩,
  rfl,I.bare,Un.kept hk,⟨_,hns,fun i x v h1 h2 h3=>?_⟩,fun x c q=>?_,I.hok.fresh (Nat.le_refl _),fun x c q=>I.freeC x c (hfrom q),fun p hp=>absurd (show p∈([]:List (Addr×Obj)) from hp) (by simp),I.hok.kept hk,?_⟩
 ·exact S.kind
 ·have e:=hlook hx
  have e2:=PySem.mem_of_lookup e
  obtain ⟨c,hc⟩:=I.ok.has x (S.fr _ e2 rfl)
  exact ⟨c,z5E hc _ _ e2⟩
 ·exact Nat.ne_of_lt (hlt b hb)
 ·exact (hf b hb).2.2.2.2.1 x c (hfrom q)
 ·rcases (hf b hb).2.2.2.1 with z | z
  ·exact I.ok.noex b o e z
  ·exact absurd (Nat.lt_of_lt_of_le (Heap.lt_size e) (Nat.le_trans I.ok.bsz z)) (Nat.lt_irrefl _)
 ·rcases List.mem_cons.mp (I.stkSub b hz) with z | z
  ·exact (hf b hb).2.1 z
  ·exact (hf b hb).2.2.1 z
 ·have h2':(cap.map fun o=>match o with | some j=>(σ[j]?).join | none=>none)[i]?=some (some v):=h2
  rw [List.getElem?_map] at h2'
  cases e:cap[i]? with
  | none=>rw [e] at h2';cases h2'
  | some o =>
   rw [e] at h2'
   cases o with
   | none=>simp at h2'
   | some j =>
    have hj:σ[j]?=some (some v):=by
     have h4:(σ[j]?).join=some v:=by simpa using h2'
     cases e2:σ[j]? with
     | none=>rw [e2] at h4;simp at h4
     | some o2=>rw [e2] at h4;simp at h4;rw [h4]
    obtain ⟨y,n1,n2,n3⟩:=S.capt i j e
    have ey:y=x:=by
     have h1':N'[i]?=some x:=h1
     rw [n1] at h1';exact Option.some.inj h1'
    subst ey
    have hm:=PySem.mem_of_lookup n3
    have hkind:=S.fr _ hm rfl
    obtain ⟨m,hn,hl⟩:=I.loc
    have vis:Vis X.env.scope y:=by
     rcases hkind with z | z
     ·exact .inr (.inl z)
     ·exact .inr (.inr z)
    obtain ⟨u,r,l⟩:=hl j y v n2 hj vis
    refine ⟨u,r,.inr ?_⟩
    rcases l with ⟨z,_⟩ | ⟨_,c,hc,hcell⟩
    ·have z':X.env.kindOf y=some .local:=z
     rcases hkind with q | q<;>(have q':X.env.kindOf y=_:=q;rw [z'] at q';cases q')
    ·obtain ⟨o,ho,hd⟩:=hcell
     exact ⟨z5p n3,c,z5E hc _ _ hm,o,hk c o ho,hd⟩
 ·obtain ⟨v,o,ho,hd⟩:=I.cell x c (hfrom q)
  exact ⟨v,o,hk c o ho,hd⟩
 ·show (cap.map _).length=N'.length
  rw [List.length_map];exact S.len
theorem Inv.compOut {pins':List (Addr×Obj)}{σ':St}{H':Hp}{s':Shared}(I:Inv X pins σ H s) (hf:∀ b∈fp,FpOk X pins H b)
 (J:Inv (X.comp N' sc s H fp xe) pins' σ' H' s') (hs:Heap.SameBut s.heap.objs.size s'.heap h'):Inv X pins σ H' { s' with heap:=h' }:=by
 have hu:Un (frs X.stack) fp H H' s.heap s'.heap:=J.base
 have hC:H' s.heap.objs.size=none:=J.free
 have lt:∀ {b:Addr} {o:Obj},s.heap.get? b=some o->b≠s.heap.objs.size:=fun e=>Nat.ne_of_lt (Heap.lt_size e)
 refine I.call' (s':={ s' with heap:=h' }) (ch:=fp) J.os ⟨fun b o e n h1 h2=>?_,fun b o e n h1 h2=>?_,hu.free,fun b o e h1=>?_,hu.tups,hu.frzs,hu.tbls⟩ (fun b u e=>?_) J.bare (fun b hb=>⟨(hf b hb).2.2.2.1,(hf b hb).2.1,(hf b hb).2.2.2.2.1,(hf b hb).2.2.2.2.2⟩)
 ·exact (hs.2 b (lt e)).trans (hu.keep b o e n h1 h2)
 ·obtain ⟨sl,q⟩:=hu.slot b o e n h1 h2
  exact ⟨sl,(hs.2 b (lt e)).trans q⟩
 ·obtain ⟨o',q⟩:=hu.there b o e h1
  exact ⟨o',(hs.2 b (lt e)).trans q⟩
 ·refine (J.hok b u e).stay (fun c v hc q=>?_) (fun _ q=>q) fun _ _ q=>q
  have ne:c≠s.heap.objs.size:=by
   rintro rfl
   rcases hc with z | z
   ·rw [← z,hC] at e;cases e
   ·rw [hC] at z;cases z
  exact (hs.2 c ne).trans q
end
def PTs (X:Cx) (ifs:List Expr) (t:TT):Prop :=
 ∀ (pins:List (Addr×Obj)) (s:Shared) (σ:St) (H:Hp) (Q:Bool->Hp->Prop),Inv X pins σ H s->t σ H Q->wpAny (model X.prog X.w) X.A (z0R ifs X.env) (TP X pins σ Q) X.xe s
def zr5:TT:=fun _ H Q=>Q true H
def zw0 (t r:TT):TT:=fun σ H Q=>t σ H fun b H1=>if b=true then r σ H1 Q else Q false H1
theorem z54 {X:Cx}{E:Value->Shared->Prop}{Q:Bool->Shared->Prop}:∀ {ifs:List Expr}{s:Shared},Q false s ->
 wpAny (model X.prog X.w) X.A (forIn ifs false fun c r=>if r=true then do { let ok ← isTrue c X.env (eval c X.env);pure (ForInStep.yield ok) } else pure (ForInStep.yield r)) Q E s
 | [],s,h=>by rw [List.forIn_nil];exact wpAny_pure h
 | c :: r,s,h=>by
  rw [List.forIn_cons]
  refine wpAny_bind ?_
  rw [if_neg (by decide)]
  exact wpAny_pure (z54 h)
theorem z8V {X:Cx}:PTs X [] zr5:=fun pins s σ H Q I h=>by
 unfold z0R
 rw [List.forIn_nil]
 exact wpAny_pure ⟨H,I,h⟩
theorem z9E {X:Cx}{c:Expr}{r:List Expr}{t u:TT}(h1:PT X c t) (h2:PTs X r u):PTs X (c :: r) (zw0 t u):=fun pins s σ H Q I h=>by
 unfold z0R
 rw [List.forIn_cons]
 refine wpAny_bind ?_
 rw [if_pos rfl]
 refine wpAny_bind (thn (h1 pins s σ H _ I h) fun b s1 ⟨H1,I1,q1⟩=>wpAny_pure ?_)
 cases b with
 | true=>exact h2 pins s1 σ H1 Q I1 (by simpa using q1)
 | false=>exact z54 ⟨H1,I1,by simpa using q1⟩
def z4b (cap:List (Option Nat)) (g:TG) (ti:TT) (te:TE) (σ:St) (J:It) (D:Addr) (Q:Hp->Prop) (H:Hp):Prop :=
 ∃ W:Nat->Nat->Hp->Prop,(∃ m,W 0 m H)/\∀ i m H,W i m H ->
  (J.stop i H/\Q H)∨(J.go i H/\∀ x H1,J.yld i H x H1->g x (Y1 cap σ) H1 fun σ2 H2=>(∀ (j:Nat) v,(Y1 cap σ)[j]?=some (some v)->σ2[j]?=some (some v)) /\
   ti σ2 H2 fun ok H3=>if ok=true then te σ2 H3 fun v H4=>∃ acc,H4 D=some (.lst acc)/\acc.length<sizeLine/\∃ m',m'<m/\W (i+1) m' (upd H4 D (.lst (acc++[v])))
    else ∃ m',m'<m/\W (i+1) m' H3)
section
variable {X:Cx}{elt tg iter:Expr}{ifs:List Expr}{sc:Scope}{pos:Pos}{N':List Str}{cap:List (Option Nat)}{g:TG}{ti:TT}{te:TE}
theorem z4B {pins:List (Addr×Obj)}{σ:St}{H2:Hp}{s2:Shared}{it:Addr}{fp:List Addr}{tn:Nat->Heap->Prop}{J:It}{E:Value->Shared->Prop}{RR:Value->Addr->Result->Shared->Prop}{Q:Addr->Hp->Prop}
 (hc:X.calm=true) (S:CS X sc N' cap) (hg:∀ s H fp xe,PG (X.comp N' sc s H fp xe) tg g) (ht:∀ s H fp xe,PTs (X.comp N' sc s H fp xe) ifs ti) (he:∀ s H fp xe,PE (X.comp N' sc s H fp xe) elt te)
 (I2:Inv X pins σ H2 s2) (T:Turn X.prog X.w X.K tg J fp it tn) (st2:tn 0 s2.heap) (f2:∀ b∈fp,FpOk X pins H2 b)
 (hq:∀ D,H2 D=none->z4b cap g ti te σ J D (Q D) (upd H2 D (.lst [])))
 (hRR:∀ (D:Addr) (s3:Shared) (H3:Hp) (xe:Value->Shared->Prop) (H':Hp) (pins':List (Addr×Obj)) (σ':St) (s':Shared),Inv X pins σ H3 s3->(∀ b∈fp,FpOk X pins H3 b)->Inv (X.comp N' sc s3 H3 fp xe) pins' σ' H' s'->Q D H'->RR (.ref D) s3.heap.objs.size (.ok .next) s') :
 wpAny (model X.prog X.w) X.A (newList []) (fun acc s3=>wpAny (model X.prog X.w) X.A (newFunctionEnv sc X.env.globals (y4 X.env sc.names []) [] X.env.qual none .none (some X.env)) (fun cenv s4 =>
  codeAny (model X.prog X.w) X.A (.compStart (.ListComp elt [⟨tg,iter,ifs,0⟩] sc pos) 0 (.ref it) acc { cenv with scope:=relabel sc X.env }) (RR acc cenv.locals) s4) E s3) E s2:=by
 refine wpAny_newObj_type ?_
 have I3:=I2.lnew (ys:=[]) (its:=[]) (t':=s2.toks) .nil (Nat.zero_le _)
 have hfr:H2 s2.heap.objs.size=none:=I2.fresh
 have lt2:∀ b∈fp,b<s2.heap.objs.size:=fun b hb=>by
  obtain ⟨o,e,_⟩:=T.obj _ _ st2 b hb
  exact Heap.lt_size e
 generalize hD:s2.heap.objs.size=D at I3 hfr lt2 ⊢
 have r0:=hq D hfr
 generalize hs3:({ s2 with heap:=s2.heap.push { cls:=.type "list",data:=.seq ([]:List Value).toArray },toks:=s2.toks }:Shared)=s3 at I3
 have f3:∀ b∈fp,FpOk X pins (upd H2 D (.lst [])) b:=fun b hb=>⟨by rw [y6 (Nat.ne_of_lt (lt2 b hb))];exact (f2 b hb).1,(f2 b hb).2⟩
 have kp3:∀ b o,s2.heap.get? b=some o->s3.heap.get? b=some o:=fun b o e=>by rw [← hs3];exact Heap.get?_push_of_some _ e
 have st3:tn 0 s3.heap:=T.keep _ _ _ st2 fun b hb o e=>kp3 b o e
 have lt3:∀ b∈fp,b<s3.heap.objs.size:=fun b hb=>by
  obtain ⟨o,e,_⟩:=T.obj _ _ st3 b hb
  exact Heap.lt_size e
 generalize upd H2 D (.lst [])=H3 at I3 r0 f3
 refine wpAny_newFunctionEnv S.nocell (fun x hx=>absurd hx (by simp)) (fun h1 hns hsb=>?_) S.kind
 have kp4:∀ b o,s3.heap.get? b=some o->h1.get? b=some o:=fun b o e=>by
  rw [hsb.2 b (Nat.ne_of_lt (Heap.lt_size e))]
  exact Heap.get?_push_of_some _ e
 have hns':h1.Ns s3.heap.objs.size fun _=>none:=hns
 have st4:tn 0 h1:=T.keep _ _ _ st3 fun b hb o e=>kp4 b o e
 have frees:∀ b∈fp,H3 b=none:=fun b hb=>(f3 b hb).1
 have loop:codeAny (model X.prog X.w) X.A (.compLoop (.ListComp elt [⟨tg,iter,ifs,0⟩] sc pos) 0 (.ref it) (.ref D) (compEnvC sc (y4 X.env sc.names []) s3.heap.objs.size X.env))
  (RR (.ref D) s3.heap.objs.size) { s3 with heap:=h1,toks:=s3.toks+([]:List (Str×Value)).length }:=by
  let xe:Value->Shared->Prop:=notedBy (model X.prog X.w) X.A (compEnvC sc (y4 X.env sc.names []) s3.heap.objs.size X.env) fun e s'=>RR (.ref D) s3.heap.objs.size (.error e) s'
  have I4:Inv (X.comp N' sc s3 H3 fp xe) [] (Y1 cap σ) H3 { s3 with heap:=h1,toks:=s3.toks+([]:List (Str×Value)).length }:=I3.compIn S f3 lt3 hns' kp4
  have stat:∀ {H':Hp},(∀ b∈fp,H' b=none)->∀ b∈fp,FpOk (X.comp N' sc s3 H3 fp xe) [] H' b:=fun hn b hb=>by
   obtain ⟨q1,q2⟩:=I4.ok.exf b hb
   exact ⟨hn b hb,q1,I4.ok.exfs b hb,.inl hb,q2,fun p hp=>absurd (show p∈([]:List (Addr×Obj)) from hp) (by simp)⟩
  obtain ⟨W,⟨m0,w0⟩,turn⟩:=r0
  refine z8j (fun n s'=>∃ i H',Inv (X.comp N' sc s3 H3 fp xe) [] (Y1 cap σ) H' s'/\tn i s'.heap/\(∀ b∈fp,H' b=none)/\W i n H') ?_ m0 ⟨0,H3,I4,st4,frees,w0⟩
  rintro n s5 ⟨i,H5,I5,st5,fr5,w5⟩
  rcases turn i n H5 w5 with ⟨stop,qn⟩ | ⟨go,step⟩
  ·refine thn (T.done (X.comp N' sc s3 H3 fp xe) rfl rfl rfl hc i [] s5 _ H5 xe I5 (stat fr5) st5 stop) fun r s6 ⟨hr,I6⟩=>?_
   subst hr
   exact hRR D s3 H3 xe H5 [] _ s6 I3 f3 I6 qn
  ·refine thn (T.item (X.comp N' sc s3 H3 fp xe) rfl rfl rfl hc i [] s5 _ H5 xe I5 (stat fr5) st5 go) fun r s6 ⟨u,hr,h6⟩=>?_
   subst hr
   refine thn h6 fun _ s7 ⟨x,H7,I7,r7,y7,st7,fr7⟩=>?_
   have I7':=I7.pinned (stat fr7) (T.obj _ _ st7)
   refine thn (hg s3 H3 fp xe _ s7 _ H7 x u _ I7' r7 (step x H7 y7)) fun _ s8 ⟨σ8,H8,I8,k8,q8⟩=>?_
   refine thn (ht s3 H3 fp xe _ s8 σ8 H8 _ I8 q8) fun ok s9 ⟨H9,I9,q9⟩=>?_
   have again:∀ {σa:St} {Ha:Hp} {sa:Shared},Inv (X.comp N' sc s3 H3 fp xe) ([]++z1G fp s7.heap) σa Ha sa->(∀ (j:Nat) v,(Y1 cap σ)[j]?=some (some v)->σa[j]?=some (some v)) ->
    Inv (X.comp N' sc s3 H3 fp xe) [] (Y1 cap σ) Ha sa/\tn (i+1) sa.heap/\∀ b∈fp,Ha b=none:=fun {σa Ha sa} Ia ka=>by
    refine ⟨Ia.unpinned.weak (I5.len.trans Ia.len.symm) ka,T.keep _ _ _ st7 fun b hb o e=>(Ia.pin (b,o) (List.mem_append_right _ (List.mem_append_right _ (k9 hb e)))).1,fun b hb=>?_⟩
    obtain ⟨o,e,d⟩:=T.obj _ _ st7 b hb
    exact (Ia.pin (b,o) (List.mem_append_right _ (List.mem_append_right _ (k9 hb e)))).2.1
   cases ok with
   | false =>
    have q9':∃ m',m'<n/\W (i+1) m' H9:=by simpa using q9
    obtain ⟨m',hm,w9⟩:=q9'
    obtain ⟨a1,a2,a3⟩:=again I9 k8
    exact ⟨m',hm,i+1,H9,a1,a2,a3,w9⟩
   | true =>
    rw [if_pos rfl] at q9
    refine thn (he s3 H3 fp xe _ s9 σ8 H9 _ I9 q9) fun v sa ⟨y,Ha,Ia,ra,acc,ea,za,m',hm,wa⟩=>?_
    refine thn (z3k (X:=X.comp N' sc s3 H3 fp xe) _ sa σ8 Ha (.ref D) [y] (.ref D) [v] (fun _ H'=>H'=upd Ha D (.lst (acc++[y]))) Ia rfl (.cons ra .nil) ⟨D,acc,y,rfl,rfl,ea,za,rfl⟩) fun _ sb ⟨_,Hb,Ib,_,eb⟩=>?_
    subst eb
    obtain ⟨a1,a2,a3⟩:=again Ib k8
    exact ⟨m',hm,i+1,_,a1,a2,a3,wa⟩
 exact codeAny_compStart_list loop (T.self _ 0 _ _ _ st4 loop)
def zJ7 (cap:List (Option Nat)) (wi:TI) (g:TG) (ti:TT) (te:TE):TE:=fun σ H Q=>wi σ H fun J H1=>∀ D,H1 D=none->z4b cap g ti te σ J D (fun H'=>Q (.ref D) H') (upd H1 D (.lst []))
theorem zl6 {wi:TI}(hc:X.calm=true) (S:CS X sc N' cap) (hi:PI X tg iter wi) (hg:∀ s H fp xe,PG (X.comp N' sc s H fp xe) tg g) (ht:∀ s H fp xe,PTs (X.comp N' sc s H fp xe) ifs ti)
 (he:∀ s H fp xe,PE (X.comp N' sc s H fp xe) elt te) (hs:∀ x,foldedSetIterable iter X.env x=pure x:=by intro _;rfl):PE X (.ListComp elt [⟨tg,iter,ifs,0⟩] sc pos) (zJ7 cap wi g ti te):=by
 intro pins s σ H Q I h
 rw [eval_ListComp]
 refine wpAny_comprehension_free (use:=none) rfl hs (z03 (S.cells I)) S.kind S.loc (thn (hi pins s σ H _ I h) fun v s1 h1=>thn h1 fun itv s2 h2=>?_)
 obtain ⟨it,fp,tn,J,H2,e,I2,T,st2,f2,rq⟩:=h2
 subst e
 refine z4B (RR:=fun acc C=>compPost (model X.prog X.w) X.A X.xe none (EP X pins σ Q) acc C) (Q:=fun D H'=>Q (.ref D) H') hc S hg ht he I2 T st2 f2 rq ?_
 intro D s3 H3 xe H' pins' σ' s' I3 f3 J3 q
 obtain ⟨m,hn,_⟩:=id J3.loc
 exact ⟨m,hn,fun h' hs=>⟨.ref D,H',I3.compOut f3 J3 hs,rfl,q⟩⟩
def zK7 (cap:List (Option Nat)) (wi:TI) (g:TG) (ti:TT) (te:TE) (i:Nat):TS:=fun D σ H=>wi σ H fun J H1=>∀ d,H1 d=none->z4b cap g ti te σ J d (fun H'=>D.nx (σ.set i (some (.ref d))) H') (upd H1 d (.lst []))
theorem zi9 {wi:TI}{y:Str}{py spos:Pos}{i:Nat}(hc:X.calm=true) (S:CS X sc N' cap) (hi:PI X tg iter wi) (hg:∀ s H fp xe,PG (X.comp N' sc s H fp xe) tg g) (ht:∀ s H fp xe,PTs (X.comp N' sc s H fp xe) ifs ti)
 (he:∀ s H fp xe,PE (X.comp N' sc s H fp xe) elt te) (hN:X.N.Nodup) (hy:X.N[i]?=some y) (hl:X.env.scope.names.lookup y=some .local)
 (hsw:swapsWith (.ListComp elt [⟨tg,iter,ifs,0⟩] sc pos) (some (.Name y py)) spos.line X.env=pure true:=by rfl) (hs:∀ x,foldedSetIterable iter X.env x=pure x:=by intro _;rfl) :
 PS X (.Assign [.Name y py] (.ListComp elt [⟨tg,iter,ifs,0⟩] sc pos) spos) (zK7 cap wi g ti te i):=by
 intro pins s σ H D I h
 rw [exec_Assign_Name_used _ _ _ _ hsw]
 refine wpAny_bind (wpAny_standAt (wpAny_bind ?_))
 show wpAny _ X.A (do let _ ← comprehension (.ListComp elt [⟨tg,iter,ifs,0⟩] sc pos) sc X.env _ (newList []) false (eval iter X.env) (some (assign (.Name y py) X.env))) _ _ s
 refine wpAny_bind (wpAny_mono (wpAny_comprehension_free (use:=some (assign (.Name y py) X.env)) (Q:=fun _ s'=>SP X pins D .next s') rfl hs (z03 (S.cells I)) S.kind S.loc
  (thn (hi pins s σ H _ I h) fun v s1 h1=>thn h1 fun itv s2 h2=>?_)) (fun _ s' hq=>wpAny_pure (wpAny_pure hq)) fun _ _ z=>z)
 obtain ⟨it,fp,tn,J,H2,e,I2,T,st2,f2,rq⟩:=h2
 subst e
 refine z4B (RR:=fun acc C=>compPost (model X.prog X.w) X.A X.xe (some (assign (.Name y py) X.env)) (fun _ s'=>SP X pins D .next s') acc C) (Q:=fun d H'=>D.nx (σ.set i (some (.ref d))) H') hc S hg ht he I2 T st2 f2 rq ?_
 intro d s3 H3 xe H' pins' σ' s' I3 f3 J3 q
 obtain ⟨m,hn,_⟩:=id J3.loc
 have Is:Inv X pins σ H' s':=I3.compOut (h':=s'.heap) f3 J3 (Heap.SameBut.refl _ _)
 obtain ⟨oC,es,ep,hoC,hdC,hrC⟩:=id hn
 have hC:H' s3.heap.objs.size=none:=J3.free
 have neL:s3.heap.objs.size≠X.env.locals:=Nat.ne_of_gt I3.lt
 have nfs:s3.heap.objs.size∉X.fs:=I3.nofs (Nat.le_refl _)
 have Ip:Inv X (pins++[(s3.heap.objs.size,oC)]) σ H' s':=Is.pins_of fun p hp=>by
  rcases List.mem_append.mp hp with z | z
  ·exact Is.pin p (List.mem_append_right _ z)
  ·obtain rfl:p=(s3.heap.objs.size,oC):=by simpa using z
   exact ⟨hoC,hC,neL,nfs,fun v hv=>by have hdC':oC.data=_:=hdC;rw [hdC'] at hv;cases hv⟩
 show wpAny _ X.A (assign (.Name y py) X.env (.ref d)) _ _ s'
 refine thn (z3q (X:=X) (i:=i) hN hy (.inl hl) (.inr hl) _ s' σ H' (.ref d) (.ref d) (fun σ2 H2=>D.nx σ2 H2) Ip rfl q) fun _ s4 ⟨σ4,H4,I4,q4⟩=>?_
 have pn:=I4.pin (s3.heap.objs.size,oC) (List.mem_append_right _ (List.mem_append_right _ (by simp)))
 refine ⟨m,⟨oC,es,ep,pn.1,hdC,hrC⟩,fun h' hs=>⟨σ4,H4,?_,q4⟩⟩
 have I4u:Inv X pins σ4 H4 s4:=I4.unpinned
 have st:=I4u.step (g':=s4.gens) (t':=s4.toks) (d':=s4.drawn) (h':=h') (H':=H4) (ch:=[s3.heap.objs.size]) (fun b hb=>?_) (fun b o _ _ hc e _=>(hs.2 b (by simpa using hc)).trans e)
  (fun b o _ _ hc e _=>⟨o.slots,(hs.2 b (by simpa using hc)).trans e⟩) (fun _ _ _ _ n=>n) (fun b o hc e=>⟨o,(hs.2 b (by simpa using hc)).trans e⟩) (fun _ _ e=>e) (fun _ _ _ e=>e) (fun b ps e=>⟨#[],by rw [e];simp⟩) (fun m hm=>?_) (fun b u e=>?_) I4u.bare
 ·exact st
 ·have e:b=s3.heap.objs.size:=by simpa using hb
  subst e
  refine ⟨.inr I3.sz,neL,fun x c e2 z=>?_,fun p hp z=>?_⟩
  ·obtain ⟨v,q2⟩:=I3.cell x c e2
   exact absurd q2.lt (by rw [z];exact Nat.lt_irrefl _)
  ·have e3:=(I3.pin p hp).1
   exact absurd (Heap.lt_size e3) (by rw [z];exact Nat.lt_irrefl _)
 ·obtain ⟨o,es',ep',ho',r'⟩:=hm
  exact ⟨o,es',ep',(hs.2 _ (Ne.symm neL)).trans ho',r'⟩
 ·refine (I4u.hok b u e).stay (fun c v hc q=>?_) (fun _ q=>q) fun _ _ q=>q
  have n4:H4 s3.heap.objs.size=none:=pn.2.1
  have ne:c≠s3.heap.objs.size:=by
   rintro rfl
   rcases hc with z | z
   ·rw [← z,n4] at e;cases e
   ·rw [n4] at z;cases z
  exact (hs.2 c ne).trans q
end
end L2
namespace L2
open PySem
def excO (a C:Addr):HO:=.ext fun h=>∃ o,h.get? a=some o/\o.cls=.ref C
def dctO (a:Addr):HO:=.ext fun h=>∃ o,h.get? a=some o/\o.cls=.type "dict"
end L2
namespace FT
open PySem PySem.Spec PyProof.Rows L2
inductive D where
 | non | bl (b:Bool) | int (i:Int) | str (x:Str) | tup (xs:List D) | fl (xs:List D) | ref (n:Nat)
inductive O where
 | lst (xs:List D)
 | set (ks:List Key)
 | dct
 | dK (kvs:List (Key×D))
 | dF (kvs:List (Key×D))
 | exc (c:Str)
abbrev AH:=List O
abbrev G:=List (Option D)
structure Exn where
 cls:Str
 fs:List (Str×D)
inductive Res (α:Type) where
 | ok (a:α) (h:AH) | err (x:Exn) (h:AH) | bad
abbrev M (α:Type):=AH->Res α
def M.pure {α:Type} (a:α):M α:=fun h=>.ok a h
def M.bind {α β:Type} (m:M α) (f:α->M β):M β:=fun h=>match m h with
 | .ok a h1=>f a h1
 | .err x h1=>.err x h1
 | .bad=>.bad
instance:Monad M where
 pure:=M.pure
 bind:=M.bind
def bad {α:Type}:M α:=fun _=>.bad
theorem M.bind_eq {α β:Type}(m:M α) (f:α->M β) (h:AH):(m >>= f) h=match m h with
 | .ok a h1=>f a h1
 | .err x h1=>.err x h1
 | .bad=>.bad:=rfl
theorem M.bind_ok {α β:Type}{m:M α}{f:α->M β}{h h1:AH}{a:α}(e:m h=.ok a h1):(m >>= f) h=f a h1:=by rw [M.bind_eq,e]
def SqLP (K:PySem.W.Frag) (H:Hp) (a:Addr) (xs:List V):Prop :=
 (∃ o,H a=some (.frz o (.lst xs))) ∨
  ∃ (o:Obj) (its:Array Value) (n:Nat),K.lookup a=some o/\o.cls=.type "list"/\o.dict=none/\o.data=.seq its n/\its.size≤sizeLine/\Vals xs its.toList
theorem SqLP.sq {K:PySem.W.Frag}{H:Hp}{a:Addr}{xs:List V}(h:SqLP K H a xs):SqL K H a xs:=by
 rcases h with ⟨o,h⟩ | h
 ·exact .inl (.inr ⟨o,h⟩)
 ·exact .inr h
mutual
def RD (K:PySem.W.Frag) (ρ:List Addr) (H:Hp):D->V->Prop
 | .non,v=>v=.non
 | .bl b,v=>v=.bl b
 | .int i,v=>v=.int i
 | .str x,v=>v=.str x
 | .tup ds,v=>∃ a xs,v=.ref a/\SqT K H a xs/\RDs K ρ H ds xs
 | .fl ds,v=>∃ a xs,v=.ref a/\SqLP K H a xs/\RDs K ρ H ds xs
 | .ref n,v=>∃ a,v=.ref a/\ρ[n]?=some a
def RDs (K:PySem.W.Frag) (ρ:List Addr) (H:Hp):List D->List V->Prop
 | [],xs=>xs=[]
 | d :: ds,xs=>∃ x r,xs=x :: r/\RD K ρ H d x/\RDs K ρ H ds r
end
def Pre (ρ ρ':List Addr):Prop:=∀ (n:Nat) a,ρ[n]?=some a->ρ'[n]?=some a
theorem Pre.refl (ρ:List Addr):Pre ρ ρ:=fun _ _ h=>h
theorem Pre.trans {a b c:List Addr}(x:Pre a b) (y:Pre b c):Pre a c:=fun n z h=>y n z (x n z h)
theorem Pre.app (ρ r:List Addr):Pre ρ (ρ++r):=fun n a h=>by
 rw [List.getElem?_append_left (List.getElem?_eq_some_iff.mp h).1];exact h
structure Ext (K:PySem.W.Frag) (H H':Hp):Prop where
 t:∀ a xs,SqT K H a xs->SqT K H' a xs
 l:∀ a xs,SqLP K H a xs->SqLP K H' a xs
 d:∀ a o vs,H a=some (.frz o (.dK vs))->H' a=some (.frz o (.dK vs))
theorem Ext.refl (K:PySem.W.Frag) (H:Hp):Ext K H H:=⟨fun _ _ h=>h,fun _ _ h=>h,fun _ _ _ h=>h⟩
theorem Ext.trans {K:PySem.W.Frag}{a b c:Hp}(x:Ext K a b) (y:Ext K b c):Ext K a c:=⟨fun z xs h=>y.t z xs (x.t z xs h),fun z xs h=>y.l z xs (x.l z xs h),fun z o vs h=>y.d z o vs (x.d z o vs h)⟩
def Trk:HO->Prop
 | .lst _=>True
 | .set _=>True
 | .ext _=>True
 | .dK _=>True
 | _=>False
theorem Ext.upd {K:PySem.W.Frag}{H:Hp}{p:Addr}{o:HO}(h:H p=none∨∃ u,H p=some u/\Trk u):Ext K H (upd H p o):=by
 have ne:∀ {b:Addr} {u:HO},H b=some u->¬ Trk u->b≠p:=fun {b u} e n z=>by
  subst z
  rcases h with h | ⟨u',h,tr⟩
  ·rw [h] at e;cases e
  ·rw [h] at e;cases e;exact n tr
 refine ⟨fun a xs q=>?_,fun a xs q=>?_,fun a o vs q=>by rw [y6 (ne q (fun z=>z))];exact q⟩
 ·rcases q with (q | ⟨u,q⟩) | q
  ·exact .inl (.inl (by rw [y6 (ne q (fun z=>z))];exact q))
  ·exact .inl (.inr ⟨u,by rw [y6 (ne q (fun z=>z))];exact q⟩)
  ·exact .inr q
 ·rcases q with ⟨u,q⟩ | q
  ·exact .inl ⟨u,by rw [y6 (ne q (fun z=>z))];exact q⟩
  ·exact .inr q
section
variable {K:PySem.W.Frag}{ρ ρ':List Addr}{H H':Hp}
mutual
theorem RD.mono (p:Pre ρ ρ') (e:Ext K H H'):∀ {d:D}{v:V},RD K ρ H d v->RD K ρ' H' d v
 | .non,v,h=>by simpa [RD] using h
 | .bl b,v,h=>by simpa [RD] using h
 | .int b,v,h=>by simpa [RD] using h
 | .str b,v,h=>by simpa [RD] using h
 | .tup ds,v,h=>by
  simp only [RD] at h ⊢
  obtain ⟨a,xs,h1,h2,h3⟩:=h
  exact ⟨a,xs,h1,e.t a xs h2,RDs.mono p e h3⟩
 | .fl ds,v,h=>by
  simp only [RD] at h ⊢
  obtain ⟨a,xs,h1,h2,h3⟩:=h
  exact ⟨a,xs,h1,e.l a xs h2,RDs.mono p e h3⟩
 | .ref n,v,h=>by
  simp only [RD] at h ⊢
  obtain ⟨a,h1,h2⟩:=h
  exact ⟨a,h1,p n a h2⟩
theorem RDs.mono (p:Pre ρ ρ') (e:Ext K H H'):∀ {ds:List D}{xs:List V},RDs K ρ H ds xs->RDs K ρ' H' ds xs
 | [],xs,h=>by simpa [RDs] using h
 | d :: ds,xs,h=>by
  simp only [RDs] at h ⊢
  obtain ⟨x,r,h1,h2,h3⟩:=h
  exact ⟨x,r,h1,RD.mono p e h2,RDs.mono p e h3⟩
end
theorem RDs.nil:RDs K ρ H [] []:=by simp [RDs]
theorem RDs.cons {d:D}{ds:List D}{x:V}{xs:List V}(h:RD K ρ H d x) (t:RDs K ρ H ds xs):RDs K ρ H (d :: ds) (x :: xs):=by
 simp only [RDs];exact ⟨x,xs,rfl,h,t⟩
theorem RDs.pair:∀ {ds:List D}{xs:List V},RDs K ρ H ds xs->Paired (RD K ρ H) ds xs
 | [],xs,h=>by simp only [RDs] at h;subst h;exact .nil
 | d :: ds,xs,h=>by
  simp only [RDs] at h
  obtain ⟨x,r,rfl,h2,h3⟩:=h
  exact .cons h2 h3.pair
theorem RDs.length {ds:List D}{xs:List V}(h:RDs K ρ H ds xs):ds.length=xs.length:=Paired.length h.pair
theorem RDs.append {a b:List D}{xs ys:List V}(h:RDs K ρ H a xs) (t:RDs K ρ H b ys):RDs K ρ H (a++b) (xs++ys):=by
 induction a generalizing xs with
 | nil=>simp only [RDs] at h;subst h;exact t
 | cons d ds ih =>
  simp only [RDs] at h
  obtain ⟨x,r,rfl,h2,h3⟩:=h
  exact RDs.cons h2 (ih h3)
theorem RDs.get {ds:List D}{xs:List V}{i:Nat}{d:D}(h:RDs K ρ H ds xs) (e:ds[i]?=some d):∃ x,xs[i]?=some x/\RD K ρ H d x:=by
 induction ds generalizing xs i with
 | nil=>simp at e
 | cons a ds ih =>
  simp only [RDs] at h
  obtain ⟨x,r,rfl,h2,h3⟩:=h
  cases i with
  | zero=>simp at e;subst e;exact ⟨x,rfl,h2⟩
  | succ i =>
   obtain ⟨y,h4,h5⟩:=ih h3 (by simpa using e)
   exact ⟨y,by simpa using h4,h5⟩
theorem RDs.getV {ds:List D}{xs:List V}{i:Nat}{x:V}(h:RDs K ρ H ds xs) (e:xs[i]?=some x):∃ d,ds[i]?=some d/\RD K ρ H d x:=by
 have hl:=h.length
 have hi:=(List.getElem?_eq_some_iff.mp e).1
 obtain ⟨y,h1,h2⟩:=h.get (List.getElem?_eq_getElem (l:=ds) (i:=i) (by omega))
 rw [e] at h1;cases h1
 exact ⟨_,List.getElem?_eq_getElem (by omega),h2⟩
theorem RDs.set {ds:List D}{xs:List V}{d:D}{x:V}(n:Nat) (h:RDs K ρ H ds xs) (hd:RD K ρ H d x):RDs K ρ H (ds.set n d) (xs.set n x):=by
 induction n generalizing ds xs with
 | zero=>cases ds with
  | nil=>simp only [RDs] at h;subst h;exact RDs.nil
  | cons a ds=>simp only [RDs] at h;obtain ⟨y,r,rfl,h2,h3⟩:=h;exact RDs.cons hd h3
 | succ n ih=>cases ds with
  | nil=>simp only [RDs] at h;subst h;exact RDs.nil
  | cons a ds=>simp only [RDs] at h;obtain ⟨y,r,rfl,h2,h3⟩:=h;exact RDs.cons h2 (ih h3)
theorem RDs.eraseIdx {ds:List D}{xs:List V}(n:Nat) (h:RDs K ρ H ds xs):RDs K ρ H (ds.eraseIdx n) (xs.eraseIdx n):=by
 induction n generalizing ds xs with
 | zero=>cases ds with
  | nil=>simp only [RDs] at h;subst h;exact RDs.nil
  | cons a ds=>simp only [RDs] at h;obtain ⟨y,r,rfl,h2,h3⟩:=h;exact h3
 | succ n ih=>cases ds with
  | nil=>simp only [RDs] at h;subst h;exact RDs.nil
  | cons a ds=>simp only [RDs] at h;obtain ⟨y,r,rfl,h2,h3⟩:=h;exact RDs.cons h2 (ih h3)
theorem RDs.flat {ds:List D}{xs:List V}(n:Nat) (h:RDs K ρ H ds xs):RDs K ρ H (List.replicate n ds).flatten (List.replicate n xs).flatten:=by
 induction n with
 | zero=>exact RDs.nil
 | succ n ih=>rw [List.replicate_succ,List.flatten_cons,List.replicate_succ,List.flatten_cons];exact h.append ih
def RK (K:PySem.W.Frag) (ρ:List Addr) (H:Hp):List (Key×D)->List (Key×V)->Prop:=Paired fun p q=>p.1=q.1/\RD K ρ H p.2 q.2
theorem RK.imp {α β:Type}{P Q:α->β->Prop}(f:∀ a b,P a b->Q a b):∀ {xs:List α}{ys:List β},Paired P xs ys->Paired Q xs ys
 | _,_,.nil=>.nil
 | _,_,.cons a b=>.cons (f _ _ a) (RK.imp f b)
theorem RK.mono {kvs:List (Key×D)}{vs:List (Key×V)}(p:Pre ρ ρ') (e:Ext K H H') (r:RK K ρ H kvs vs):RK K ρ' H' kvs vs:=RK.imp (fun _ _ h=>⟨h.1,h.2.mono p e⟩) r
def RO (K:PySem.W.Frag) (ρ:List Addr) (H:Hp) (o:O) (a:Addr):Prop:=match o with
 | .lst ds=>∃ xs,H a=some (.lst xs)/\RDs K ρ H ds xs
 | .set ks=>H a=some (.set ks)
 | .dct=>H a=some (dctO a)
 | .dK kvs=>∃ vs,H a=some (.dK vs)/\RK K ρ H kvs vs
 | .dF kvs=>∃ ob vs,H a=some (.frz ob (.dK vs))/\RK K ρ H kvs vs
 | .exc c=>∃ C,PySem.W.nsIn K mainGlobals c=some (some (.ref C))/\H a=some (excO a C)
structure RH (K:PySem.W.Frag) (ρ:List Addr) (h:AH) (H:Hp):Prop where
 len:ρ.length=h.length
 nd:∀ (i j:Nat) a,ρ[i]?=some a->ρ[j]?=some a->i=j
 obj:∀ (n:Nat) o a,h[n]?=some o->ρ[n]?=some a->RO K ρ H o a
theorem RH.at {h:AH}(r:RH K ρ h H) {n:Nat}{o:O}(e:h[n]?=some o):∃ a,ρ[n]?=some a/\RO K ρ H o a:=by
 have hi:=(List.getElem?_eq_some_iff.mp e).1
 have hj:n<ρ.length:=by rw [r.len];exact hi
 have q:ρ[n]?=some ρ[n]:=List.getElem?_eq_getElem hj
 exact ⟨_,q,r.obj n o _ e q⟩
def O.fz:O->Bool
 | .dF _=>true
 | _=>false
theorem RO.there {o:O}{a:Addr}(z:RO K ρ H o a):∃ u,H a=some u/\(o.fz=false->Trk u):=by
 cases o with
 | lst ds=>obtain ⟨xs,z,_⟩:=z;exact ⟨_,z,fun _=>trivial⟩
 | set ks=>exact ⟨_,z,fun _=>trivial⟩
 | dct=>exact ⟨_,z,fun _=>trivial⟩
 | dK kvs=>obtain ⟨vs,z,_⟩:=z;exact ⟨_,z,fun _=>trivial⟩
 | dF kvs=>obtain ⟨ob,vs,z,_⟩:=z;exact ⟨_,z,fun q=>by cases q⟩
 | exc c=>obtain ⟨C,_,z⟩:=z;exact ⟨_,z,fun _=>trivial⟩
theorem RH.there {h:AH}(r:RH K ρ h H) {n:Nat}{a:Addr}(e:ρ[n]?=some a):∃ u,H a=some u:=by
 have hi:=(List.getElem?_eq_some_iff.mp e).1
 have hj:n<h.length:=by rw [← r.len];exact hi
 obtain ⟨u,z,_⟩:=(r.obj n _ a (List.getElem?_eq_getElem hj) e).there
 exact ⟨u,z⟩
theorem RH.tracked {h:AH}(r:RH K ρ h H) {n:Nat}{a:Addr}{o:O}(e:ρ[n]?=some a) (eo:h[n]?=some o) (nf:o.fz=false:=by rfl):∃ u,H a=some u/\Trk u:=by
 obtain ⟨u,z,q⟩:=(r.obj n _ a eo e).there
 exact ⟨u,z,q nf⟩
theorem RO.mono {o:O}{a:Addr}(p:Pre ρ ρ') (e:Ext K H H') (hs:H' a=H a) (r:RO K ρ H o a):RO K ρ' H' o a:=by
 cases o with
 | lst ds=>obtain ⟨xs,h1,h2⟩:=r;exact ⟨xs,hs.trans h1,h2.mono p e⟩
 | set ks=>exact hs.trans r
 | dct=>exact hs.trans r
 | dK kvs=>obtain ⟨vs,h1,h2⟩:=r;exact ⟨vs,hs.trans h1,h2.mono p e⟩
 | dF kvs=>obtain ⟨ob,vs,h1,h2⟩:=r;exact ⟨ob,vs,hs.trans h1,h2.mono p e⟩
 | exc c=>obtain ⟨C,h1,h2⟩:=r;exact ⟨C,h1,hs.trans h2⟩
theorem RH.other {h:AH}{p:Addr}{o:HO}(r:RH K ρ h H) (hp:H p=none):RH K ρ h (upd H p o) :=
 ⟨r.len,r.nd,fun n u a h1 h2=>(r.obj n u a h1 h2).mono (Pre.refl _) (Ext.upd (.inl hp)) (by
  obtain ⟨u,q⟩:=r.there h2
  exact y6 (J2 q hp))⟩
theorem RH.pushO {h:AH}{p:Addr}{o':O}{u:HO}(r:RH K ρ h H) (hp:H p=none) (hd:RO K (ρ++[p]) (upd H p u) o' p):RH K (ρ++[p]) (h++[o']) (upd H p u):=by
 have ne:∀ {n:Nat} {a:Addr},ρ[n]?=some a->a≠p:=fun e=>by
  obtain ⟨xs,q⟩:=r.there e
  exact J2 q hp
 have ext:Ext K H (L2.upd H p u):=Ext.upd (.inl hp)
 refine ⟨by simp [r.len],fun i j a h1 h2=>?_,fun n o a h1 h2=>?_⟩
 ·rw [List.getElem?_append] at h1 h2
  split at h1<;>split at h2
  ·exact r.nd i j a h1 h2
  ·rename_i hi hj
   rw [List.getElem?_singleton] at h2
   split at h2
   ·cases h2;exact absurd rfl (ne h1)
   ·cases h2
  ·rename_i hi hj
   rw [List.getElem?_singleton] at h1
   split at h1
   ·cases h1;exact absurd rfl (ne h2)
   ·cases h1
  ·rename_i hi hj
   rw [List.getElem?_singleton] at h1 h2
   split at h1
   ·split at h2
    ·omega
    ·cases h2
   ·cases h1
 ·rw [List.getElem?_append] at h1 h2
  rw [r.len] at h2
  split at h1
  ·rename_i hn
   rw [if_pos hn] at h2
   exact (r.obj n o a h1 h2).mono (Pre.app _ _) ext (y6 (ne h2))
  ·rename_i hn
   rw [if_neg hn] at h2
   rw [List.getElem?_singleton] at h1 h2
   split at h1
   ·rename_i h0
    rw [if_pos h0] at h2
    cases h1;cases h2
    exact hd
   ·cases h1
theorem RH.push {h:AH}{p:Addr}{ds:List D}{xs:List V}(r:RH K ρ h H) (hp:H p=none) (hd:RDs K ρ H ds xs):RH K (ρ++[p]) (h++[.lst ds]) (upd H p (.lst xs)) :=
 r.pushO hp ⟨xs,y0,hd.mono (Pre.app _ _) (Ext.upd (.inl hp))⟩
theorem RH.pushS {h:AH}{p:Addr}{ks:List Key}(r:RH K ρ h H) (hp:H p=none):RH K (ρ++[p]) (h++[.set ks]) (upd H p (.set ks)):=r.pushO hp y0
theorem RH.setO {h:AH}{n:Nat}{a:Addr}{o0 o':O}{u:HO}(r:RH K ρ h H) (e:h[n]?=some o0) (ea:ρ[n]?=some a) (hd:RO K ρ (upd H a u) o' a) (nf:o0.fz=false:=by rfl):RH K ρ (h.set n o') (upd H a u):=by
 have ext:Ext K H (L2.upd H a u):=Ext.upd (.inr (r.tracked ea e nf))
 refine ⟨by simp [r.len],r.nd,fun m o b h1 h2=>?_⟩
 by_cases hm:m=n
 ·subst hm
  rw [ea] at h2;cases h2
  have hi:=(List.getElem?_eq_some_iff.mp e).1
  rw [List.getElem?_set_self hi] at h1
  cases h1
  exact hd
 ·rw [List.getElem?_set_ne (fun z=>hm z.symm)] at h1
  exact (r.obj m o b h1 h2).mono (Pre.refl _) ext (y6 fun z=>hm (r.nd m n b h2 (by rw [z];exact ea)))
theorem RH.set {h:AH}{n:Nat}{a:Addr}{ds0 ds:List D}{xs:List V}(r:RH K ρ h H) (e:h[n]?=some (.lst ds0)) (ea:ρ[n]?=some a) (hd:RDs K ρ H ds xs):RH K ρ (h.set n (.lst ds)) (upd H a (.lst xs)) :=
 r.setO e ea ⟨xs,y0,hd.mono (Pre.refl _) (Ext.upd (.inr (r.tracked ea e)))⟩
structure RG (K:PySem.W.Frag) (ρ:List Addr) (H:Hp) (γ:G) (σ:L2.St):Prop where
 len:γ.length=σ.length
 var:∀ (i:Nat) d,γ[i]?=some (some d)->∃ v,σ[i]?=some (some v)/\RD K ρ H d v
theorem RG.mono {γ:G}{σ:L2.St}(p:Pre ρ ρ') (e:Ext K H H') (r:RG K ρ H γ σ):RG K ρ' H' γ σ :=
 ⟨r.len,fun i d h=>let ⟨v,h1,h2⟩:=r.var i d h;⟨v,h1,h2.mono p e⟩⟩
theorem RG.set {γ:G}{σ:L2.St}{d:D}{v:V}(r:RG K ρ H γ σ) (i:Nat) (hd:RD K ρ H d v):RG K ρ H (γ.set i (some d)) (σ.set i (some v)):=by
 refine ⟨by simp [r.len],fun j d' h=>?_⟩
 by_cases hj:i=j
 ·subst hj
  have hi:i<γ.length:=by
   have:=(List.getElem?_eq_some_iff.mp h).1
   simpa using this
  rw [List.getElem?_set_self hi] at h
  cases h
  exact ⟨v,List.getElem?_set_self (by rw [← r.len];exact hi),hd⟩
 ·rw [List.getElem?_set_ne hj] at h ⊢
  exact r.var j d' h
structure Rel (K:PySem.W.Frag) (ρ:List Addr) (γ:G) (h:AH) (σ:L2.St) (H:Hp):Prop where
 g:RG K ρ H γ σ
 h:RH K ρ h H
abbrev XX:=Exn->List Addr->AH->Hp->Prop
def Fin {α:Type} (K:PySem.W.Frag) (EX:XX) (ρ:List Addr) (H:Hp) (P:α->List Addr->AH->Hp->Prop):Res α->Prop
 | .ok a h'=>∀ ρ' H',Pre ρ ρ'->Ext K H H'->RH K ρ' h' H'->P a ρ' h' H'
 | .err x h'=>∀ ρ' H',Pre ρ ρ'->Ext K H H'->RH K ρ' h' H'->EX x ρ' h' H'
 | .bad=>False
variable {EX:XX}{α β:Type}
theorem Fin.up {P:α->List Addr->AH->Hp->Prop}{r:Res α}(p:Pre ρ ρ') (e:Ext K H H') (f:Fin K EX ρ H P r):Fin K EX ρ' H' P r:=by
 cases r with
 | ok a h=>exact fun ρ2 H2 p2 e2 r2=>f ρ2 H2 (p.trans p2) (e.trans e2) r2
 | err x h=>exact fun ρ2 H2 p2 e2 r2=>f ρ2 H2 (p.trans p2) (e.trans e2) r2
 | bad=>exact f
theorem Fin.mono {P P':α->List Addr->AH->Hp->Prop}{r:Res α}(f:Fin K EX ρ H P r) (h:∀ a ρ' h' H',Pre ρ ρ'->Ext K H H'->RH K ρ' h' H'->P a ρ' h' H'->P' a ρ' h' H'):Fin K EX ρ H P' r:=by
 cases r with
 | ok a h1=>exact fun ρ2 H2 p2 e2 r2=>h a ρ2 h1 H2 p2 e2 r2 (f ρ2 H2 p2 e2 r2)
 | err x h1=>exact f
 | bad=>exact f
theorem Fin.bind {P:β->List Addr->AH->Hp->Prop}{m:M α}{f:α->M β}{h:AH}(z:Fin K EX ρ H P ((m >>= f) h)):Fin K EX ρ H (fun a ρ1 h1 H1=>Fin K EX ρ1 H1 P (f a h1)) (m h):=by
 rw [M.bind_eq] at z
 cases e:m h with
 | ok a h1=>rw [e] at z;exact fun ρ2 H2 p2 e2 r2=>Fin.up p2 e2 z
 | err x h1=>rw [e] at z;exact z
 | bad=>rw [e] at z;exact z
end
def tE (K:PySem.W.Frag) (EX:XX) (m:G->M D):TE:=fun σ H Q=>∃ ρ γ h,Rel K ρ γ h σ H/\Fin K EX ρ H (fun d ρ' _ H'=>∀ v,RD K ρ' H' d v->Q v H') (m γ h)
def tT (K:PySem.W.Frag) (EX:XX) (m:G->M Bool):TT:=fun σ H Q=>∃ ρ γ h,Rel K ρ γ h σ H/\Fin K EX ρ H (fun b _ _ H'=>Q b H') (m γ h)
def tL (K:PySem.W.Frag) (EX:XX) (m:G->M (List D)):TA:=fun σ H Q=>∃ ρ γ h,Rel K ρ γ h σ H/\Fin K EX ρ H (fun ds ρ' _ H'=>∀ vs,RDs K ρ' H' ds vs->Q vs H') (m γ h)
inductive Out where
 | nx (γ:G) | rt (d:D) | bk (γ:G) | ct (γ:G)
def OutP (K:PySem.W.Frag) (D:Ends) (o:Out) (ρ:List Addr) (H:Hp):Prop:=match o with
 | .nx γ=>∀ σ,RG K ρ H γ σ->D.nx σ H
 | .rt d=>∀ v,RD K ρ H d v->D.rt v H
 | .bk γ=>∀ σ,RG K ρ H γ σ->D.bk σ H
 | .ct γ=>∀ σ,RG K ρ H γ σ->D.ct σ H
def tB (K:PySem.W.Frag) (EX:XX) (m:G->M Out):TS:=fun D σ H=>∃ ρ γ h,Rel K ρ γ h σ H/\Fin K EX ρ H (fun o ρ' _ H'=>OutP K D o ρ' H') (m γ h)
structure SE (X:Cx) (EX:XX) (e:Expr) (m:G->M D):Prop where
 h:PE X e (tE X.K EX m)
structure SC (X:Cx) (EX:XX) (e:Expr) (m:G->M Bool):Prop where
 h:PT X e (tT X.K EX m)
structure SA (X:Cx) (EX:XX) (es:List Expr) (m:G->M (List D)):Prop where
 h:PA X es (tL X.K EX m)
structure S1 (X:Cx) (EX:XX) (st:Stmt) (m:G->M Out):Prop where
 h:PS X st (tB X.K EX m)
structure SB (X:Cx) (EX:XX) (st:List Stmt) (m:G->M Out):Prop where
 h:PSs X st (tB X.K EX m)
theorem PE.imp {X:Cx}{e:Expr}{t t':TE}(h:PE X e t) (f:∀ σ H Q,t' σ H Q->t σ H Q):PE X e t':=fun pins s σ H Q I z=>h pins s σ H Q I (f σ H Q z)
theorem PT.imp {X:Cx}{e:Expr}{t t':TT}(h:PT X e t) (f:∀ σ H Q,t' σ H Q->t σ H Q):PT X e t':=fun pins s σ H Q I z=>h pins s σ H Q I (f σ H Q z)
theorem PA.imp {X:Cx}{e:List Expr}{t t':TA}(h:PA X e t) (f:∀ σ H Q,t' σ H Q->t σ H Q):PA X e t':=fun pos pins s σ H Q I z=>h pos pins s σ H Q I (f σ H Q z)
theorem PS.imp {X:Cx}{e:Stmt}{t t':TS}(h:PS X e t) (f:∀ σ H Q,t' Q σ H->t Q σ H):PS X e t':=fun pins s σ H Q I z=>h pins s σ H Q I (f σ H Q z)
theorem PSs.imp {X:Cx}{e:List Stmt}{t t':TS}(h:PSs X e t) (f:∀ σ H Q,t' Q σ H->t Q σ H):PSs X e t':=fun pins s σ H Q I z=>h pins s σ H Q I (f σ H Q z)
abbrev FE (K:PySem.W.Frag) (EX:XX) (ρ:List Addr) (H:Hp) (Q:VK) (r:Res D):Prop:=Fin K EX ρ H (fun d ρ' _ H'=>∀ v,RD K ρ' H' d v->Q v H') r
theorem FE.here {K:PySem.W.Frag}{EX:XX}{ρ:List Addr}{H:Hp}{Q:VK}{d:D}{h:AH}{v:V}(f:FE K EX ρ H Q (.ok d h)) (r:RH K ρ h H) (rd:RD K ρ H d v):Q v H:=f ρ H (Pre.refl _) (Ext.refl _ _) r v rd
theorem FE.tup {K:PySem.W.Frag}{EX:XX}{ρ:List Addr}{H:Hp}{Q:VK}{ds:List D}{xs:List V}{h:AH}{p:Addr}(f:FE K EX ρ H Q (.ok (.tup ds) h)) (r:RH K ρ h H) (hd:RDs K ρ H ds xs) (hp:H p=none):Q (.ref p) (upd H p (.tup xs)):=by
 have e:Ext K H (L2.upd H p (.tup xs)):=Ext.upd (.inl hp)
 refine f ρ _ (Pre.refl _) e (r.other hp) _ ?_
 simp only [RD]
 exact ⟨p,xs,rfl,SqT.of y0,hd.mono (Pre.refl _) e⟩
theorem FE.lst {K:PySem.W.Frag}{EX:XX}{ρ:List Addr}{H:Hp}{Q:VK}{ds:List D}{xs:List V}{h:AH}{p:Addr}(f:FE K EX ρ H Q (.ok (.ref h.length) (h++[.lst ds]))) (r:RH K ρ h H) (hd:RDs K ρ H ds xs) (hp:H p=none):Q (.ref p) (upd H p (.lst xs)):=by
 refine f (ρ++[p]) _ (Pre.app _ _) (Ext.upd (.inl hp)) (r.push hp hd) _ ?_
 simp only [RD]
 refine ⟨p,rfl,?_⟩
 rw [← r.len];simp
def getL (n:Nat):M (List D):=fun h=>match h[n]? with
 | some (.lst xs)=>.ok xs h
 | _=>.bad
def newL (xs:List D):M D:=fun h=>if xs.length≤sizeLine then .ok (.ref h.length) (h++[.lst xs]) else .bad
section
variable {X:Cx}{EX:XX}{a b c e:Expr}{pos:Pos}{ma mb mc:G->M D}
def eVar (i:Nat):G->M D:=fun γ=>match γ[i]? with
 | some (some d)=>pure d
 | _=>bad
theorem z0 (i:Nat) {x:Str}(hN:X.N[i]?=some x:=by rfl) (hv:Vis X.env.scope x:=by first | exact Or.inl rfl | exact Or.inr (Or.inl rfl) | exact Or.inr (Or.inr rfl))
 (hd:(x == ("__debug__":Str))=false:=by decide) (hcd:(x == ("__classdict__":Str))=false:=by decide):SE X EX (.Name x pos) (eVar i) :=
 ⟨PE.imp (zG7 hN hv hd hcd) fun σ H Q ⟨ρ,γ,h,rel,f⟩=>by
  have f':FE X.K EX ρ H Q (eVar i γ h):=f
  unfold eVar at f'
  cases e:γ[i]? with
  | none=>rw [e] at f';exact f'.elim
  | some o=>cases o with
   | none=>rw [e] at f';exact f'.elim
   | some d =>
    rw [e] at f'
    obtain ⟨v,h1,h2⟩:=rel.g.var i d e
    exact ⟨v,h1,FE.here f' rel.h h2⟩⟩
theorem z1T {d:D}{v:V}(h:PE X e (tC v)) (r:∀ ρ H,RD X.K ρ H d v):SE X EX e (fun _=>pure d) :=
 ⟨PE.imp h fun σ H Q ⟨ρ,γ,h,rel,f⟩=>FE.here f rel.h (r ρ H)⟩
theorem Z1 {i:Int}{j:Nat}:SE X EX (.Constant (.int i) j pos) (fun _=>pure (.int i)):=z1T zB7 fun _ _=>by simp [RD]
theorem z25 {i:Bool}{j:Nat}:SE X EX (.Constant (.bool i) j pos) (fun _=>pure (.bl i)):=z1T zN6 fun _ _=>by simp [RD]
theorem z2e {j:Nat}:SE X EX (.Constant .none j pos) (fun _=>pure .non):=z1T zA2 fun _ _=>by simp [RD]
theorem k7 {i:Str}{j:Nat}:SE X EX (.Constant (.str i) j pos) (fun _=>pure (.str i)):=z1T zG1 fun _ _=>by simp [RD]
theorem zu6 {x:Str}{d:D}{v:V}{u:Value}(hg:Gl X x) (hm:X.mg x=some u) (r:RelV v u) (hr:∀ ρ H,RD X.K ρ H d v) (hd:(x == ("__debug__":Str))=false:=by decide):SE X EX (.Name x pos) (fun _=>pure d) :=
 z1T (zk3 hg hm r hd) hr
def BR (K:PySem.W.Frag) (EX:XX) (r:R2) (f:D->D->M D):Prop:=∀ ρ h H x y v u Q,RH K ρ h H->RD K ρ H x v->RD K ρ H y u->FE K EX ρ H Q (f x y h)->r v u H Q
def e2 (f:D->D->M D) (ma mb:G->M D):G->M D:=fun γ=>do
 let x ← ma γ
 let y ← mb γ
 f x y
theorem z8c {r:R2}{f:D->D->M D}{ta tb:TE}(h:PE X e (tOp r (tE X.K EX ma) (tE X.K EX mb))) (hr:BR X.K EX r f):SE X EX e (e2 f ma mb) :=
 ⟨PE.imp h fun σ H Q ⟨ρ,γ,h,rel,fin⟩=>⟨ρ,γ,h,rel,(Fin.bind fin).mono fun x ρ1 h1 H1 p1 e1 r1 f1 v rv=>⟨ρ1,γ,h1,⟨rel.g.mono p1 e1,r1⟩,(Fin.bind f1).mono fun y ρ2 h2 H2 p2 e2 r2 f2 u ru =>
  hr ρ2 h2 H2 x y v u Q r2 (rv.mono p2 e2) ru f2⟩⟩⟩
theorem z8m {op:Operator}{r:R2}{f:D->D->M D}(ho:OpR X (binaryOp op) r) (hr:BR X.K EX r f) (ha:SE X EX a ma) (hb:SE X EX b mb):SE X EX (.BinOp a op b pos) (e2 f ma mb) :=
 z8c (ta:=tE X.K EX ma) (tb:=tE X.K EX mb) (zM0 ho ha.h hb.h) hr
theorem zD5 {op:CmpOp}{r:R2}{f:D->D->M D}(ho:OpR X (compareOp op) r) (hr:BR X.K EX r f) (ha:SE X EX a ma) (hb:SE X EX b mb) (hm:behindInMarks op b=false):SE X EX (.Compare a [op] [b] pos) (e2 f ma mb) :=
 z8c (ta:=tE X.K EX ma) (tb:=tE X.K EX mb) (zt2 ho ha.h hb.h hm) hr
def fI (g:Int->Int->D):D->D->M D
 | .int i,.int j=>pure (g i j)
 | _,_=>bad
theorem zx8 {K:PySem.W.Frag}{g:Int->Int->D}{g':Int->Int->V}(hg:∀ i j ρ H,RD K ρ H (g i j) (g' i j)):BR K EX (rI0 g') (fI g):=by
 intro ρ h H x y v u Q r rx ry fin
 unfold fI at fin
 split at fin
 ·simp only [RD] at rx ry
  subst rx;subst ry
  exact ⟨_,_,rfl,rfl,FE.here fin r (hg _ _ _ _)⟩
 ·exact fin.elim
def fIC (C:Int->Int->Bool) (g:Int->Int->D):D->D->M D
 | .int i,.int j=>if C i j then pure (g i j) else bad
 | _,_=>bad
theorem zv1 {K:PySem.W.Frag}{C:Int->Int->Bool}{C':Int->Int->Prop}{g:Int->Int->D}{g':Int->Int->V}(hc:∀ i j,C i j=true->C' i j) (hg:∀ i j ρ H,RD K ρ H (g i j) (g' i j)):BR K EX (rI C' g') (fIC C g):=by
 intro ρ h H x y v u Q r rx ry fin
 unfold fIC at fin
 split at fin
 ·simp only [RD] at rx ry
  subst rx;subst ry
  split at fin
  ·rename_i hC
   exact ⟨_,_,rfl,rfl,hc _ _ hC,FE.here fin r (hg _ _ _ _)⟩
  ·exact fin.elim
 ·exact fin.elim
def fSub:=fI fun i j=>.int (i - j)
def fDiv:=fIC (fun _ j=>decide (0<j) && decide (j<1073741824)) fun i j=>.int (i / j)
def fMod:=fIC (fun _ j=>decide (0<j)) fun i j=>.int (i % j)
def fPow:=fIC (fun i j=>decide (0≤j) && decide (j≤1000) && decide (-(2 ^ 64)<i) && decide (i<2 ^ 64)) fun i j=>.int (i ^ j.toNat)
theorem z85 (ha:SE X EX a ma) (hb:SE X EX b mb):SE X EX (.BinOp a .FloorDiv b pos) (e2 fDiv ma mb):=z8m zu1 (zv1 (fun i j h=>by simp at h;exact h) fun i j ρ H=>by simp [RD]) ha hb
theorem z3b (ha:SE X EX a ma) (hb:SE X EX b mb):SE X EX (.BinOp a .Mod b pos) (e2 fMod ma mb):=z8m zF2 (zv1 (fun i j h=>by simpa using h) fun i j ρ H=>by simp [RD]) ha hb
theorem z8K (ha:SE X EX a ma) (hb:SE X EX b mb):SE X EX (.BinOp a .Pow b pos) (e2 fPow ma mb):=z8m zA8 (zv1 (fun i j h=>by
 simp at h
 refine ⟨h.1.1.1,by omega,?_⟩
 have h1:=h.1.2
 have h2:=h.2
 omega) fun i j ρ H=>by simp [RD]) ha hb
def fAdd:D->D->M D
 | .int i,.int j=>pure (.int (i+j))
 | .str i,.str j=>if i.length+j.length≤sizeLine then pure (.str (i++j)) else bad
 | .ref i,.ref j=>do
  let x ← getL i
  let y ← getL j
  newL (x++y)
 | .tup x,.tup y=>if !decide (x.length+y.length≤sizeLine) then bad else pure (.tup (x++y))
 | _,_=>bad
theorem z0i {n:Nat}{h h1:AH}{xs:List D}(e:getL n h=.ok xs h1):h1=h/\h[n]?=some (.lst xs):=by
 unfold getL at e
 split at e
 ·rename_i q;cases e;exact ⟨rfl,q⟩
 ·cases e
theorem z0j {n:Nat}{h h1:AH}{x:Exn}(e:getL n h=.err x h1):False:=by
 unfold getL at e
 split at e<;>cases e
def zn5 (K:PySem.W.Frag):R2:=fun x y H Q=>∃ a b ys,x=.ref a/\y=.ref b/\SqT K H a []/\SqT K H b ys/\Q (.ref b) H
theorem zu0:OpR X (binaryOp .Add) (zn5 X.K):=by
 intro pins s σ H x y v u Q I rx ry h
 obtain ⟨a,b,ys,rfl,rfl,ha,hb,q⟩:=h
 cases rx
 cases ry
 obtain ⟨its,r1,p1,_⟩:=I.tuple ha
 obtain ⟨its2,r2,p2,_⟩:=I.tuple hb
 have e:its=[]:=(r1.nil_iff).mpr rfl
 subst e
 obtain ⟨⟨cls,dd,data,sl⟩,ho,hc,n,hd⟩:=id p1
 obtain ⟨⟨cls2,dd2,data2,sl2⟩,ho2,hc2,n2,hd2⟩:=id p2
 simp only at hc hd hc2 hd2
 subst hc hd hc2 hd2
 exact concat_meets ⟨_,ho,rfl⟩ ⟨_,ho2,rfl⟩ noFill_tuple_add seq_tuple_add PySem.F.slot_tuple_add PySem.F.entry_tuple_add (PySem.F.args_tuple_add_2 _ _) (tuple_addW0 a b _ _ n n2 dd dd2 sl sl2 rfl) ⟨ho,ho2,.ref b,H,I,rfl,q⟩
theorem zl8:OpR X (binaryOp .Add) (fun x y H Q=>rI0 (fun i j=>.int (i+j)) x y H Q∨(∃ i j,x=.str i/\y=.str j/\i.length+j.length≤sizeLine/\Q (.str (i++j)) H)∨rCat x y H Q∨zp8 X.K x y H Q∨zn5 X.K x y H Q) :=
 op_add.or (op_add_str.or (op_cat.or (op_catT.or zu0)))
theorem zu5:BR X.K EX (fun x y H Q=>rI0 (fun i j=>.int (i+j)) x y H Q∨(∃ i j,x=.str i/\y=.str j/\i.length+j.length≤sizeLine/\Q (.str (i++j)) H)∨rCat x y H Q∨zp8 X.K x y H Q∨zn5 X.K x y H Q) fAdd:=by
 intro ρ h H x y v u Q r rx ry fin
 unfold fAdd at fin
 split at fin
 ·simp only [RD] at rx ry;subst rx;subst ry
  exact .inl ⟨_,_,rfl,rfl,FE.here fin r (by simp [RD])⟩
 ·simp only [RD] at rx ry;subst rx;subst ry
  split at fin
  ·rename_i hl
   exact .inr (.inl ⟨_,_,rfl,rfl,hl,FE.here fin r (by simp [RD])⟩)
  ·exact fin.elim
 ·rename_i i j
  simp only [RD] at rx ry
  obtain ⟨ai,rfl,hi⟩:=rx
  obtain ⟨aj,rfl,hj⟩:=ry
  have f1:=Fin.bind fin
  cases e:getL i h with
  | bad=>rw [e] at f1;exact f1.elim
  | err z hz=>exact (z0j e).elim
  | ok xs h1 =>
   obtain ⟨rfl,q1⟩:=z0i e
   rw [e] at f1
   have f2:=Fin.bind (f1 ρ H (Pre.refl _) (Ext.refl _ _) r)
   cases e3:getL j h1 with
   | bad=>rw [e3] at f2;exact f2.elim
   | err z hz=>exact (z0j e3).elim
   | ok ys h2 =>
    obtain ⟨rfl,q2⟩:=z0i e3
    rw [e3] at f2
    have f3:=f2 ρ H (Pre.refl _) (Ext.refl _ _) r
    dsimp only at f3
    unfold newL at f3
    split at f3
    ·rename_i hl
     obtain ⟨a1,n1,xs1,o1,d1⟩:=r.at q1
     obtain ⟨a2,n2,xs2,o2,d2⟩:=r.at q2
     rw [hi] at n1;cases n1
     rw [hj] at n2;cases n2
     refine .inr (.inr (.inl ⟨_,_,_,_,rfl,rfl,o1,o2,?_,fun p hp=>FE.lst f3 r (d1.append d2) hp⟩))
     rw [← d1.length,← d2.length,← List.length_append];exact hl
    ·exact f3.elim
 ·rename_i x y
  simp only [RD] at rx ry
  obtain ⟨ax,xs,rfl,hx,dx⟩:=rx
  obtain ⟨ay,ys,rfl,hy,dy⟩:=ry
  split at fin
  ·exact fin.elim
  ·rename_i hc
   simp at hc
   have l1:=dx.length
   have l2:=dy.length
   by_cases hxe:xs=[]
   ·subst hxe
    have xe:x=[]:=by simpa using l1
    subst xe
    refine .inr (.inr (.inr (.inr ⟨ax,ay,ys,rfl,rfl,hx,hy,FE.here fin r ?_⟩)))
    simp only [RD]
    exact ⟨ay,ys,rfl,hy,by simpa using dy⟩
   refine .inr (.inr (.inr (.inl ⟨ax,ay,xs,ys,rfl,rfl,hx,hy,hxe,by omega,fun e=>?_,fun e p hp=>FE.tup fin r (dx.append dy) hp⟩)))
   ·subst e
    refine FE.here fin r ?_
    simp only [RD]
    have:y=[]:=by simpa using l2
    subst this
    exact ⟨ax,xs,rfl,hx,by simpa using dx⟩
 ·exact fin.elim
theorem z0w (ha:SE X EX a ma) (hb:SE X EX b mb):SE X EX (.BinOp a .Add b pos) (e2 fAdd ma mb):=z8m zl8 zu5 ha hb
def fMul:D->D->M D
 | .int i,.int j=>if (decide (-(2 ^ 64)<i) && decide (i<2 ^ 64)) || (decide (-(2 ^ 64)<j) && decide (j<2 ^ 64)) then pure (.int (i * j)) else bad
 | .ref i,.int j=>do
  let x ← getL i
  if decide (-(2 ^ 63)≤j) && decide (j<2 ^ 63) then newL (List.replicate j.toNat x).flatten else bad
 | _,_=>bad
theorem zA4:BR X.K EX (fun x y H Q=>rI CMul (fun i j=>.int (i * j)) x y H Q∨rRep x y H Q) fMul:=by
 intro ρ h H x y v u Q r rx ry fin
 unfold fMul at fin
 split at fin
 ·simp only [RD] at rx ry;subst rx;subst ry
  split at fin
  ·rename_i hc
   refine .inl ⟨_,_,rfl,rfl,?_,FE.here fin r (by simp [RD])⟩
   simp only [Bool.or_eq_true,Bool.and_eq_true,decide_eq_true_eq] at hc
   exact hc
  ·exact fin.elim
 ·rename_i i j
  simp only [RD] at rx ry
  obtain ⟨ai,rfl,hi⟩:=rx
  subst ry
  have f1:=Fin.bind fin
  cases e:getL i h with
  | bad=>rw [e] at f1;exact f1.elim
  | err z hz=>exact (z0j e).elim
  | ok xs h1 =>
   obtain ⟨rfl,q1⟩:=z0i e
   rw [e] at f1
   have f2:=f1 ρ H (Pre.refl _) (Ext.refl _ _) r
   dsimp only at f2
   split at f2
   ·rename_i hb
    simp only [Bool.and_eq_true,decide_eq_true_eq] at hb
    unfold newL at f2
    split at f2
    ·rename_i hl
     obtain ⟨a1,n1,xs1,o1,d1⟩:=r.at q1
     rw [hi] at n1;cases n1
     refine .inr ⟨_,_,_,rfl,rfl,o1,hb.1,hb.2,?_,fun p hp=>FE.lst f2 r (d1.flat j.toNat) hp⟩
     rw [L2.len_rep,d1.length] at hl
     rw [Nat.mul_comm];exact hl
    ·exact f2.elim
   ·exact f2.elim
 ·exact fin.elim
def fCmp (g:Int->Int->Bool):D->D->M D:=fI fun i j=>.bl (g i j)
def fLt:D->D->M D
 | .int i,.int j=>pure (.bl (decide (i<j)))
 | .str i,.str j=>pure (.bl (decide (i.cps.toList<j.cps.toList)))
 | _,_=>bad
def fLe:D->D->M D
 | .int i,.int j=>pure (.bl (decide (i≤j)))
 | .str i,.str j=>pure (.bl (!decide (j.cps.toList<i.cps.toList)))
 | _,_=>bad
def fGt:D->D->M D:=fCmp fun i j=>decide (j<i)
def fGe:D->D->M D:=fCmp fun i j=>decide (j≤i)
theorem z82:OpR X (compareOp .LtE) (fun x y H Q=>∃ i j,x=.str i/\y=.str j/\Q (.bl (!decide (j.cps.toList<i.cps.toList))) H):=by
 intro pins s σ H x y v u Q I rx ry h
 obtain ⟨i,j,rfl,rfl,q⟩:=h
 obtain ⟨t,rfl⟩:=rx
 obtain ⟨t',rfl⟩:=ry
 exact PySem.P.le_str ⟨.bl _,H,I,rfl,q⟩
theorem zL8 {K:PySem.W.Frag}:BR K EX (fun x y H Q=>rI0 (fun i j=>.bl (decide (i<j))) x y H Q∨∃ i j,x=.str i/\y=.str j/\Q (.bl (decide (i.cps.toList<j.cps.toList))) H) fLt:=by
 intro ρ h H x y v u Q r rx ry fin
 unfold fLt at fin
 split at fin
 ·simp only [RD] at rx ry;subst rx;subst ry
  exact .inl ⟨_,_,rfl,rfl,FE.here fin r (by simp [RD])⟩
 ·simp only [RD] at rx ry;subst rx;subst ry
  exact .inr ⟨_,_,rfl,rfl,FE.here fin r (by simp [RD])⟩
 ·exact fin.elim
theorem zP0 {K:PySem.W.Frag}:BR K EX (fun x y H Q=>rI0 (fun i j=>.bl (decide (i≤j))) x y H Q∨∃ i j,x=.str i/\y=.str j/\Q (.bl (!decide (j.cps.toList<i.cps.toList))) H) fLe:=by
 intro ρ h H x y v u Q r rx ry fin
 unfold fLe at fin
 split at fin
 ·simp only [RD] at rx ry;subst rx;subst ry
  exact .inl ⟨_,_,rfl,rfl,FE.here fin r (by simp [RD])⟩
 ·simp only [RD] at rx ry;subst rx;subst ry
  exact .inr ⟨_,_,rfl,rfl,FE.here fin r (by simp [RD])⟩
 ·exact fin.elim
def eqD:D->D->Option Bool
 | .int i,.int j=>some (decide (i=j))
 | .str i,.str j=>some (decide (i=j))
 | .bl i,.bl j=>some (decide (i=j))
 | .non,.non=>some true
 | .int _,.str _=>some false
 | .str _,.int _=>some false
 | .non,.int _=>some false
 | .int _,.non=>some false
 | .non,.str _=>some false
 | .str _,.non=>some false
 | _,_=>none
def fEq (neg:Bool):D->D->M D:=fun x y=>match eqD x y with
 | some b=>pure (.bl (b != neg))
 | none=>bad
theorem zu7 {K:PySem.W.Frag}{ρ:List Addr}{H:Hp}{x y:D}{v u:V}{k:Bool}(e:eqD x y=some k) (rx:RD K ρ H x v) (ry:RD K ρ H y u):scal v u=true/\decide (v=u)=k:=by
 cases x<;>cases y<;>first
  | (have e':none=some k:=e
     exact nomatch e')
  | (simp only [eqD] at e
     simp only [RD] at rx ry
     subst rx
     subst ry
     cases e
     exact ⟨rfl,by simp⟩)
theorem zM5 {K:PySem.W.Frag}:BR K EX rEq (fEq false):=by
 intro ρ h H x y v u Q r rx ry fin
 unfold fEq at fin
 cases hk:eqD x y with
 | none=>rw [hk] at fin;exact fin.elim
 | some k =>
  rw [hk] at fin
  obtain ⟨h1,h2⟩:=zu7 hk rx ry
  refine ⟨h1,?_⟩
  rw [h2]
  refine FE.here fin r ?_
  cases k<;>simp [RD]
def z0k:D->Bool
 | .non=>true
 | .bl _=>true
 | .int _=>true
 | .str _=>true
 | _=>false
def eqF:D->D->Bool
 | .non,.non=>true
 | .bl a,.bl b=>a == b
 | .bl a,.int b=>(if a then 1 else 0) == b
 | .int a,.bl b=>a == (if b then 1 else 0)
 | .int a,.int b=>a == b
 | .str a,.str b=>a == b
 | _,_=>false
def seqD:D->M (List D)
 | .tup xs=>pure xs
 | .fl xs=>pure xs
 | .ref n=>getL n
 | _=>bad
def fIn (neg:Bool):D->D->M D:=fun x y=>do
 let ys ← seqD y
 if z0k x && ys.all z0k then pure (.bl ((ys.any fun z=>eqF z x) != neg)) else bad
theorem z60 {K:PySem.W.Frag}{ρ:List Addr}{H:Hp}{x:D}{v:V}(f:z0k x=true) (r:RD K ρ H x v):z3u v=true:=by
 cases x<;>simp only [RD] at r<;>first | (subst r;rfl) | cases f
theorem zn6 {K:PySem.W.Frag}{ρ:List Addr}{H:Hp}{x y:D}{v u:V}(f:z0k x=true) (f':z0k y=true) (r:RD K ρ H x v) (r':RD K ρ H y u):eqV v u=eqF x y:=by
 cases x with
 | non=>simp only [RD] at r;subst r;cases y<;>first | (simp only [RD] at r';subst r';rfl) | cases f'
 | bl b=>simp only [RD] at r;subst r;cases y<;>first | (simp only [RD] at r';subst r';rfl) | cases f'
 | int b=>simp only [RD] at r;subst r;cases y<;>first | (simp only [RD] at r';subst r';rfl) | cases f'
 | str b=>simp only [RD] at r;subst r;cases y<;>first | (simp only [RD] at r';subst r';rfl) | cases f'
 | tup b=>cases f
 | fl b=>cases f
 | ref b=>cases f
theorem z4L {K:PySem.W.Frag}{ρ:List Addr}{H:Hp}:∀ {xs:List D}{vs:List V},RDs K ρ H xs vs->xs.all z0k=true->vs.all z3u=true
 | [],vs,r,_=>by simp only [RDs] at r;subst r;rfl
 | x :: xs,vs,r,f=>by
  simp only [RDs] at r
  obtain ⟨v,r2,rfl,h1,h2⟩:=r
  rw [List.all_cons,Bool.and_eq_true] at f ⊢
  exact ⟨z60 f.1 h1,z4L h2 f.2⟩
theorem z8T {K:PySem.W.Frag}{ρ:List Addr}{H:Hp}{x:D}{v:V}(f:z0k x=true) (r:RD K ρ H x v):∀ {xs:List D}{vs:List V},RDs K ρ H xs vs->xs.all z0k=true->(vs.any fun y=>eqV y v)=xs.any fun z=>eqF z x
 | [],vs,rs,_=>by simp only [RDs] at rs;subst rs;rfl
 | y :: xs,vs,rs,fs=>by
  simp only [RDs] at rs
  obtain ⟨u,r2,rfl,h1,h2⟩:=rs
  rw [List.all_cons,Bool.and_eq_true] at fs
  rw [List.any_cons,List.any_cons,zn6 fs.1 f h1 r,z8T f r h2 fs.2]
theorem z1q {K:PySem.W.Frag}{ρ:List Addr}{h h1:AH}{H:Hp}{y:D}{u:V}{ys:List D}(r:RH K ρ h H) (ry:RD K ρ H y u) (e:seqD y h=.ok ys h1):h1=h/\∃ p xs,u=.ref p/\(SqL K H p xs∨SqT K H p xs)/\RDs K ρ H ys xs:=by
 unfold seqD at e
 split at e
 ·cases e;simp only [RD] at ry;obtain ⟨p,xs,rfl,h2,h3⟩:=ry;exact ⟨rfl,p,xs,rfl,.inr h2,h3⟩
 ·cases e;simp only [RD] at ry;obtain ⟨p,xs,rfl,h2,h3⟩:=ry;exact ⟨rfl,p,xs,rfl,.inl h2.sq,h3⟩
 ·obtain ⟨rfl,q⟩:=z0i e
  simp only [RD] at ry;obtain ⟨p,rfl,h2⟩:=ry
  obtain ⟨a,n1,xs,o1,d1⟩:=r.at q
  rw [h2] at n1;cases n1
  exact ⟨rfl,p,xs,rfl,.inl (SqL.of o1),d1⟩
 ·cases e
theorem z2j {y:D}{h h1:AH}{x:Exn}(e:seqD y h=.err x h1):False:=by
 unfold seqD at e
 split at e
 ·cases e
 ·cases e
 ·exact z0j e
 ·cases e
theorem zA9 {K:PySem.W.Frag}{neg:Bool}:BR K EX (rIn K neg) (fIn neg):=by
 intro ρ h H x y v u Q r rx ry fin
 have f1:=Fin.bind fin
 cases e:seqD y h with
 | bad=>rw [e] at f1;exact f1.elim
 | err z hz=>exact (z2j e).elim
 | ok ys h1 =>
  obtain ⟨rfl,p,xs,rfl,hs,hd⟩:=z1q r ry e
  rw [e] at f1
  have f2:=f1 ρ H (Pre.refl _) (Ext.refl _ _) r
  dsimp only at f2
  split at f2
  ·rename_i hc
   rw [Bool.and_eq_true] at hc
   refine ⟨p,xs,rfl,hs,z60 hc.1 rx,z4L hd hc.2,?_⟩
   refine FE.here f2 r ?_
   unfold inV
   rw [z8T hc.1 rx hd hc.2]
   cases neg<;>simp [RD]
  ·exact f2.elim
end
section
variable {env:Env}{es:List Expr}
theorem z5y {c k p}:starEach (.Constant c k p :: es) env=(false,eval (.Constant c k p) env) :: starEach es env:=rfl
theorem zu3 {c p}:starEach (.Name c p :: es) env=(false,eval (.Name c p) env) :: starEach es env:=rfl
theorem zn8 {a b c p}:starEach (.Call a b c p :: es) env=(false,eval (.Call a b c p) env) :: starEach es env:=rfl
theorem za9 {a b c p}:starEach (.BinOp a b c p :: es) env=(false,eval (.BinOp a b c p) env) :: starEach es env:=rfl
theorem z6X {a b c p}:starEach (.Compare a b c p :: es) env=(false,eval (.Compare a b c p) env) :: starEach es env:=rfl
theorem z5j {a b p}:starEach (.Subscript a b p :: es) env=(false,eval (.Subscript a b p) env) :: starEach es env:=rfl
theorem zb0 {a b p}:starEach (.Tuple a b p :: es) env=(false,eval (.Tuple a b p) env) :: starEach es env:=rfl
theorem zt6 {a p}:starEach (.List a p :: es) env=(false,eval (.List a p) env) :: starEach es env:=rfl
theorem z7n {a b p}:starEach (.UnaryOp a b p :: es) env=(false,eval (.UnaryOp a b p) env) :: starEach es env:=rfl
theorem z5G {a b c p}:starEach (.ListComp a b c p :: es) env=(false,eval (.ListComp a b c p) env) :: starEach es env:=rfl
end
section
variable {X:Cx}{EX:XX}{a b c e:Expr}{pos:Pos}{ma mb mc:G->M D}
def CO (X:Cx) (EX:XX) (op:CmpOp) (f:D->D->M D):Prop:=∃ r,OpR X (compareOp op) r/\BR X.K EX r f
theorem z8v:CO X EX .Lt fLt:=⟨_,op_lt.or z7B,zL8⟩
theorem z36:CO X EX .LtE fLe:=⟨_,op_le.or z82,zP0⟩
theorem za7:CO X EX .Gt fGt:=⟨_,zN2,zx8 fun i j ρ H=>by simp [RD]⟩
theorem zQ1:CO X EX .GtE fGe:=⟨_,zN0,zx8 fun i j ρ H=>by simp [RD]⟩
theorem z5z:CO X EX .Eq (fEq false):=⟨_,zJ8,zM5⟩
theorem z79:CO X EX .In (fIn false):=⟨_,z98,zA9⟩
theorem z26:CO X EX .NotIn (fIn true):=⟨_,z5h,zA9⟩
def fIs (neg:Bool):D->D->M D:=fun x y=>match y with
 | .non=>(match x with
  | .non=>pure (.bl (true != neg))
  | .bl _=>pure (.bl (false != neg))
  | .int _=>pure (.bl (false != neg))
  | .str _=>pure (.bl (false != neg))
  | .tup _=>pure (.bl (false != neg))
  | .ref _=>pure (.bl (false != neg))
  | .fl _=>pure (.bl (false != neg)))
 | .bl k=>(match x with
  | .bl j=>pure (.bl ((j == k) != neg))
  | .non=>pure (.bl (false != neg))
  | .int _=>pure (.bl (false != neg))
  | .str _=>pure (.bl (false != neg))
  | .tup _=>pure (.bl (false != neg))
  | .ref _=>pure (.bl (false != neg))
  | .fl _=>pure (.bl (false != neg)))
 | _=>bad
theorem z6W (neg:Bool):OpR X (compareOp (if neg then .IsNot else .Is)) (fun x y H Q=>(y=.non/\Q (.bl ((decide (x=.non)) != neg)) H)∨∃ k,y=.bl k/\Q (.bl ((decide (x=.bl k)) != neg)) H):=by
 intro pins s σ H x y v u Q I rx ry h
 have pl:∀ {a b:Value},plainIs a b=true->EP X pins σ Q (.bool ((a == b) != neg)) s->wpAny (model X.prog X.w) X.A (compareOp (if neg then .IsNot else .Is) a b) (EP X pins σ Q) X.xe s:=fun {a b} hp hq=>by
  cases neg with
  | false=>exact wpAny_is_plain hp (by simpa using hq)
  | true=>exact wpAny_isNot_plain hp (by simpa using hq)
 rcases h with ⟨rfl,q⟩ | ⟨k,rfl,q⟩
 ·cases ry
  have fin:∀ {a:Value} {w:Bool},w=decide (x=.non)->(a == Value.none)=w->EP X pins σ Q (.bool ((a == Value.none) != neg)) s:=fun {a w} e1 e2=>by
   rw [e2,e1];exact ⟨.bl _,H,I,rfl,q⟩
  cases x with
  | non=>cases rx;exact pl rfl (fin (w:=true) (by simp) rfl)
  | bl j=>cases rx;exact pl rfl (fin (w:=false) (by simp) rfl)
  | int j=>obtain ⟨t,rfl⟩:=rx;exact pl rfl (fin (w:=false) (by simp) rfl)
  | str j=>obtain ⟨t,rfl⟩:=rx;exact pl rfl (fin (w:=false) (by simp) rfl)
  | byt j=>obtain ⟨t,rfl⟩:=rx;exact pl rfl (fin (w:=false) (by simp) rfl)
  | flt j=>obtain ⟨t,rfl⟩:=rx;exact pl rfl (fin (w:=false) (by simp) rfl)
  | ref j=>cases rx;exact pl rfl (fin (w:=false) (by simp) rfl)
  | ty j=>cases rx;exact pl rfl (fin (w:=false) (by simp) rfl)
 ·cases ry
  have fin:∀ {a:Value} {w:Bool},w=decide (x=.bl k)->(a == Value.bool k)=w->EP X pins σ Q (.bool ((a == Value.bool k) != neg)) s:=fun {a w} e1 e2=>by
   rw [e2,e1];exact ⟨.bl _,H,I,rfl,q⟩
  cases x with
  | non=>cases rx;exact pl rfl (fin (w:=false) (by simp) rfl)
  | bl j=>cases rx;exact pl rfl (fin (w:=(j == k)) (by rw [Bool.eq_iff_iff];simp) (by cases j<;>cases k<;>rfl))
  | int j=>obtain ⟨t,rfl⟩:=rx;exact pl rfl (fin (w:=false) (by simp) rfl)
  | str j=>obtain ⟨t,rfl⟩:=rx;exact pl rfl (fin (w:=false) (by simp) rfl)
  | byt j=>obtain ⟨t,rfl⟩:=rx;exact pl rfl (fin (w:=false) (by simp) rfl)
  | flt j=>obtain ⟨t,rfl⟩:=rx;exact pl rfl (fin (w:=false) (by simp) rfl)
  | ref j=>cases rx;exact pl rfl (fin (w:=false) (by simp) rfl)
  | ty j=>cases rx;exact pl rfl (fin (w:=false) (by simp) rfl)
theorem z8n {K:PySem.W.Frag}{ρ:List Addr}{H:Hp}{x:D}{v:V}(rx:RD K ρ H x v):decide (v=.non)=(match x with | .non=>true | _=>false):=by
 cases x<;>simp only [RD] at rx
 case non=>subst rx;simp
 case bl=>subst rx;simp
 case int=>subst rx;simp
 case str=>subst rx;simp
 case tup=>obtain ⟨a,xs,rfl,_⟩:=rx;simp
 case fl=>obtain ⟨a,xs,rfl,_⟩:=rx;simp
 case ref=>obtain ⟨a,rfl,_⟩:=rx;simp
theorem zd3 {K:PySem.W.Frag}{ρ:List Addr}{H:Hp}{x:D}{v:V}{k:Bool}(rx:RD K ρ H x v):decide (v=.bl k)=(match x with | .bl j=>j == k | _=>false):=by
 cases x<;>simp only [RD] at rx
 case non=>subst rx;simp
 case bl j=>subst rx;cases j<;>cases k<;>rfl
 case int=>subst rx;simp
 case str=>subst rx;simp
 case tup=>obtain ⟨a,xs,rfl,_⟩:=rx;simp
 case fl=>obtain ⟨a,xs,rfl,_⟩:=rx;simp
 case ref=>obtain ⟨a,rfl,_⟩:=rx;simp
theorem zw7 {K:PySem.W.Frag}(neg:Bool):BR K EX (fun x y H Q=>(y=.non/\Q (.bl ((decide (x=.non)) != neg)) H)∨∃ k,y=.bl k/\Q (.bl ((decide (x=.bl k)) != neg)) H) (fIs neg):=by
 intro ρ h H x y v u Q r rx ry fin
 cases y with
 | non =>
  simp only [RD] at ry
  refine .inl ⟨ry,?_⟩
  rw [z8n rx]
  cases x<;>first | exact (show False from fin).elim | exact FE.here fin r (by simp [RD])
 | bl k =>
  simp only [RD] at ry
  refine .inr ⟨k,ry,?_⟩
  rw [zd3 rx]
  cases x<;>first | exact (show False from fin).elim | exact FE.here fin r (by simp [RD])
 | _=>exact (show False from fin).elim
theorem zK1:CO X EX .Is (fIs false):=⟨_,z6W false,zw7 false⟩
theorem z6n:CO X EX .IsNot (fIs true):=⟨_,z6W true,zw7 true⟩
theorem se_c {op:CmpOp}{f:D->D->M D}(h:CO X EX op f) (ha:SE X EX a ma) (hb:SE X EX b mb) (hm:behindInMarks op b=false:=by first | exact zh8 _ | with_unfolding_all rfl):SE X EX (.Compare a [op] [b] pos) (e2 f ma mb):=by
 obtain ⟨r,h1,h2⟩:=h
 exact zD5 h1 h2 ha hb hm
def asB:D->M Bool
 | .bl b=>pure b
 | _=>bad
theorem zD2 {t:TE}{m:G->M D}(h:∀ σ H Q,tE X.K EX m σ H Q->t σ H Q):∀ σ H Q,tT X.K EX (fun γ=>do let d ← m γ;asB d) σ H Q->zs7 t σ H Q:=by
 intro σ H Q ⟨ρ,γ,h0,rel,fin⟩
 refine h σ H _ ⟨ρ,γ,h0,rel,(Fin.bind fin).mono fun d ρ1 h1 H1 p1 e1 r1 f1 v rv=>?_⟩
 cases d<;>first | exact (show False from f1).elim | skip
 rename_i b
 simp only [RD] at rv
 exact ⟨b,rv,f1 ρ1 H1 (Pre.refl _) (Ext.refl _ _) r1⟩
theorem sc_c {op:CmpOp}{f:D->D->M D}(h:CO X EX op f) (ha:SE X EX a ma) (hb:SE X EX b mb) (hm:behindInMarks op b=false:=by first | exact zh8 _ | with_unfolding_all rfl):SC X EX (.Compare a [op] [b] pos) (fun γ=>do let d ← e2 f ma mb γ;asB d):=by
 constructor
 obtain ⟨r,h1,h2⟩:=h
 refine PT.imp (zl4 h1 ha.h hb.h hm) (zD2 fun σ H Q ⟨ρ,γ,h,rel,fin⟩=>?_)
 exact ⟨ρ,γ,h,rel,(Fin.bind fin).mono fun x ρ1 h1 H1 p1 e1 r1 f1 v rv=>⟨ρ1,γ,h1,⟨rel.g.mono p1 e1,r1⟩,(Fin.bind f1).mono fun y ρ2 h3 H2 p2 e2 r2 f2 u ru =>
  h2 ρ2 h3 H2 x y v u Q r2 (rv.mono p2 e2) ru f2⟩⟩
def e3 (f g:D->D->M D) (ma mb mc:G->M D):G->M D:=fun γ=>do
 let x ← ma γ
 let y ← mb γ
 let k ← f x y
 let t ← asB k
 if t then do
  let z ← mc γ
  g y z
 else pure (.bl false)
theorem z6H {r r':R2}{f g:D->D->M D}(h2:BR X.K EX r f) (h4:BR X.K EX r' g):∀ σ H Q,tE X.K EX (e3 f g ma mb mc) σ H Q->z7L r r' (tE X.K EX ma) (tE X.K EX mb) (tE X.K EX mc) σ H Q:=by
 intro σ H Q ⟨ρ,γ,h,rel,fin⟩
 refine ⟨ρ,γ,h,rel,(Fin.bind fin).mono fun x ρ1 h1 H1 p1 e1 r1 f1 v rv=>⟨ρ1,γ,h1,⟨rel.g.mono p1 e1,r1⟩,(Fin.bind f1).mono fun y ρ2 h3 H2 p2 e2 r2 f2 u ru=>?_⟩⟩
 refine h2 ρ2 h3 H2 x y v u _ r2 (rv.mono p2 e2) ru ((Fin.bind f2).mono fun k ρ3 h5 H3 p3 e3 r3 f3 z rz=>?_)
 cases k<;>first | exact (show False from f3).elim | skip
 rename_i t
 simp only [RD] at rz
 refine ⟨t,rz,?_⟩
 cases t with
 | false =>
  rw [if_neg (by decide)]
  exact FE.here (d:=.bl false) (h:=h5) (ρ:=ρ3) f3 r3 (by simp [RD])
 | true =>
  rw [if_pos rfl]
  have f4:Fin X.K EX ρ3 H3 (fun d ρ' _ H'=>∀ v,RD X.K ρ' H' d v->Q v H') ((mc γ >>= fun z=>g y z) h5):=f3
  exact ⟨ρ3,γ,h5,⟨((rel.g.mono p1 e1).mono p2 e2).mono p3 e3,r3⟩,(Fin.bind f4).mono fun w ρ4 h6 H4 p4 e4 r4 f5 q rq=>h4 ρ4 h6 H4 y w u q Q r4 ((ru.mono p3 e3).mono p4 e4) rq f5⟩
theorem z7T {op op':CmpOp}{f g:D->D->M D}(h:CO X EX op f) (h':CO X EX op' g) (ha:SE X EX a ma) (hb:SE X EX b mb) (hc:SE X EX c mc) (hm:lastMarks [op,op'] [b,c]=false:=by with_unfolding_all rfl):SE X EX (.Compare a [op,op'] [b,c] pos) (e3 f g ma mb mc):=by
 constructor
 obtain ⟨r,h1,h2⟩:=h
 obtain ⟨r',h3,h4⟩:=h'
 exact PE.imp (za1 h1 h3 ha.h hb.h hc.h hm) (z6H h2 h4)
theorem zK9 {op op':CmpOp}{f g:D->D->M D}(h:CO X EX op f) (h':CO X EX op' g) (ha:SE X EX a ma) (hb:SE X EX b mb) (hc:SE X EX c mc) (hm:lastMarks [op,op'] [b,c]=false:=by with_unfolding_all rfl):SC X EX (.Compare a [op,op'] [b,c] pos) (fun γ=>do let d ← e3 f g ma mb mc γ;asB d):=by
 constructor
 obtain ⟨r,h1,h2⟩:=h
 obtain ⟨r',h3,h4⟩:=h'
 exact PT.imp (z9Y h1 h3 ha.h hb.h hc.h hm) (zD2 (z6H h2 h4))
def eAnd (ma mb:G->M D):G->M D:=fun γ=>do
 let x ← ma γ
 let t ← asB x
 if t then mb γ else pure (.bl false)
def eOr (ma mb:G->M D):G->M D:=fun γ=>do
 let x ← ma γ
 let t ← asB x
 if t then pure (.bl true) else mb γ
def eNot (ma:G->M D):G->M D:=fun γ=>do
 let x ← ma γ
 let t ← asB x
 pure (.bl (!t))
variable {rest:List Expr}
theorem z18 {op:PySem.BoolOp}(ha:SE X EX a ma):SE X EX (.BoolOp op [a] pos) ma:=⟨zH5 ha.h⟩
theorem z0m (ha:SE X EX a ma) (hb:SE X EX (.BoolOp .And (b :: rest) pos) mb):SE X EX (.BoolOp .And (a :: b :: rest) pos) (eAnd ma mb) :=
 ⟨PE.imp (zI3 ha.h hb.h) fun σ H Q ⟨ρ,γ,h,rel,fin⟩=>⟨ρ,γ,h,rel,(Fin.bind fin).mono fun x ρ1 h1 H1 p1 e1 r1 f1 v rv=>by
  cases x<;>first | exact (show False from f1).elim | skip
  rename_i t
  simp only [RD] at rv
  refine ⟨t,rv,?_⟩
  cases t with
  | true=>exact ⟨ρ1,γ,h1,⟨rel.g.mono p1 e1,r1⟩,f1⟩
  | false=>exact FE.here (d:=.bl false) (h:=h1) (ρ:=ρ1) f1 r1 (by simp [RD])⟩⟩
theorem zg1 (ha:SE X EX a ma) (hb:SE X EX (.BoolOp .Or (b :: rest) pos) mb):SE X EX (.BoolOp .Or (a :: b :: rest) pos) (eOr ma mb) :=
 ⟨PE.imp (zL2 ha.h hb.h) fun σ H Q ⟨ρ,γ,h,rel,fin⟩=>⟨ρ,γ,h,rel,(Fin.bind fin).mono fun x ρ1 h1 H1 p1 e1 r1 f1 v rv=>by
  cases x<;>first | exact (show False from f1).elim | skip
  rename_i t
  simp only [RD] at rv
  refine ⟨t,rv,?_⟩
  cases t with
  | false=>exact ⟨ρ1,γ,h1,⟨rel.g.mono p1 e1,r1⟩,f1⟩
  | true=>exact FE.here (d:=.bl true) (h:=h1) (ρ:=ρ1) f1 r1 (by simp [RD])⟩⟩
theorem z7x (ha:SE X EX a ma):SE X EX (.UnaryOp .Not a pos) (eNot ma) :=
 ⟨PE.imp (zG0 ha.h) fun σ H Q ⟨ρ,γ,h,rel,fin⟩=>⟨ρ,γ,h,rel,(Fin.bind fin).mono fun x ρ1 h1 H1 p1 e1 r1 f1 v rv=>by
  cases x<;>first | exact (show False from f1).elim | skip
  rename_i t
  simp only [RD] at rv
  exact ⟨t,rv,FE.here (d:=.bl (!t)) (h:=h1) (ρ:=ρ1) f1 r1 (by simp [RD])⟩⟩⟩
structure SW (X:Cx) (EX:XX) (e:Expr) (m:G->M Bool):Prop where
 h:PW X e (tT X.K EX m)
theorem PW.imp {X:Cx}{e:Expr}{t t':TT}(h:PW X e t) (f:∀ σ H Q,t' σ H Q->t σ H Q):PW X e t':=fun w pins s σ H Q I z=>h w pins s σ H Q I (f σ H Q z)
variable {ka kb kc:G->M Bool}
def cAnd (ka kb:G->M Bool):G->M Bool:=fun γ=>do
 let t ← ka γ
 if t then kb γ else pure false
def cOr (ka kb:G->M Bool):G->M Bool:=fun γ=>do
 let t ← ka γ
 if t then pure true else kb γ
def cNot (ka:G->M Bool):G->M Bool:=fun γ=>do
 let t ← ka γ
 pure (!t)
theorem z5u (ha:SC X EX a ka):SW X EX (.BoolOp .And [a] pos) ka:=⟨zj1 ha.h⟩
theorem z28 (ha:SC X EX a ka):SW X EX (.BoolOp .Or [a] pos) ka:=⟨zw9 ha.h⟩
theorem z8r (ha:SC X EX a ka) (hb:SW X EX (.BoolOp .And (b :: rest) pos) kb):SW X EX (.BoolOp .And (a :: b :: rest) pos) (cAnd ka kb) :=
 ⟨PW.imp (zG6 ha.h hb.h) fun σ H Q ⟨ρ,γ,h,rel,fin⟩=>⟨ρ,γ,h,rel,(Fin.bind fin).mono fun t ρ1 h1 H1 p1 e1 r1 f1=>by
  cases t with
  | true=>exact ⟨ρ1,γ,h1,⟨rel.g.mono p1 e1,r1⟩,f1⟩
  | false=>exact f1 ρ1 H1 (Pre.refl _) (Ext.refl _ _) r1⟩⟩
theorem z2W (ha:SC X EX a ka) (hb:SW X EX (.BoolOp .Or (b :: rest) pos) kb):SW X EX (.BoolOp .Or (a :: b :: rest) pos) (cOr ka kb) :=
 ⟨PW.imp (zO7 ha.h hb.h) fun σ H Q ⟨ρ,γ,h,rel,fin⟩=>⟨ρ,γ,h,rel,(Fin.bind fin).mono fun t ρ1 h1 H1 p1 e1 r1 f1=>by
  cases t with
  | false=>exact ⟨ρ1,γ,h1,⟨rel.g.mono p1 e1,r1⟩,f1⟩
  | true=>exact f1 ρ1 H1 (Pre.refl _) (Ext.refl _ _) r1⟩⟩
theorem SW.sc (h:SW X EX e ka):SC X EX e ka:=⟨PW.pt h.h⟩
theorem z01 (ha:SC X EX a ka):SC X EX (.UnaryOp .Not a pos) (cNot ka) :=
 ⟨PT.imp (zH3 ha.h) fun σ H Q ⟨ρ,γ,h,rel,fin⟩=>⟨ρ,γ,h,rel,(Fin.bind fin).mono fun t ρ1 h1 H1 p1 e1 r1 f1=>f1 ρ1 H1 (Pre.refl _) (Ext.refl _ _) r1⟩⟩
def truD:D->M Bool
 | .non=>pure false
 | .bl b=>pure b
 | .int i=>pure (i != 0)
 | .str y=>if y.length≤sizeLine then pure (decide (y.length≠0)) else bad
 | .tup xs=>pure (!xs.isEmpty)
 | .fl xs=>pure (!xs.isEmpty)
 | .ref n=>do
  let xs ← getL n
  pure (!xs.isEmpty)
def cVal (ma:G->M D):G->M Bool:=fun γ=>do
 let x ← ma γ
 truD x
theorem isE {K:PySem.W.Frag}{ρ:List Addr}{H:Hp}{ds:List D}{xs:List V}(h:RDs K ρ H ds xs):ds.isEmpty=xs.isEmpty:=by
 have:=h.length
 cases ds<;>cases xs<;>simp at this ⊢
theorem zo4 {ρ:List Addr}{h:AH}{H:Hp}{x:D}{v:V}{Q:Bool->Hp->Prop}(r:RH X.K ρ h H) (rx:RD X.K ρ H x v) (f:Fin X.K EX ρ H (fun b _ _ H'=>Q b H') (truD x h)):∃ k,TruV X.K v H k/\Q k H:=by
 cases x with
 | non=>simp only [RD] at rx;subst rx;exact ⟨false,rfl,f ρ H (Pre.refl _) (Ext.refl _ _) r⟩
 | bl b=>simp only [RD] at rx;subst rx;exact ⟨b,rfl,f ρ H (Pre.refl _) (Ext.refl _ _) r⟩
 | int b=>simp only [RD] at rx;subst rx;exact ⟨_,rfl,f ρ H (Pre.refl _) (Ext.refl _ _) r⟩
 | str y =>
  simp only [RD] at rx;subst rx
  have f':Fin X.K EX ρ H (fun b _ _ H'=>Q b H') ((if y.length≤sizeLine then pure (decide (y.length≠0)) else bad:M Bool) h):=f
  by_cases hl:y.length≤sizeLine
  ·rw [if_pos hl] at f'
   refine ⟨decide (y.length≠0),⟨hl,?_⟩,f' ρ H (Pre.refl _) (Ext.refl _ _) r⟩
   rw [Bool.eq_iff_iff];simp
  ·rw [if_neg hl] at f';exact f'.elim
 | tup xs =>
  simp only [RD] at rx;obtain ⟨a,vs,rfl,h1,h2⟩:=rx
  exact ⟨!xs.isEmpty,.inr (.inl ⟨vs,h1,by rw [isE h2]⟩),f ρ H (Pre.refl _) (Ext.refl _ _) r⟩
 | fl xs =>
  simp only [RD] at rx;obtain ⟨a,vs,rfl,h1,h2⟩:=rx
  exact ⟨!xs.isEmpty,.inl ⟨vs,h1.sq,by rw [isE h2]⟩,f ρ H (Pre.refl _) (Ext.refl _ _) r⟩
 | ref n =>
  have f1:=Fin.bind f
  cases e:getL n h with
  | bad=>rw [e] at f1;exact f1.elim
  | err z hz=>exact (z0j e).elim
  | ok xs h1 =>
   obtain ⟨rfl,q1⟩:=z0i e
   rw [e] at f1
   have f2:=f1 ρ H (Pre.refl _) (Ext.refl _ _) r
   simp only [RD] at rx;obtain ⟨a,rfl,h2⟩:=rx
   obtain ⟨a1,n1,vs,o1,d1⟩:=r.at q1
   rw [h2] at n1;cases n1
   exact ⟨!xs.isEmpty,.inl ⟨vs,SqL.of o1,by rw [isE d1]⟩,f2 ρ H (Pre.refl _) (Ext.refl _ _) r⟩
theorem x6 (ha:SE X EX a ma) (he:∀ whole,isTrue a X.env whole=(do let v ← whole;standAt a.pos;holding [v] (truthy v)):=by intro _;rfl):SC X EX a (cVal ma) :=
 ⟨PT.imp (za0 ha.h he) fun σ H Q ⟨ρ,γ,h,rel,fin⟩=>⟨ρ,γ,h,rel,(Fin.bind fin).mono fun x ρ1 h1 H1 p1 e1 r1 f1 v rv=>zo4 r1 rv f1⟩⟩
def eIf (k:G->M Bool) (ma mb:G->M D):G->M D:=fun γ=>do
 let t ← k γ
 if t then ma γ else mb γ
def aNil:G->M (List D):=fun _=>pure []
def z8 (ma:G->M D) (mr:G->M (List D)):G->M (List D):=fun γ=>do
 let x ← ma γ
 let r ← mr γ
 pure (x :: r)
variable {es:List Expr}{mr:G->M (List D)}
theorem Z0:SA X EX [] aNil:=⟨PA.imp z17 fun σ H Q ⟨ρ,γ,h,rel,fin⟩=>fin ρ H (Pre.refl _) (Ext.refl _ _) rel.h [] RDs.nil⟩
theorem z6 (ha:SE X EX a ma) (hr:SA X EX es mr) (hs:starEach (a :: es) X.env=(false,eval a X.env) :: starEach es X.env:=by first | exact z5y | exact zu3 | exact zn8 | exact za9 | exact z6X | exact z5j | exact zb0 | exact zt6 | exact z7n | exact z5G | rfl):SA X EX (a :: es) (z8 ma mr) :=
 ⟨PA.imp (z0d ha.h hr.h hs) fun σ H Q ⟨ρ,γ,h,rel,fin⟩=>⟨ρ,γ,h,rel,(Fin.bind fin).mono fun x ρ1 h1 H1 p1 e1 r1 f1 v rv=>⟨ρ1,γ,h1,⟨rel.g.mono p1 e1,r1⟩,(Fin.bind f1).mono fun ds ρ2 h2 H2 p2 e2 r2 f2 vs rvs =>
  f2 ρ2 H2 (Pre.refl _) (Ext.refl _ _) r2 (v :: vs) (RDs.cons (rv.mono p2 e2) rvs)⟩⟩⟩
def eTup (mr:G->M (List D)):G->M D:=fun γ=>do
 let xs ← mr γ
 if xs.length≤sizeLine then pure (.tup xs) else bad
def eLst (mr:G->M (List D)):G->M D:=fun γ=>do
 let xs ← mr γ
 newL xs
theorem z2v {k:Nat}(h:SA X EX es mr):SE X EX (.Tuple es k pos) (eTup mr) :=
 ⟨PE.imp (zD9 h.h) fun σ H Q ⟨ρ,γ,h,rel,fin⟩=>⟨ρ,γ,h,rel,(Fin.bind fin).mono fun xs ρ1 h1 H1 p1 e1 r1 f1 vs rvs=>by
  by_cases hl:xs.length≤sizeLine
  ·rw [if_pos hl] at f1
   exact ⟨by rw [← rvs.length];exact hl,fun p hp=>FE.tup (h:=h1) f1 r1 rvs hp⟩
  ·rw [if_neg hl] at f1;exact (show False from f1).elim⟩⟩
theorem z0p (h:SA X EX es mr):SE X EX (.List es pos) (eLst mr) :=
 ⟨PE.imp (zG9 h.h) fun σ H Q ⟨ρ,γ,h,rel,fin⟩=>⟨ρ,γ,h,rel,(Fin.bind fin).mono fun xs ρ1 h1 H1 p1 e1 r1 f1 vs rvs=>by
  unfold newL at f1
  split at f1
  ·rename_i hl
   exact ⟨by rw [← rvs.length];exact hl,fun p hp=>FE.lst (h:=h1) f1 r1 rvs hp⟩
  ·exact (show False from f1).elim⟩⟩
def fIx:D->D->M D
 | .str z,.int i=>if z.length≤sizeLine then (match atI z.cps.toList i with
  | some c=>pure (.str ⟨#[c]⟩)
  | none=>bad) else bad
 | x,.int i=>do
  let xs ← seqD x
  match atI xs i with
  | some d=>pure d
  | none=>bad
 | _,_=>bad
theorem zs6 {K:PySem.W.Frag}{ρ:List Addr}{H:Hp}{ds:List D}{xs:List V}{i:Int}{d:D}(h:RDs K ρ H ds xs) (e:atI ds i=some d):∃ x,atI xs i=some x/\RD K ρ H d x:=by
 unfold atI at e ⊢
 rw [← h.length]
 cases q:ixN ds.length i with
 | none=>rw [q] at e;cases e
 | some j=>rw [q] at e;exact h.get e
theorem zL4:BR X.K EX (rIx X.K) fIx:=by
 intro ρ h H x y v u Q r rx ry fin
 unfold fIx at fin
 split at fin
 ·simp only [RD] at rx ry;subst rx;subst ry
  rename_i z i
  by_cases hl:z.length≤sizeLine
  ·rw [if_pos hl] at fin
   cases hc:atI z.cps.toList i with
   | none=>rw [hc] at fin;exact fin.elim
   | some c =>
    rw [hc] at fin
    exact .inr (.inr ⟨_,_,c,rfl,rfl,hl,hc,FE.here fin r (by simp [RD])⟩)
  ·rw [if_neg hl] at fin;exact fin.elim
 ·rename_i i _
  simp only [RD] at ry;subst ry
  have f1:=Fin.bind fin
  cases e:seqD x h with
  | bad=>rw [e] at f1;exact f1.elim
  | err z hz=>exact (z2j e).elim
  | ok ys h1 =>
   obtain ⟨rfl,p,xs,rfl,hs,hd⟩:=z1q r rx e
   rw [e] at f1
   have f2:=f1 ρ H (Pre.refl _) (Ext.refl _ _) r
   dsimp only at f2
   cases q:atI ys i with
   | none=>rw [q] at f2;exact f2.elim
   | some d =>
    rw [q] at f2
    obtain ⟨w,h2,h3⟩:=zs6 hd q
    rcases hs with hs | hs
    ·exact .inl ⟨p,xs,i,w,rfl,rfl,hs,h2,FE.here f2 r h3⟩
    ·exact .inr (.inl ⟨p,xs,i,w,rfl,rfl,hs,h2,FE.here f2 r h3⟩)
 ·exact fin.elim
theorem Z7 (ha:SE X EX a ma) (hb:SE X EX b mb) (hs:z8W b:=by intro _ _;rfl):SE X EX (.Subscript a b pos) (e2 fIx ma mb) :=
 z8c (ta:=tE X.K EX ma) (tb:=tE X.K EX mb) (zJ9 zx9 ha.h hb.h hs) zL4
end
section
variable {X:Cx}{EX:XX}{a b c e:Expr}{pos p p2:Pos}{ma mb mc:G->M D}{es:List Expr}{mr:G->M (List D)}
def AR (K:PySem.W.Frag) (EX:XX) (r:List V->Hp->VK->Prop) (f:List D->M D):Prop:=∀ ρ h H ds vs Q,RH K ρ h H->RDs K ρ H ds vs->FE K EX ρ H Q (f ds h)->r vs H Q
def Z5 (f:List D->M D) (mr:G->M (List D)):G->M D:=fun γ=>do
 let xs ← mr γ
 f xs
theorem z0L {r:List V->Hp->VK->Prop}{f:List D->M D}(h:PE X e (tCB r (tL X.K EX mr))) (hr:AR X.K EX r f):SE X EX e (Z5 f mr) :=
 ⟨PE.imp h fun σ H Q ⟨ρ,γ,h,rel,fin⟩=>⟨ρ,γ,h,rel,(Fin.bind fin).mono fun xs ρ1 h1 H1 p1 e1 r1 f1 vs rvs=>hr ρ1 h1 H1 xs vs Q r1 rvs f1⟩⟩
theorem rds1 {K:PySem.W.Frag}{ρ:List Addr}{H:Hp}{d:D}{vs:List V}(h:RDs K ρ H [d] vs):∃ v,vs=[v]/\RD K ρ H d v:=by
 simp only [RDs] at h
 obtain ⟨x,r,rfl,h2,rfl⟩:=h
 exact ⟨x,rfl,h2⟩
def fLen:List D->M D
 | [.str z]=>if z.length≤sizeLine then pure (.int z.length) else bad
 | [x]=>do
  let xs ← seqD x
  pure (.int xs.length)
 | _=>bad
theorem zB0:AR X.K EX (fun xs H Q=>∃ x n,xs=[x]/\LenV X.K x H n/\Q (.int n) H) fLen:=by
 intro ρ h H ds vs Q r rd fin
 unfold fLen at fin
 split at fin
 ·rename_i z
  obtain ⟨v,rfl,rv⟩:=rds1 rd
  simp only [RD] at rv;subst rv
  by_cases hl:z.length≤sizeLine
  ·rw [if_pos hl] at fin
   exact ⟨_,z.length,rfl,⟨hl,rfl⟩,FE.here fin r (by simp [RD])⟩
  ·rw [if_neg hl] at fin;exact fin.elim
 ·rename_i x _
  obtain ⟨v,rfl,rv⟩:=rds1 rd
  have f1:=Fin.bind fin
  cases e:seqD x h with
  | bad=>rw [e] at f1;exact f1.elim
  | err z hz=>exact (z2j e).elim
  | ok ys h1 =>
   obtain ⟨rfl,p,xs,rfl,hs,hd⟩:=z1q r rv e
   rw [e] at f1
   have f2:=f1 ρ H (Pre.refl _) (Ext.refl _ _) r
   refine ⟨_,ys.length,rfl,?_,FE.here f2 r (by simp [RD])⟩
   rw [hd.length]
   rcases hs with hs | hs
   ·exact .inl ⟨xs,hs,rfl⟩
   ·exact .inr ⟨xs,hs,rfl⟩
 ·exact fin.elim
theorem w8 (hg:Gl X "len") (hm:X.mg "len" = none) (ha:SA X EX [a] mr) (he:starEach [a] X.env=[(false,eval a X.env)]:=by rfl):SE X EX (.Call (.Name "len" p) [a] [] pos) (Z5 fLen mr) :=
 z0L (z0F zc7 hg hm PySem.boot_len ha.h (by decide) (by decide) he rfl) zB0
def Y3:List D->M D
 | [.tup xs]=>pure (.tup xs)
 | [x]=>do
  let xs ← seqD x
  pure (.tup xs)
 | _=>bad
theorem z9P:AR X.K EX (fun xs H Q=>∃ p ys,xs=[.ref p]/\((SqL X.K H p ys/\∀ l,H l=none->Q (.ref l) (upd H l (.tup ys)))∨(SqT X.K H p ys/\Q (.ref p) H))) Y3:=by
 intro ρ h H ds vs Q r rd fin
 unfold Y3 at fin
 split at fin
 ·obtain ⟨v,rfl,rv⟩:=rds1 rd
  have rv':=rv
  simp only [RD] at rv
  obtain ⟨q,xs,rfl,h1,h2⟩:=rv
  exact ⟨q,xs,rfl,.inr ⟨h1,FE.here fin r rv'⟩⟩
 ·rename_i x hx
  obtain ⟨v,rfl,rv⟩:=rds1 rd
  have f1:=Fin.bind fin
  cases e:seqD x h with
  | bad=>rw [e] at f1;exact f1.elim
  | err z hz=>exact (z2j e).elim
  | ok ys h1 =>
   obtain ⟨rfl,q,xs,rfl,hs,hd⟩:=z1q r rv e
   rw [e] at f1
   have f2:=f1 ρ H (Pre.refl _) (Ext.refl _ _) r
   refine ⟨q,xs,rfl,?_⟩
   rcases hs with hs | hs
   ·exact .inl ⟨hs,fun l hl=>FE.tup f2 r hd hl⟩
   ·refine .inr ⟨hs,FE.here f2 r ?_⟩
    simp only [RD]
    exact ⟨q,xs,rfl,hs,hd⟩
 ·exact fin.elim
theorem Y6 (hg:Gl X "tuple") (hm:X.mg "tuple" = none) (ha:SA X EX [a] mr) (he:starEach [a] X.env=[(false,eval a X.env)]:=by rfl):SE X EX (.Call (.Name "tuple" p) [a] [] pos) (Z5 Y3 mr) :=
 z0L (z0z z4l hg hm (by decide +kernel) ha.h (by decide) (by decide) he rfl) z9P
def z9v:List D->M D
 | [x]=>do
  let xs ← seqD x
  newL xs
 | _=>bad
theorem zt4:AR X.K EX (fun xs H Q=>∃ p ys,xs=[.ref p]/\(SqL X.K H p ys∨SqT X.K H p ys)/\∀ l,H l=none->Q (.ref l) (upd H l (.lst ys))) z9v:=by
 intro ρ h H ds vs Q r rd fin
 unfold z9v at fin
 split at fin
 ·rename_i x
  obtain ⟨v,rfl,rv⟩:=rds1 rd
  have f1:=Fin.bind fin
  cases e:seqD x h with
  | bad=>rw [e] at f1;exact f1.elim
  | err z hz=>exact (z2j e).elim
  | ok ys h1 =>
   obtain ⟨rfl,q,xs,rfl,hs,hd⟩:=z1q r rv e
   rw [e] at f1
   have f2:=f1 ρ H (Pre.refl _) (Ext.refl _ _) r
   unfold newL at f2
   dsimp only at f2
   split at f2
   ·exact ⟨q,xs,rfl,hs,fun l hl=>FE.lst f2 r hd hl⟩
   ·exact f2.elim
 ·exact fin.elim
theorem zq2 (hg:Gl X "list") (hm:X.mg "list" = none) (ha:SA X EX [a] mr) (he:starEach [a] X.env=[(false,eval a X.env)]:=by rfl):SE X EX (.Call (.Name "list" p) [a] [] pos) (Z5 z9v mr) :=
 z0L (z0z z4D hg hm (by decide +kernel) ha.h (by decide) (by decide) he rfl) zt4
def tyD:D->M String
 | .non=>pure "NoneType"
 | .bl _=>pure "bool"
 | .int _=>pure "int"
 | .str _=>pure "str"
 | .tup _=>pure "tuple"
 | .fl _=>pure "list"
 | .ref n=>fun h=>match h[n]? with
  | some (.lst _)=>.ok "list" h
  | some .dct=>.ok "dict" h
  | some (.dK _)=>.ok "dict" h
  | _=>.bad
def subT (t T:String):Bool:=t == T || (t == "bool" && T == "int")
def tyNames:List String:=["NoneType","bool","int","str","tuple","list","dict"]
def tyAsked:List String:=["bool","int","str","tuple","list","dict"]
theorem zk6:tyNames.all (fun t=>tyAsked.all fun T=>decide (PySem.W.kitOne [] (.type t) (.type T)=some (subT t T)))=true:=by decide +kernel
theorem z6U {K:PySem.W.Frag}{t T:String}(h1:t∈tyNames) (h2:T∈tyAsked):PySem.W.kitOne K (.type t) (.type T)=some (subT t T):=by
 have q:=zk6
 rw [List.all_eq_true] at q
 have q2:=q t h1
 rw [List.all_eq_true] at q2
 have q3:=q2 T h2
 exact of_decide_eq_true q3
def fIsi (T:String):D->M D:=fun x=>do
 let t ← tyD x
 pure (.bl (subT t T))
theorem zs1 {pins:List (Addr×Obj)}{σ:L2.St}{H:Hp}{s:Shared}{E:Value->Shared->Prop}{Q:Value->Shared->Prop}{q:Addr}{c:Value}{k:Bool}{xs:List V}(I:Inv X pins σ H s) (h:SqT X.K H q xs) (e:PySem.W.kitOne X.K (.type "tuple") c=some k) (hQ:∀ tk,Q (.bool k) { s with toks:=tk }) :
 wpAny (model X.prog X.w) X.A (call (.builtin "isinstance") [.ref q,c]) Q E s:=by
 obtain ⟨its,_,ht,_⟩:=I.tuple h
 obtain ⟨o,h1,h2,_⟩:=ht
 exact PySem.W.kia_one PySem.W.kitx_tuple I.kIn ⟨o,h1,h2⟩ e (fun z=>nomatch z) hQ
theorem zm5 {pins:List (Addr×Obj)}{σ:L2.St}{H:Hp}{s:Shared}{E:Value->Shared->Prop}{Q:Value->Shared->Prop}{q:Addr}{c:Value}{k:Bool}{xs:List V}(I:Inv X pins σ H s) (h:SqL X.K H q xs) (e:PySem.W.kitOne X.K (.type "list") c=some k) (hQ:∀ tk,Q (.bool k) { s with toks:=tk }) :
 wpAny (model X.prog X.w) X.A (call (.builtin "isinstance") [.ref q,c]) Q E s:=by
 obtain ⟨its,_,ht,_⟩:=I.list h
 obtain ⟨o,n,h1,h2,_⟩:=ht
 exact PySem.W.kia_one PySem.W.kitx_list I.kIn ⟨o,h1,h2⟩ e (fun z=>nomatch z) hQ
def TyV (K:PySem.W.Frag) (H:Hp) (v:V) (t:String):Prop:=match v with
 | .non=>t = "NoneType"
 | .bl _=>t = "bool"
 | .int _=>t = "int"
 | .str _=>t = "str"
 | .ref q=>(t = "tuple"/\∃ xs,SqT K H q xs)∨(t = "list"/\∃ xs,SqL K H q xs)∨(t = "dict"/\(H q=some (dctO q)∨∃ kvs,H q=some (.dK kvs)))
 | _=>False
theorem z9D {T:String}(hT:T∈tyAsked):z1y X (.builtin "isinstance") (fun xs H Q=>∃ x t,xs=[x,.ty T]/\TyV X.K H x t/\Q (.bl (subT t T)) H):=by
 intro pins s σ H xs us Q I r h
 obtain ⟨x,t,rfl,ty,q⟩:=h
 obtain ⟨u,w',rfl,rx,rt⟩:=vals2 r
 cases rt
 have fin:∀ tk,EP X pins σ Q (.bool (subT t T)) { s with toks:=tk }:=fun tk=>⟨.bl _,H,I.tok tk,rfl,q⟩
 have tb:∀ {z:V} {t':Value},z=x->TyOf X.K H z t'->t'=.type t->t∈tyNames->wpAny (model X.prog X.w) X.A (call (.builtin "isinstance") [u,.type T]) (EP X pins σ Q) X.xe s:=fun {z t'} e1 ty' e2 hn=>by
  subst e1;subst e2
  exact z7Y I rx ty' (z6U hn hT) fin
 cases x with
 | non=>exact tb rfl .non (by rw [show t = "NoneType" from ty]) (by rw [show t = "NoneType" from ty];decide)
 | bl y=>exact tb rfl (.bl y) (by rw [show t = "bool" from ty]) (by rw [show t = "bool" from ty];decide)
 | int y=>exact tb rfl (.int y) (by rw [show t = "int" from ty]) (by rw [show t = "int" from ty];decide)
 | str y=>exact tb rfl (.str y) (by rw [show t = "str" from ty]) (by rw [show t = "str" from ty];decide)
 | ref y =>
  cases rx
  rcases (show (t = "tuple"/\∃ xs,SqT X.K H y xs)∨(t = "list"/\∃ xs,SqL X.K H y xs)∨(t = "dict"/\(H y=some (dctO y)∨∃ kvs,H y=some (.dK kvs))) from ty) with ⟨rfl,xs,hs⟩ | ⟨rfl,xs,hs⟩ | ⟨rfl,hs | ⟨kvs,hs⟩⟩
  ·exact zs1 I hs (z6U (by decide) hT) fin
  ·exact zm5 I hs (z6U (by decide) hT) fin
  ·exact PySem.W.kia_one PySem.W.kitx_dict I.kIn (I.hok y _ hs).1 (z6U (by decide) hT) (fun z=>nomatch z) fin
  ·exact tb rfl (.dK hs) rfl (by decide)
 | byt y=>exact (show False from ty).elim
 | flt y=>exact (show False from ty).elim
 | ty y=>exact (show False from ty).elim
theorem zk0 {K:PySem.W.Frag}{ρ:List Addr}{h h1:AH}{H:Hp}{x:D}{v:V}{t:String}(r:RH K ρ h H) (rx:RD K ρ H x v) (e:tyD x h=.ok t h1):h1=h/\TyV K H v t:=by
 cases x with
 | non=>cases e;simp only [RD] at rx;subst rx;exact ⟨rfl,rfl⟩
 | bl y=>cases e;simp only [RD] at rx;subst rx;exact ⟨rfl,rfl⟩
 | int y=>cases e;simp only [RD] at rx;subst rx;exact ⟨rfl,rfl⟩
 | str y=>cases e;simp only [RD] at rx;subst rx;exact ⟨rfl,rfl⟩
 | tup y=>cases e;simp only [RD] at rx;obtain ⟨q,xs,rfl,h2,_⟩:=rx;exact ⟨rfl,.inl ⟨rfl,xs,h2⟩⟩
 | fl y=>cases e;simp only [RD] at rx;obtain ⟨q,xs,rfl,h2,_⟩:=rx;exact ⟨rfl,.inr (.inl ⟨rfl,xs,h2.sq⟩)⟩
 | ref n =>
  simp only [RD] at rx;obtain ⟨q,rfl,h2⟩:=rx
  unfold tyD at e
  dsimp only at e
  cases q1:h[n]? with
  | none=>rw [q1] at e;cases e
  | some ob =>
   rw [q1] at e
   cases ob with
   | set ks=>cases e
   | dK kvs =>
    cases e
    obtain ⟨a1,n1,vs,o1,d1⟩:=r.at q1
    rw [h2] at n1;cases n1
    exact ⟨rfl,.inr (.inr ⟨rfl,.inr ⟨_,o1⟩⟩)⟩
   | dF kvs=>cases e
   | exc c=>cases e
   | lst ds =>
    cases e
    obtain ⟨a1,n1,vs,o1,d1⟩:=r.at q1
    rw [h2] at n1;cases n1
    exact ⟨rfl,.inr (.inl ⟨rfl,vs,SqL.of o1⟩)⟩
   | dct =>
    cases e
    obtain ⟨a1,n1,o1⟩:=r.at q1
    rw [h2] at n1;cases n1
    exact ⟨rfl,.inr (.inr ⟨rfl,.inl o1⟩)⟩
theorem zy9 {x:D}{h h1:AH}{z:Exn}(e:tyD x h=.err z h1):False:=by
 cases x with
 | ref n =>
  unfold tyD at e
  dsimp only at e
  split at e<;>cases e
 | _=>cases e
def eIsi (T:String) (ma:G->M D):G->M D:=fun γ=>do
 let x ← ma γ
 fIsi T x
theorem z0U {T:Str}{T':String}(hg:Gl X "isinstance") (hm:X.mg "isinstance" = none) (hgT:Gl X T) (hmT:X.mg T=none) (hv:bootBuiltins T=some (.type T')) (hT:T'∈tyAsked) (ha:SE X EX a ma) (hn:T≠"__name__":=by decide) (hd:(T == ("__debug__":Str))=false:=by decide)
 (he:starEach [a,.Name T p2] X.env=[(false,eval a X.env),(false,eval (.Name T p2) X.env)]:=by rfl) (he2:starEach [.Name T p2] X.env=[(false,eval (.Name T p2) X.env)]:=by rfl):SE X EX (.Call (.Name "isinstance" p) [a,.Name T p2] [] pos) (eIsi T' ma):=by
 constructor
 have hA:PA X [a,.Name T p2] (zb2 (tE X.K EX ma) (zb2 (tC (.ty T')) tNil)):=z0d ha.h (z0d (zr6 hgT hmT hv rfl hn hd) z17 he2) (by rw [he,he2])
 refine PE.imp (z0F (z9D hT) hg hm (by decide +kernel) hA (by decide) (by decide) (by rw [he,he2]) (by rw [he2];rfl)) fun σ H Q ⟨ρ,γ,h,rel,fin⟩=>⟨ρ,γ,h,rel,(Fin.bind fin).mono fun x ρ1 h1 H1 p1 e1 r1 f1 v rv=>?_⟩
 have f2:=Fin.bind f1
 cases e:tyD x h1 with
 | bad=>rw [e] at f2;exact f2.elim
 | err z hz=>exact (zy9 e).elim
 | ok t h2 =>
  obtain ⟨rfl,ty⟩:=zk0 r1 rv e
  rw [e] at f2
  have f3:=f2 ρ1 H1 (Pre.refl _) (Ext.refl _ _) r1
  exact ⟨v,t,rfl,ty,FE.here f3 r1 (by simp [RD])⟩
def blsD:List D->Option (List Bool)
 | []=>some []
 | .bl b :: r=>(blsD r).map (b :: ·)
 | _ :: _=>none
def fAll (any:Bool):List D->M D
 | [.ref n]=>do
  let xs ← getL n
  match blsD xs with
  | some bs=>pure (.bl (if any then bs.any id else bs.all id))
  | none=>bad
 | _=>bad
theorem z7z {K:PySem.W.Frag}{ρ:List Addr}{H:Hp}:∀ {xs:List D}{bs:List Bool}{vs:List V},blsD xs=some bs->RDs K ρ H xs vs->vs=bs.map V.bl
 | [],bs,vs,e,r=>by simp only [RDs] at r;cases e;subst r;rfl
 | x :: xs,bs,vs,e,r=>by
  simp only [RDs] at r
  obtain ⟨v,r2,rfl,h1,h2⟩:=r
  cases x<;>first | (simp only [blsD] at e;cases e;done) | skip
  rename_i b
  simp only [blsD] at e
  obtain ⟨bs',e1,rfl⟩:=Option.map_eq_some_iff.mp e
  simp only [RD] at h1
  subst h1
  rw [z7z e1 h2];rfl
theorem z6O:∀ {bs:List Bool}{us:List Value},Vals (bs.map V.bl) us->us=bs.map Value.bool
 | [],us,h=>by cases h;rfl
 | b :: bs,us,h=>by
  cases h with
  | cons h1 h2=>cases h1;rw [z6O h2];rfl
theorem range_all {bs:List Bool}:((List.range bs.length).all fun i=>bs.getD i false)=bs.all id:=by
 rw [Bool.eq_iff_iff,List.all_eq_true,List.all_eq_true]
 constructor
 ·intro h x hx
  obtain ⟨i,hi,rfl⟩:=List.getElem_of_mem hx
  have:=h i (List.mem_range.mpr hi)
  simpa [List.getD,hi] using this
 ·intro h i hi
  have hi':=List.mem_range.mp hi
  have:=h bs[i] (List.getElem_mem hi')
  simpa [List.getD,hi'] using this
theorem range_any {bs:List Bool}:((List.range bs.length).any fun i=>bs.getD i false)=bs.any id:=by
 rw [Bool.eq_iff_iff,List.any_eq_true,List.any_eq_true]
 constructor
 ·rintro ⟨i,hi,h⟩
  have hi':=List.mem_range.mp hi
  refine ⟨bs[i],List.getElem_mem hi',?_⟩
  simpa [List.getD,hi'] using h
 ·rintro ⟨x,hx,h⟩
  obtain ⟨i,hi,rfl⟩:=List.getElem_of_mem hx
  exact ⟨i,List.mem_range.mpr hi,by simpa [List.getD,hi] using h⟩
theorem z3m (any:Bool) (hc:X.calm=true):z1y X (.builtin (if any then "any" else "all")) (fun xs H Q=>∃ (q:Addr) (bs:List Bool),xs=[.ref q]/\SqL X.K H q (bs.map V.bl)/\Q (.bl (if any then bs.any id else bs.all id)) H):=by
 intro pins s σ H xs us Q I r h
 obtain ⟨q,bs,rfl,hq,hQ⟩:=h
 obtain ⟨u,rfl,ru⟩:=vals1 r
 cases ru
 obtain ⟨its,rv,pl,hz⟩:=I.list hq
 have ei:=z6O rv
 have ne:q≠s.heap.objs.size:=Nat.ne_of_lt (by obtain ⟨o,n,e,_⟩:=pl;exact Heap.lt_size e)
 have pl':=pl.isList
 have hwalk:=Walks.list (prog:=X.prog) (w:=X.w) (A:=X.A.in1) (show X.A.in1.handled=none from I.ok.hd hc) s.heap.objs.size q ne its.toArray
 have len:its.toArray.size=bs.length:=by rw [ei];simp
 have st0:(s.heap.push { cls:=.type "list_iterator",data:=.fields #[.ref q,.int 0 0] }).IsListIter s.heap.objs.size q 0/\(s.heap.push { cls:=.type "list_iterator",data:=.fields #[.ref q,.int 0 0] }).IsList q its.toArray :=
  ⟨⟨_,Heap.get?_push_size _ rfl,rfl,rfl⟩,pl'.at fun o e=>Heap.get?_push_of_some _ e⟩
 have tr:TruthOf X.prog X.w X.A.in1 (fun i v=>its.toArray[i]?=some v) fun i=>bs.getD i false:=fun i v s' Q' E' hv hq'=>by
  have hv':its[i]?=some v:=by simpa using hv
  rw [ei,List.getElem?_map] at hv'
  cases eb:bs[i]? with
  | none=>rw [eb] at hv';cases hv'
  | some b =>
   rw [eb] at hv'
   cases hv'
   have:bs.getD i false=b:=by simp [List.getD,eb]
   dsimp only at hq';rw [this] at hq'
   exact wpAny_truthy_bool hq'
 have fin:∀ k,k=(if any then bs.any id else bs.all id)->∀ h' tk,(∀ b o,b∉[s.heap.objs.size]->(s.heap.push { cls:=.type "list_iterator",data:=.fields #[.ref q,.int 0 0] }).get? b=some o->h'.get? b=some o) ->
  EP X pins σ Q (.bool k) { s with heap:=h',toks:=tk }:=fun k ek h' tk hk=>by
  subst ek
  refine ⟨.bl _,H,I.kept fun b o e=>hk b o ?_ (Heap.get?_push_of_some _ e),rfl,hQ⟩
  intro z
  have:b=s.heap.objs.size:=by simpa using z
  exact absurd (Heap.lt_size e) (by rw [this];exact Nat.lt_irrefl _)
 cases any with
 | false =>
  refine call_all_walk (wpAny_pyIter_list pl' ⟨_,_,_,_,_,_,_,rfl,hwalk,st0,tr,fun h' tk hk=>?_⟩)
  exact fin _ (by rw [len];exact range_all) h' tk hk
 | true =>
  refine call_any_walk (wpAny_pyIter_list pl' ⟨_,_,_,_,_,_,_,rfl,hwalk,st0,tr,fun h' tk hk=>?_⟩)
  exact fin _ (by rw [len];exact range_any) h' tk hk
theorem zh2 {any:Bool}:AR X.K EX (fun xs H Q=>∃ (q:Addr) (bs:List Bool),xs=[.ref q]/\SqL X.K H q (bs.map V.bl)/\Q (.bl (if any then bs.any id else bs.all id)) H) (fAll any):=by
 intro ρ h H ds vs Q r rd fin
 unfold fAll at fin
 split at fin
 ·rename_i n
  obtain ⟨v,rfl,rv⟩:=rds1 rd
  have f1:=Fin.bind fin
  cases e:getL n h with
  | bad=>rw [e] at f1;exact f1.elim
  | err z hz=>exact (z0j e).elim
  | ok xs h1 =>
   obtain ⟨rfl,q1⟩:=z0i e
   rw [e] at f1
   have f2:=f1 ρ H (Pre.refl _) (Ext.refl _ _) r
   dsimp only at f2
   cases eb:blsD xs with
   | none=>rw [eb] at f2;exact f2.elim
   | some bs =>
    rw [eb] at f2
    simp only [RD] at rv;obtain ⟨q,rfl,h2⟩:=rv
    obtain ⟨a1,n1,vs,o1,d1⟩:=r.at q1
    rw [h2] at n1;cases n1
    have ev:=z7z eb d1
    subst ev
    exact ⟨q,bs,rfl,SqL.of o1,FE.here f2 r (by simp [RD])⟩
 ·exact fin.elim
theorem zf6 (hc:X.calm=true) (hg:Gl X "all") (hm:X.mg "all" = none) (ha:SA X EX [a] mr) (he:starEach [a] X.env=[(false,eval a X.env)]:=by rfl):SE X EX (.Call (.Name "all" p) [a] [] pos) (Z5 (fAll false) mr) :=
 z0L (z0F (z3m false hc) hg hm (by decide +kernel) ha.h (by decide) (by decide) he rfl) zh2
theorem zI1 (hc:X.calm=true) (hg:Gl X "any") (hm:X.mg "any" = none) (ha:SA X EX [a] mr) (he:starEach [a] X.env=[(false,eval a X.env)]:=by rfl):SE X EX (.Call (.Name "any" p) [a] [] pos) (Z5 (fAll true) mr) :=
 z0L (z0F (z3m true hc) hg hm (by decide +kernel) ha.h (by decide) (by decide) he rfl) zh2
end
abbrev EX0:XX:=fun _ _ _ _=>False
def spB (K:PySem.W.Frag) (mf:List D->M D) (n:Nat):Sp:=fun vs H Q _=>vs.length=n/\∃ ρ ds h,RH K ρ h H/\RDs K ρ H ds vs/\FE K EX0 ρ H Q (mf ds h)
structure Fn (P:Program) (w:World) (K:PySem.W.Frag) (mg:Str->Option Value) (base:Heap) (k:Nat) (x:Str) (n:Nat) (mf:List D->M D):Prop where
 ex:∃ f fd ps,FnOk P w K mg base CX0 k f fd ps (spB K mf n)/\Binds K fd ps []/\PySem.W.keepIn K (.ref f)=true/\mg x=some (.ref f)
def eFn (n:Nat) (mf:List D->M D) (mr:G->M (List D)):G->M D:=fun γ=>do
 let xs ← mr γ
 if xs.length=n then mf xs else bad
section
variable {X:Cx}{a b c e:Expr}{pos p p2:Pos}{ma mb mc:G->M D}{es:List Expr}{mr:G->M (List D)}{k n:Nat}{x:Str}{mf:List D->M D}
theorem Z4 (F:Fn X.prog X.w X.K X.mg X.base k x n mf) (hr:Room k X.A) (hg:Gl X x) (ha:SA X EX0 (a :: es) mr) (hdb:(x == ("__debug__":Str))=false:=by decide)
 (he:starEach (a :: es) X.env=(false,eval a X.env) :: starEach es X.env:=by rfl) (hpl:(backTo pos (starEach es X.env)).any (·.1)=false:=by rfl):SE X EX0 (.Call (.Name x p) (a :: es) [] pos) (eFn n mf mr):=by
 constructor
 obtain ⟨f,fd,ps,h1,h2,h3,h4⟩:=F.ex
 refine PE.imp (zt9 h1 hr hg h4 h3 h2 .nil zL3 ha.h hdb he hpl) fun σ H Q ⟨ρ,γ,h,rel,fin⟩=>⟨ρ,γ,h,rel,(Fin.bind fin).mono fun xs ρ1 h1 H1 p1 e1 r1 f1 vs rvs=>?_⟩
 show spB X.K mf n (vs++[]) H1 Q E0
 rw [List.append_nil]
 by_cases hl:xs.length=n
 ·rw [if_pos hl] at f1
  exact ⟨by rw [← rvs.length];exact hl,ρ1,xs,h1,r1,rvs,f1⟩
 ·rw [if_neg hl] at f1;exact (show False from f1).elim
end
def z1c (n:Nat) (ds:List D):G:=ds.map some++List.replicate (n - ds.length) none
def runF (n:Nat) (mb:G->M Out) (ds:List D):M D:=do
 let o ← mb (z1c n ds)
 match o with
 | .nx _=>pure .non
 | .rt d=>pure d
 | _=>bad
section
variable {P:Program}{w:World}{K:PySem.W.Frag}{mg:Str->Option Value}{base:Heap}
theorem z4I {ρ:List Addr}{H:Hp}{N:List Str}{ds:List D}{vs:List V}(h:RDs K ρ H ds vs):RG K ρ H (z1c N.length ds) (L2.start N vs):=by
 have hl:=h.length
 refine ⟨by unfold z1c L2.start;simp [hl],fun i d e=>?_⟩
 unfold z1c at e
 unfold L2.start
 rw [List.getElem?_append] at e ⊢
 rw [List.length_map] at e ⊢
 rw [← hl]
 split at e
 ·rename_i hi
  rw [if_pos hi]
  rw [List.getElem?_map] at e ⊢
  cases q:ds[i]? with
  | none=>rw [q] at e;cases e
  | some d' =>
   rw [q] at e
   cases e
   obtain ⟨v,h1,h2⟩:=h.get q
   exact ⟨v,by rw [h1];rfl,h2⟩
 ·rw [List.getElem?_replicate] at e
  split at e<;>cases e
end
section
variable {env:Env}{t:Option Expr}{l:Nat}{tg:List Expr}
theorem z8Z {a p}:swapsWith (.List a p) t l env=pure false:=rfl
theorem z6N {a b p}:swapsWith (.Tuple a b p) t l env=pure false:=rfl
theorem z34 {c k p}:swapsWith (.Constant c k p) t l env=pure false:=rfl
theorem z9l {c p}:swapsWith (.Name c p) t l env=pure false:=rfl
theorem z8p {a b c p}:swapsWith (.Call a b c p) t l env=pure false:=rfl
theorem z6I {a b c p}:swapsWith (.BinOp a b c p) t l env=pure false:=rfl
theorem z3y {a b c p}:swapsWith (.Compare a b c p) t l env=pure false:=rfl
theorem z2B {a b p}:swapsWith (.Subscript a b p) t l env=pure false:=rfl
theorem z3E {a b p}:swapsWith (.UnaryOp a b p) t l env=pure false:=rfl
theorem z4R {a b p}:swapsWith (.BoolOp a b p) t l env=pure false:=rfl
theorem z65 {a b c p}:swapsWith (.IfExp a b c p) t l env=pure false:=rfl
end
section
variable {X:Cx}{EX:XX}{a b c e:Expr}{pos p p2:Pos}{ma mb mc:G->M D}{ka kb kc:G->M Bool}{st:Stmt}{sts:List Stmt}{ms mt:G->M Out}
def bNil:G->M Out:=fun γ=>pure (.nx γ)
def z9 (ms mt:G->M Out):G->M Out:=fun γ=>do
 let o ← ms γ
 match o with
 | .nx γ'=>mt γ'
 | o=>pure o
theorem Z2:SB X EX [] bNil:=⟨PSs.imp zs9 fun σ H D ⟨ρ,γ,h,rel,fin⟩=>fin ρ H (Pre.refl _) (Ext.refl _ _) rel.h σ rel.g⟩
theorem z7 (h1:S1 X EX st ms) (h2:SB X EX sts mt):SB X EX (st :: sts) (z9 ms mt) :=
 ⟨PSs.imp (zb9 h1.h h2.h) fun σ H D ⟨ρ,γ,h,rel,fin⟩=>⟨ρ,γ,h,rel,(Fin.bind fin).mono fun o ρ1 h1 H1 p1 e1 r1 f1=>by
  cases o with
  | nx γ'=>exact fun σ' rg=>⟨ρ1,γ',h1,⟨rg,r1⟩,f1⟩
  | rt d=>exact f1 ρ1 H1 (Pre.refl _) (Ext.refl _ _) r1
  | bk γ'=>exact f1 ρ1 H1 (Pre.refl _) (Ext.refl _ _) r1
  | ct γ'=>exact f1 ρ1 H1 (Pre.refl _) (Ext.refl _ _) r1⟩⟩
def sRet (ma:G->M D):G->M Out:=fun γ=>do
 let d ← ma γ
 pure (.rt d)
theorem j9 (ha:SE X EX a ma):S1 X EX (.Return (some a) pos) (sRet ma) :=
 ⟨PS.imp (zG4 ha.h) fun σ H D ⟨ρ,γ,h,rel,fin⟩=>⟨ρ,γ,h,rel,(Fin.bind fin).mono fun d ρ1 h1 H1 p1 e1 r1 f1 v rv=>f1 ρ1 H1 (Pre.refl _) (Ext.refl _ _) r1 v rv⟩⟩
def z0t (ma:G->M D):G->M Out:=fun γ=>do
 let _ ← ma γ
 pure (.nx γ)
theorem z19 (ha:SE X EX a ma) (hs:swapsWith a none pos.line X.env=pure false:=by first | exact z8Z | exact z6N | exact z34 | exact z9l | exact z8p | exact z6I | exact z3y | exact z2B | exact z3E | exact z4R | exact z65 | rfl):S1 X EX (.Expr a pos) (z0t ma) :=
 ⟨PS.imp (zm1 ha.h hs) fun σ H D ⟨ρ,γ,h,rel,fin⟩=>⟨ρ,γ,h,rel,(Fin.bind fin).mono fun d ρ1 h1 H1 p1 e1 r1 f1 v rv=>f1 ρ1 H1 (Pre.refl _) (Ext.refl _ _) r1 σ (rel.g.mono p1 e1)⟩⟩
def sIf (k:G->M Bool) (ms mt:G->M Out):G->M Out:=fun γ=>do
 let t ← k γ
 if t then ms γ else mt γ
theorem s_if {sts':List Stmt}(hc:SC X EX c kc) (h1:SB X EX sts ms) (h2:SB X EX sts' mt):S1 X EX (.If c sts sts' pos) (sIf kc ms mt) :=
 ⟨PS.imp (zN5 hc.h h1.h h2.h) fun σ H D ⟨ρ,γ,h,rel,fin⟩=>⟨ρ,γ,h,rel,(Fin.bind fin).mono fun t ρ1 h1 H1 p1 e1 r1 f1=>by
  cases t with
  | true=>exact ⟨ρ1,γ,h1,⟨rel.g.mono p1 e1,r1⟩,f1⟩
  | false=>exact ⟨ρ1,γ,h1,⟨rel.g.mono p1 e1,r1⟩,f1⟩⟩⟩
def tG (K:PySem.W.Frag) (EX:XX) (m:D->G->M G):TG:=fun v σ H Q=>∃ ρ γ h d,Rel K ρ γ h σ H/\RD K ρ H d v/\Fin K EX ρ H (fun γ' ρ' _ H'=>∀ σ',RG K ρ' H' γ' σ'->Q σ' H') (m d γ h)
def tGs (K:PySem.W.Frag) (EX:XX) (m:List D->G->M G):TGs:=fun vs σ H Q=>∃ ρ γ h ds,Rel K ρ γ h σ H/\RDs K ρ H ds vs/\Fin K EX ρ H (fun γ' ρ' _ H'=>∀ σ',RG K ρ' H' γ' σ'->Q σ' H') (m ds γ h)
structure SG (X:Cx) (EX:XX) (tg:Expr) (m:D->G->M G):Prop where
 h:PG X tg (tG X.K EX m)
structure SGs (X:Cx) (EX:XX) (tg:List Expr) (m:List D->G->M G):Prop where
 h:PGs X tg (tGs X.K EX m)
theorem PG.imp {X:Cx}{e:Expr}{t t':TG}(h:PG X e t) (f:∀ v σ H Q,t' v σ H Q->t v σ H Q):PG X e t':=fun pins s σ H v u Q I r z=>h pins s σ H v u Q I r (f v σ H Q z)
theorem PGs.imp {X:Cx}{e:List Expr}{t t':TGs}(h:PGs X e t) (f:∀ v σ H Q,t' v σ H Q->t v σ H Q):PGs X e t':=fun pins s σ H v u Q I r z=>h pins s σ H v u Q I r (f v σ H Q z)
def tGk (K:PySem.W.Frag) (EX:XX) (own:List Nat) (m:D->G->M G):TG:=fun v σ H Q=>∃ ρ γ h d,Rel K ρ γ h σ H/\RD K ρ H d v/\Fin K EX ρ H (fun γ' ρ' _ H'=>∀ σ',RG K ρ' H' γ' σ'->(∀ j:Nat,j∉own->σ'[j]?=σ[j]?)->Q σ' H') (m d γ h)
def tGks (K:PySem.W.Frag) (EX:XX) (own:List Nat) (m:List D->G->M G):TGs:=fun vs σ H Q=>∃ ρ γ h ds,Rel K ρ γ h σ H/\RDs K ρ H ds vs/\Fin K EX ρ H (fun γ' ρ' _ H'=>∀ σ',RG K ρ' H' γ' σ'->(∀ j:Nat,j∉own->σ'[j]?=σ[j]?)->Q σ' H') (m ds γ h)
structure SGk (X:Cx) (EX:XX) (tg:Expr) (own:List Nat) (m:D->G->M G):Prop where
 h:PG X tg (tGk X.K EX own m)
structure SGks (X:Cx) (EX:XX) (tg:List Expr) (own:List Nat) (m:List D->G->M G):Prop where
 h:PGs X tg (tGks X.K EX own m)
def gN (i:Nat):D->G->M G:=fun d γ=>pure (γ.set i (some d))
theorem j7 (i:Nat) {x:Str}(hN:X.N.Nodup) (hi:X.N[i]?=some x:=by rfl) (hx:Loc X.env.scope x:=by first | exact Or.inl rfl | exact Or.inr rfl) (hf:X.fn x=true∨X.env.scope.names.lookup x=some .local:=by first | exact .inl rfl | exact .inr rfl | assumption):SG X EX (.Name x pos) (gN i) :=
 ⟨PG.imp (z3q hN hi hx hf) fun v σ H Q ⟨ρ,γ,h,d,rel,rd,fin⟩=>fin ρ H (Pre.refl _) (Ext.refl _ _) rel.h _ (rel.g.set i rd)⟩
theorem Z6 (i:Nat) {x:Str}(hN:X.N.Nodup) (hi:X.N[i]?=some x:=by rfl) (hx:Loc X.env.scope x:=by first | exact Or.inl rfl | exact Or.inr rfl) (hf:X.fn x=true∨X.env.scope.names.lookup x=some .local:=by first | exact .inl rfl | exact .inr rfl | assumption):SGk X EX (.Name x pos) [i] (gN i) :=
 ⟨PG.imp (z3q hN hi hx hf) fun v σ H Q ⟨ρ,γ,h,d,rel,rd,fin⟩=>fin ρ H (Pre.refl _) (Ext.refl _ _) rel.h _ (rel.g.set i rd) fun j hj=>List.getElem?_set_ne (fun z=>hj (by simp [z]))⟩
def z3T:List D->G->M G:=fun ds γ=>match ds with
 | []=>pure γ
 | _=>bad
def z0q (m:D->G->M G) (ms:List D->G->M G):List D->G->M G:=fun ds γ=>match ds with
 | []=>bad
 | d :: r=>do
  let γ1 ← m d γ
  ms r γ1
theorem z4c:SGs X EX [] z3T:=⟨PGs.imp z80 fun v σ H Q ⟨ρ,γ,h,ds,rel,rd,fin⟩=>by
 cases ds with
 | nil=>simp only [RDs] at rd;exact ⟨rd,fin ρ H (Pre.refl _) (Ext.refl _ _) rel.h σ rel.g⟩
 | cons d r=>exact (show False from fin).elim⟩
theorem z0E {es:List Expr}{m:D->G->M G}{mr:List D->G->M G}(h1:SG X EX e m) (h2:SGs X EX es mr) (hs:(assignEach (e :: es) X.env).map (·.2)=assign e X.env :: (assignEach es X.env).map (·.2):=by rfl):SGs X EX (e :: es) (z0q m mr) :=
 ⟨PGs.imp (z6y h1.h h2.h hs) fun vs σ H Q ⟨ρ,γ,h,ds,rel,rd,fin⟩=>by
  cases ds with
  | nil=>exact (show False from fin).elim
  | cons d r =>
   simp only [RDs] at rd
   obtain ⟨v,vr,rfl,h3,h4⟩:=rd
   have fin':Fin X.K EX ρ H (fun γ' ρ' _ H'=>∀ σ',RG X.K ρ' H' γ' σ'->Q σ' H') ((m d γ >>= fun γ1=>mr r γ1) h):=fin
   exact ⟨v,vr,rfl,ρ,γ,h,d,rel,h3,(Fin.bind fin').mono fun γ1 ρ1 h1 H1 p1 e1 r1 f1 σ1 g1=>⟨ρ1,γ1,h1,r,⟨g1,r1⟩,h4.mono p1 e1,f1⟩⟩⟩
theorem z6A:SGks X EX [] [] z3T:=⟨PGs.imp z80 fun v σ H Q ⟨ρ,γ,h,ds,rel,rd,fin⟩=>by
 cases ds with
 | nil=>simp only [RDs] at rd;exact ⟨rd,fin ρ H (Pre.refl _) (Ext.refl _ _) rel.h σ rel.g fun _ _=>rfl⟩
 | cons d r=>exact (show False from fin).elim⟩
theorem z1Z {es:List Expr}{o1 o2:List Nat}{m:D->G->M G}{mr:List D->G->M G}(h1:SGk X EX e o1 m) (h2:SGks X EX es o2 mr) (hs:(assignEach (e :: es) X.env).map (·.2)=assign e X.env :: (assignEach es X.env).map (·.2):=by rfl):SGks X EX (e :: es) (o1++o2) (z0q m mr) :=
 ⟨PGs.imp (z6y h1.h h2.h hs) fun vs σ H Q ⟨ρ,γ,h,ds,rel,rd,fin⟩=>by
  cases ds with
  | nil=>exact (show False from fin).elim
  | cons d r =>
   simp only [RDs] at rd
   obtain ⟨v,vr,rfl,h3,h4⟩:=rd
   have fin':Fin X.K EX ρ H (fun γ' ρ' _ H'=>∀ σ',RG X.K ρ' H' γ' σ'->(∀ j:Nat,j∉o1++o2->σ'[j]?=σ[j]?)->Q σ' H') ((m d γ >>= fun γ1=>mr r γ1) h):=fin
   refine ⟨v,vr,rfl,ρ,γ,h,d,rel,h3,(Fin.bind fin').mono fun γ1 ρ1 h1 H1 p1 e1 r1 f1 σ1 g1 k1=>⟨ρ1,γ1,h1,r,⟨g1,r1⟩,h4.mono p1 e1,f1.mono fun γ2 ρ2 h2 H2 p2 e2 r2 f2 σ2 g2 k2=>f2 σ2 g2 fun j hj=>?_⟩⟩
   rw [List.mem_append,not_or] at hj
   rw [k2 j hj.2,k1 j hj.1]⟩
def gT (n:Nat) (m:List D->G->M G):D->G->M G:=fun d γ=>match d with
 | .tup xs=>if xs.length=n then m xs γ else bad
 | _=>bad
theorem z6M {es:List Expr}{k n:Nat}{m:List D->G->M G}(hc:X.calm=true) (h:SGs X EX es m) (hn:(assignEach es X.env).length=n:=by rfl) (hst:(assignEach es X.env).findIdx? (·.1)=none:=by rfl):SG X EX (.Tuple es k pos) (gT n m) :=
 ⟨PG.imp (zh0 hc h.h hn hst) fun v σ H Q ⟨ρ,γ,h,d,rel,rd,fin⟩=>by
  cases d<;>first | exact (show False from fin).elim | skip
  rename_i xs
  simp only [RD] at rd
  obtain ⟨q,vs,rfl,h1,h2⟩:=rd
  have fin':Fin X.K EX ρ H (fun γ' ρ' _ H'=>∀ σ',RG X.K ρ' H' γ' σ'->Q σ' H') ((if xs.length=n then m xs γ else bad) h):=fin
  by_cases hl:xs.length=n
  ·rw [if_pos hl] at fin'
   exact ⟨q,vs,rfl,h1,by rw [← h2.length];exact hl,ρ,γ,h,xs,rel,h2,fin'⟩
  ·rw [if_neg hl] at fin';exact (show False from fin').elim⟩
theorem z9m {es:List Expr}{k n:Nat}{own:List Nat}{m:List D->G->M G}(hc:X.calm=true) (h:SGks X EX es own m) (hn:(assignEach es X.env).length=n:=by rfl) (hst:(assignEach es X.env).findIdx? (·.1)=none:=by rfl):SGk X EX (.Tuple es k pos) own (gT n m) :=
 ⟨PG.imp (zh0 hc h.h hn hst) fun v σ H Q ⟨ρ,γ,h,d,rel,rd,fin⟩=>by
  cases d<;>first | exact (show False from fin).elim | skip
  rename_i xs
  simp only [RD] at rd
  obtain ⟨q,vs,rfl,h1,h2⟩:=rd
  have fin':Fin X.K EX ρ H (fun γ' ρ' _ H'=>∀ σ',RG X.K ρ' H' γ' σ'->(∀ j:Nat,j∉own->σ'[j]?=σ[j]?)->Q σ' H') ((if xs.length=n then m xs γ else bad) h):=fin
  by_cases hl:xs.length=n
  ·rw [if_pos hl] at fin'
   exact ⟨q,vs,rfl,h1,by rw [← h2.length];exact hl,ρ,γ,h,xs,rel,h2,fin'⟩
  ·rw [if_neg hl] at fin';exact (show False from fin').elim⟩
def fSet:D->D->D->M Unit:=fun o i v=>match o,i with
 | .ref n,.int k=>fun h=>match h[n]? with
  | some (.lst xs)=>(match ixN xs.length k with
   | some j=>.ok () (h.set n (.lst (xs.set j v)))
   | none=>.bad)
  | _=>.bad
 | _,_=>bad
def gIx (mo mi:G->M D):D->G->M G:=fun v γ=>do
 let o ← mo γ
 let i ← mi γ
 let _ ← fSet o i v
 pure γ
theorem z7U {o i:Expr}{mo mi:G->M D}(ho:SE X EX o mo) (hi:SE X EX i mi)
 (ha:∀ v,assign (.Subscript o i pos) X.env v=(do
  let ov ← holding [v] (eval o X.env)
  let iv ← holding [v,ov] (eval i X.env)
  standAt pos
  holding [v,ov,iv] (setItem ov iv v)
  release [v,ov,iv] []):=by intro _;rfl):SG X EX (.Subscript o i pos) (gIx mo mi) :=
 ⟨PG.imp (zf0 ho.h hi.h set_list ha) fun v σ H Q ⟨ρ,γ,h,d,rel,rd,fin⟩=>⟨ρ,γ,h,rel,(Fin.bind fin).mono fun od ρ1 h1 H1 p1 e1 r1 f1 ov ro=>⟨ρ1,γ,h1,⟨rel.g.mono p1 e1,r1⟩,(Fin.bind f1).mono fun id ρ2 h2 H2 p2 e2 r2 f2 iv ri=>by
  have f3:=Fin.bind f2
  cases od<;>first | exact (show False from f3).elim | skip
  rename_i n
  cases id<;>first | exact (show False from f3).elim | skip
  rename_i k
  simp only [RD] at ro ri
  obtain ⟨q,rfl,hq⟩:=ro
  subst ri
  have hq2:=p2 n q hq
  unfold fSet at f3
  dsimp only at f3
  cases e4:h2[n]? with
  | none=>rw [e4] at f3;exact (show False from f3).elim
  | some ob =>
   cases ob with
   | set ks=>rw [e4] at f3;exact (show False from f3).elim
   | dct=>rw [e4] at f3;exact (show False from f3).elim
   | dK kvs=>rw [e4] at f3;exact (show False from f3).elim
   | dF kvs=>rw [e4] at f3;exact (show False from f3).elim
   | exc c=>rw [e4] at f3;exact (show False from f3).elim
   | lst xs =>
    rw [e4] at f3
    dsimp only at f3
    cases e5:ixN xs.length k with
    | none=>rw [e5] at f3;exact (show False from f3).elim
    | some j =>
     rw [e5] at f3
     obtain ⟨a1,n1,vs,o1,d1⟩:=r2.at e4
     rw [hq2] at n1;cases n1
     have rd2:=(rd.mono p1 e1).mono p2 e2
     have dd:=d1.set j rd2
     refine ⟨q,vs,k,j,rfl,rfl,o1,by rw [← d1.length];exact e5,?_⟩
     have ext:Ext X.K H2 (upd H2 q (.lst (vs.set j v))):=Ext.upd (.inr ⟨_,o1,trivial⟩)
     have f4:=f3 ρ2 _ (Pre.refl _) ext (r2.set e4 hq2 dd)
     exact f4 ρ2 _ (Pre.refl _) (Ext.refl _ _) (r2.set e4 hq2 dd) σ (((rel.g.mono p1 e1).mono p2 e2).mono (Pre.refl _) ext)⟩⟩⟩
def sAsg (ma:G->M D) (g:D->G->M G):G->M Out:=fun γ=>do
 let d ← ma γ
 let γ1 ← g d γ
 pure (.nx γ1)
theorem z4k {tg:Expr}{g:D->G->M G}(ha:SE X EX a ma) (hg:SG X EX tg g) (hs:swapsWithSole [tg] a pos.line X.env=pure false:=by rfl) (hw:swappedStores [tg] a X.env=pure none:=by rfl)
 (h1:(assignEach [tg] X.env).map (·.2)=[assign tg X.env]:=by rfl):S1 X EX (.Assign [tg] a pos) (sAsg ma g) :=
 ⟨PS.imp (zC7 ha.h hg.h hs hw h1) fun σ H D ⟨ρ,γ,h,rel,fin⟩=>⟨ρ,γ,h,rel,(Fin.bind fin).mono fun d ρ1 h1 H1 p1 e1 r1 f1 v rv=>⟨ρ1,γ,h1,d,⟨rel.g.mono p1 e1,r1⟩,rv,(Fin.bind f1).mono fun γ1 ρ2 h2 H2 p2 e2 r2 f2 σ2 g2 =>
  f2 ρ2 H2 (Pre.refl _) (Ext.refl _ _) r2 σ2 g2⟩⟩⟩
theorem y9 (i:Nat) {x:Str}(hN:X.N.Nodup) (ha:SE X EX a ma) (hi:X.N[i]?=some x:=by rfl) (hx:Loc X.env.scope x:=by first | exact Or.inl rfl | exact Or.inr rfl) (hs:swapsWith a (some (.Name x p)) pos.line X.env=pure false:=by first | exact z8Z | exact z6N | exact z34 | exact z9l | exact z8p | exact z6I | exact z3y | exact z2B | exact z3E | exact z4R | exact z65 | rfl)
 (hf:X.fn x=true∨X.env.scope.names.lookup x=some .local:=by first | exact .inl rfl | exact .inr rfl | assumption):S1 X EX (.Assign [.Name x p] a pos) (sAsg ma (gN i)) :=
 ⟨PS.imp (zD0 hN hi hx ha.h hs hf) fun σ H D ⟨ρ,γ,h,rel,fin⟩=>⟨ρ,γ,h,rel,(Fin.bind fin).mono fun d ρ1 h1 H1 p1 e1 r1 f1 v rv=>f1 ρ1 H1 (Pre.refl _) (Ext.refl _ _) r1 _ ((rel.g.mono p1 e1).set i rv)⟩⟩
end
section
variable {X:Cx}{EX:XX}{a o e:Expr}{pos cpos apos:Pos}{ma mo:G->M D}
def updL (n:Nat) (f:List D->Option (D×List D)):M D:=fun h=>match h[n]? with
 | some (.lst xs)=>(match f xs with
  | some (d,ys)=>if ys.length≤sizeLine then .ok d (h.set n (.lst ys)) else .bad
  | none=>.bad)
 | _=>.bad
def z1J:D->M Nat
 | .ref n=>fun h=>match h[n]? with
  | some (.lst _)=>.ok n h
  | _=>.bad
 | _=>bad
def y8 (n:Nat) (v:D):M D:=updL n fun xs=>some (.non,xs++[v])
def z24 (n:Nat) (i:D):M D:=match i with
 | .int k=>updL n fun xs=>if -(2 ^ 63)≤k/\k<2 ^ 63 then (match seqIndex? k xs.length with
  | some j=>(xs[j]?).map fun d=>(d,xs.eraseIdx j)
  | none=>none) else none
 | _=>bad
def eM1 (f:Nat->D->M D) (mo ma:G->M D):G->M D:=fun γ=>do
 let o ← mo γ
 let n ← z1J o
 let v ← ma γ
 f n v
def eM0 (f:Nat->M D) (mo:G->M D):G->M D:=fun γ=>do
 let o ← mo γ
 let n ← z1J o
 f n
theorem z5X {K:PySem.W.Frag}{ρ:List Addr}{h:AH}{H:Hp}{Q:VK}{n:Nat}{q:Addr}{f:List D->Option (D×List D)}(r:RH K ρ h H) (hq:ρ[n]?=some q) (fin:FE K EX ρ H Q (updL n f h)) :
 ∃ xs d ys vs,f xs=some (d,ys)/\ys.length≤sizeLine/\H q=some (.lst vs)/\RDs K ρ H xs vs/\∀ v ws,RD K ρ H d v->RDs K ρ H ys ws->Q v (upd H q (.lst ws)):=by
 unfold updL at fin
 cases e:h[n]? with
 | none=>rw [e] at fin;exact fin.elim
 | some ob =>
  cases ob with
  | set ks=>rw [e] at fin;exact fin.elim
  | dct=>rw [e] at fin;exact fin.elim
  | dK kvs=>rw [e] at fin;exact fin.elim
  | dF kvs=>rw [e] at fin;exact fin.elim
  | exc c=>rw [e] at fin;exact fin.elim
  | lst xs =>
   rw [e] at fin
   dsimp only at fin
   cases e2:f xs with
   | none=>rw [e2] at fin;exact fin.elim
   | some dy =>
    obtain ⟨d,ys⟩:=dy
    rw [e2] at fin
    dsimp only at fin
    split at fin
    ·rename_i hl
     obtain ⟨a1,n1,vs,o1,d1⟩:=r.at e
     rw [hq] at n1;cases n1
     refine ⟨xs,d,ys,vs,e2,hl,o1,d1,fun v ws rv rw'=>?_⟩
     have ext:Ext K H (upd H q (.lst ws)):=Ext.upd (.inr ⟨_,o1,trivial⟩)
     exact fin ρ _ (Pre.refl _) ext (r.set e hq rw') v (rv.mono (Pre.refl _) ext)
    ·exact fin.elim
theorem zs4 {K:PySem.W.Frag}{ρ:List Addr}{h:AH}{H:Hp}{n:Nat}{q:Addr}{Z:Nat->List Addr->AH->Hp->Prop}(r:RH K ρ h H) (hq:ρ[n]?=some q) (f:Fin K EX ρ H Z (z1J (.ref n) h)):tyV K "list" (.ref q) H/\Z n ρ h H:=by
 unfold z1J at f
 dsimp only at f
 cases e:h[n]? with
 | none=>rw [e] at f;exact f.elim
 | some ob =>
  cases ob with
  | set ks=>rw [e] at f;exact f.elim
  | dct=>rw [e] at f;exact f.elim
  | dK kvs=>rw [e] at f;exact f.elim
  | dF kvs=>rw [e] at f;exact f.elim
  | exc c=>rw [e] at f;exact f.elim
  | lst xs =>
   rw [e] at f
   obtain ⟨a1,n1,vs,o1,d1⟩:=r.at e
   rw [hq] at n1;cases n1
   exact ⟨.inl ⟨rfl,vs,SqL.of o1⟩,f ρ H (Pre.refl _) (Ext.refl _ _) r⟩
theorem z9L {f:Nat->D->M D}{r:V->List V->Hp->VK->Prop}(hr:∀ ρ h H n q y u Q,RH X.K ρ h H->ρ[n]?=some q->RD X.K ρ H y u->FE X.K EX ρ H Q (f n y h)->r (.ref q) [u] H Q) :
 ∀ σ H Q,tE X.K EX (eM1 f mo ma) σ H Q->tBM X.K "list" r (tE X.K EX mo) (zb2 (tE X.K EX ma) tNil) σ H Q:=fun σ H Q ⟨ρ,γ,h,rel,fin⟩=>⟨ρ,γ,h,rel,(Fin.bind fin).mono fun x ρ1 h1 H1 p1 e1 r1 f1 v rv=>by
 have f2:=Fin.bind f1
 cases x<;>first | exact (show False from f2).elim | skip
 rename_i n
 simp only [RD] at rv
 obtain ⟨q,rfl,hq⟩:=rv
 obtain ⟨lt,f3⟩:=zs4 r1 hq f2
 exact ⟨lt,ρ1,γ,h1,⟨rel.g.mono p1 e1,r1⟩,(Fin.bind f3).mono fun y ρ2 h2 H2 p2 e2 r2 f4 u ru=>hr ρ2 h2 H2 n q y u Q r2 (p2 n q hq) ru f4⟩⟩
theorem x4 (ho:SE X EX o mo) (ha:SE X EX a ma)
 (hbase:attributeBase o "append" X.env (eval o X.env)=eval o X.env:=by rfl)
 (hfew:((backTo cpos (starEach [a] X.env)).all (fun x=>!x.1) && (backToKw cpos (keywordEach [] X.env)).all (fun x=>x.1.isSome)
  && decide (([a]:List Expr).length+([]:List Keyword).length+(if ([]:List Keyword).isEmpty then 0 else 1)<30))=true:=by rfl)
 (hline:(apos.endLine == cpos.line)=true:=by rfl) (hs:starEach [a] X.env=[(false,eval a X.env)]:=by rfl) :
 SE X EX (.Call (.Attribute o "append" apos) [a] [] cpos) (eM1 y8 mo ma) :=
 ⟨PE.imp (z9A PySem.F.plainAttrs_list PySem.F.slot_list_append PySem.F.type_list_append z3k ho.h (z0d ha.h z17 hs) hbase hfew hline hs rfl) (z9L fun ρ h H n q y u Q r hq ru fin=>by
  obtain ⟨xs,d,ys,vs,g1,g2,g3,g4,g5⟩:=z5X r hq fin
  cases g1
  have hl:=g4.length
  rw [List.length_append,List.length_singleton] at g2
  exact ⟨q,vs,u,rfl,rfl,g3,by omega,g5 _ _ (by simp [RD]) (g4.append (RDs.cons ru RDs.nil))⟩)⟩
theorem z6K (ho:SE X EX o mo) (ha:SE X EX a ma)
 (hbase:attributeBase o "pop" X.env (eval o X.env)=eval o X.env:=by rfl)
 (hfew:((backTo cpos (starEach [a] X.env)).all (fun x=>!x.1) && (backToKw cpos (keywordEach [] X.env)).all (fun x=>x.1.isSome)
  && decide (([a]:List Expr).length+([]:List Keyword).length+(if ([]:List Keyword).isEmpty then 0 else 1)<30))=true:=by rfl)
 (hline:(apos.endLine == cpos.line)=true:=by rfl) (hs:starEach [a] X.env=[(false,eval a X.env)]:=by rfl) :
 SE X EX (.Call (.Attribute o "pop" apos) [a] [] cpos) (eM1 z24 mo ma) :=
 ⟨PE.imp (z9A PySem.F.plainAttrs_list PySem.F.slot_list_pop PySem.F.type_list_pop zc1 ho.h (z0d ha.h z17 hs) hbase hfew hline hs rfl) (z9L fun ρ h H n q y u Q r hq ru fin=>by
  cases y<;>first | exact (show False from fin).elim | skip
  rename_i k
  simp only [RD] at ru
  subst ru
  obtain ⟨xs,d,ys,vs,g1,g2,g3,g4,g5⟩:=z5X r hq fin
  split at g1
  ·rename_i hk
   cases e5:seqIndex? k xs.length with
   | none=>rw [e5] at g1;cases g1
   | some j =>
    rw [e5] at g1
    obtain ⟨d',e1,e2⟩:=Option.map_eq_some_iff.mp g1
    cases e2
    obtain ⟨v,e3,e4⟩:=g4.get e1
    exact ⟨q,vs,k,j,v,rfl,rfl,g3,hk.1,hk.2,by rw [← g4.length];exact e5,e3,g5 _ _ e4 (g4.eraseIdx j)⟩
  ·cases g1)⟩
end
inductive Src where
 | con (xs:List D)
 | lst (n:Nat) (xs:List D)
 | obj (n:Nat) (o:O) (xs:List D)
def Src.items:Src->List D
 | .con xs=>xs
 | .lst _ xs=>xs
 | .obj _ _ xs=>xs
def Src.good:Src->AH->Prop
 | .con _,_=>True
 | .lst n xs,h=>h[n]?=some (.lst xs)
 | .obj n o _,h=>h[n]?=some o
open Classical in
noncomputable def Src.chk (s:Src):M Unit:=fun h=>if s.good h then .ok () h else .bad
def JOK (K:PySem.W.Frag) (src:Src) (ρ:List Addr) (H:Hp) (J:It):Prop:=∀ i ρ1 h1 H1,Pre ρ ρ1->Ext K H H1->RH K ρ1 h1 H1->src.good h1 ->
 (∀ d,src.items[i]?=some d->J.go i H1/\∀ x H2,J.yld i H1 x H2->RD K ρ1 H2 d x/\RH K ρ1 h1 H2/\Ext K H1 H2)/\(src.items.length=i->J.stop i H1)
def tI (K:PySem.W.Frag) (EX:XX) (m:G->M Src):TI:=fun σ H R=>∃ ρ γ h,Rel K ρ γ h σ H/\Fin K EX ρ H (fun src ρ' _ H'=>∀ J,JOK K src ρ' H' J->R J H') (m γ h)
structure SI (X:Cx) (EX:XX) (tg iter:Expr) (m:G->M Src):Prop where
 h:PI X tg iter (tI X.K EX m)
theorem PI.imp {X:Cx}{tg e:Expr}{t t':TI}(h:PI X tg e t) (f:∀ σ H R,t' σ H R->t σ H R):PI X tg e t':=fun pins s σ H R I z=>h pins s σ H R I (f σ H R z)
section
variable {X:Cx}{EX:XX}{a o e tg:Expr}{pos cpos apos p:Pos}{ma mo:G->M D}{mr:G->M (List D)}
def z09 (ma:G->M D):G->M Src:=fun γ=>do
 let x ← ma γ
 match x with
 | .fl xs=>pure (.con xs)
 | .ref n=>do
  let xs ← getL n
  pure (.lst n xs)
 | _=>bad
theorem x8 (ha:SE X EX a ma):SI X EX tg a (z09 ma) :=
 ⟨PI.imp (zk4 ha.h) fun σ H R ⟨ρ,γ,h,rel,fin⟩=>⟨ρ,γ,h,rel,(Fin.bind fin).mono fun x ρ1 h1 H1 p1 e1 r1 f1 v rv=>by
  cases x<;>first | exact (show False from f1).elim | skip
  case fl xs =>
   simp only [RD] at rv
   obtain ⟨q,vs,rfl,h2,h3⟩:=rv
   refine ⟨q,rfl,⟨vs,h2.sq⟩,f1 ρ1 H1 (Pre.refl _) (Ext.refl _ _) r1 _ fun i ρ2 h4 H2 p2 e2 r2 _=>⟨fun d hd=>?_,fun hi=>?_⟩⟩
   ·have h3':=h3.mono p2 e2
    obtain ⟨x,g1,g2⟩:=h3'.get hd
    refine ⟨⟨vs,x,(e2.l _ _ h2).sq,g1⟩,fun y H3 ⟨z1,z2⟩=>?_⟩
    subst z1
    have:=z2 vs (e2.l _ _ h2).sq
    rw [g1] at this;cases this
    exact ⟨g2,r2,Ext.refl _ _⟩
   ·exact ⟨vs,(e2.l _ _ h2).sq,by rw [← h3.length];exact Nat.le_of_eq hi⟩
  case ref n =>
   have f2:Fin X.K EX ρ1 H1 (fun src ρ' _ H'=>∀ J,JOK X.K src ρ' H' J->R J H') ((getL n >>= fun xs=>(pure (.lst n xs):M Src)) h1):=f1
   have f3:=Fin.bind f2
   cases e3:getL n h1 with
   | bad=>rw [e3] at f3;exact f3.elim
   | err z hz=>exact (z0j e3).elim
   | ok xs h3 =>
    obtain ⟨rfl,q1⟩:=z0i e3
    rw [e3] at f3
    simp only [RD] at rv
    obtain ⟨q,rfl,hq⟩:=rv
    obtain ⟨a1,n1,vs,o1,d1⟩:=r1.at q1
    rw [hq] at n1;cases n1
    have f4:=f3 ρ1 H1 (Pre.refl _) (Ext.refl _ _) r1
    refine ⟨q,rfl,⟨vs,SqL.of o1⟩,f4 ρ1 H1 (Pre.refl _) (Ext.refl _ _) r1 _ fun i ρ2 h4 H2 p2 e2 r2 g=>?_⟩
    have g':h4[n]?=some (.lst xs):=g
    obtain ⟨a2,n2,vs2,o2,d2⟩:=r2.at g'
    rw [p2 n q hq] at n2;cases n2
    refine ⟨fun d hd=>?_,fun hi=>⟨vs2,SqL.of o2,by rw [← d2.length];exact Nat.le_of_eq hi⟩⟩
    obtain ⟨x,g1,g2⟩:=d2.get hd
    refine ⟨⟨vs2,x,SqL.of o2,g1⟩,fun y H3 ⟨z1,z2⟩=>?_⟩
    subst z1
    have:=z2 vs2 (SqL.of o2)
    rw [g1] at this;cases this
    exact ⟨g2,r2,Ext.refl _ _⟩⟩⟩
def z0c (ma:G->M D):G->M Src:=fun γ=>do
 let x ← ma γ
 match x with
 | .tup xs=>pure (.con xs)
 | _=>bad
theorem v5 (ha:SE X EX a ma):SI X EX tg a (z0c ma) :=
 ⟨PI.imp (zI2 ha.h) fun σ H R ⟨ρ,γ,h,rel,fin⟩=>⟨ρ,γ,h,rel,(Fin.bind fin).mono fun x ρ1 h1 H1 p1 e1 r1 f1 v rv=>by
  cases x<;>first | exact (show False from f1).elim | skip
  rename_i xs
  simp only [RD] at rv
  obtain ⟨q,vs,rfl,h2,h3⟩:=rv
  refine ⟨q,rfl,⟨vs,h2⟩,f1 ρ1 H1 (Pre.refl _) (Ext.refl _ _) r1 _ fun i ρ2 h4 H2 p2 e2 r2 _=>⟨fun d hd=>?_,fun hi=>?_⟩⟩
  ·have h3':=h3.mono p2 e2
   obtain ⟨x,g1,g2⟩:=h3'.get hd
   refine ⟨⟨vs,x,e2.t _ _ h2,g1⟩,fun y H3 ⟨z1,z2⟩=>?_⟩
   subst z1
   have:=z2 vs (e2.t _ _ h2)
   rw [g1] at this;cases this
   exact ⟨g2,r2,Ext.refl _ _⟩
  ·exact ⟨vs,e2.t _ _ h2,by rw [← h3.length];exact Nat.le_of_eq hi⟩⟩⟩
def z0B (n:Nat):List D:=(List.range n).map fun (i:Nat)=>.int i
def z02 (ma:G->M D):G->M Src:=fun γ=>do
 let x ← ma γ
 match x with
 | .int j=>if -(2 ^ 62)≤j/\j<2 ^ 62 then pure (.con (z0B j.toNat)) else bad
 | _=>bad
theorem J9 (hg:Gl X "range") (hm:X.mg "range" = none) (ha:SE X EX a ma) (hs:starEach [a] X.env=[(false,eval a X.env)]:=by rfl):SI X EX tg (.Call (.Name "range" p) [a] [] pos) (z02 ma) :=
 ⟨PI.imp (z8O hg hm (z0d ha.h z17 hs) hs) fun σ H R ⟨ρ,γ,h,rel,fin⟩=>⟨ρ,γ,h,rel,(Fin.bind fin).mono fun x ρ1 h1 H1 p1 e1 r1 f1 v rv=>by
  cases x<;>first | exact (show False from f1).elim | skip
  rename_i j
  simp only [RD] at rv
  subst rv
  have f2:Fin X.K EX ρ1 H1 (fun src ρ' _ H'=>∀ J,JOK X.K src ρ' H' J->R J H') ((if -(2 ^ 62)≤j/\j<2 ^ 62 then pure (.con (z0B j.toNat)) else bad:M Src) h1):=f1
  by_cases hj:-(2 ^ 62)≤j/\j<2 ^ 62
  ·rw [if_pos hj] at f2
   refine ⟨j,rfl,hj.1,hj.2,f2 ρ1 H1 (Pre.refl _) (Ext.refl _ _) r1 _ fun i ρ2 h4 H2 p2 e2 r2 _=>⟨fun d hd=>?_,fun hi=>?_⟩⟩
   ·have hd':(z0B j.toNat)[i]?=some d:=hd
    unfold z0B at hd'
    rw [List.getElem?_map] at hd'
    have hi:i<j.toNat:=by
     by_cases hi:i<j.toNat
     ·exact hi
     ·rw [List.getElem?_eq_none (by simpa using hi)] at hd';cases hd'
    rw [List.getElem?_range hi] at hd'
    cases hd'
    refine ⟨hi,fun y H3 ⟨z1,z2⟩=>?_⟩
    subst z1;subst z2
    exact ⟨by simp [RD],r2,Ext.refl _ _⟩
   ·have hi':(z0B j.toNat).length=i:=hi
    unfold z0B at hi'
    rw [List.length_map,List.length_range] at hi'
    exact Nat.le_of_eq hi'
  ·rw [if_neg hj] at f2;exact f2.elim⟩⟩
end
noncomputable def forR (src:Src) (g:D->G->M G) (body:G->M Out):List D->G->M Out
 | [],γ=>do
  let _ ← src.chk
  pure (.nx γ)
 | d :: r,γ=>do
  let _ ← src.chk
  let γ1 ← g d γ
  let o ← body γ1
  match o with
  | .nx γ2=>forR src g body r γ2
  | .ct γ2=>forR src g body r γ2
  | .bk γ2=>pure (.nx γ2)
  | .rt v=>pure (.rt v)
noncomputable def sFor (mi:G->M Src) (g:D->G->M G) (body:G->M Out):G->M Out:=fun γ=>do
 let src ← mi γ
 forR src g body src.items γ
theorem z0J {K:PySem.W.Frag}{EX:XX}{ρ:List Addr}{H:Hp}{α:Type}{P:α->List Addr->AH->Hp->Prop}{src:Src}{f:Unit->M α}{h:AH}(fin:Fin K EX ρ H P ((src.chk >>= f) h)) (r:RH K ρ h H):src.good h/\Fin K EX ρ H P (f () h):=by
 have f1:=Fin.bind fin
 unfold Src.chk at f1
 split at f1
 ·rename_i hg
  exact ⟨hg,f1 ρ H (Pre.refl _) (Ext.refl _ _) r⟩
 ·exact f1.elim
section
variable {X:Cx}{EX:XX}{a o e tg c:Expr}{pos cpos apos p:Pos}{ma mo:G->M D}{mi:G->M Src}{g:D->G->M G}{mb:G->M Out}{sts:List Stmt}{kc:G->M Bool}
theorem z0A (hp:PassesOwn (model X.prog X.w) X.A X.env X.xe) (hc:X.calm=true) (hi:SI X EX tg e mi) (hg:SG X EX tg g) (hb:SB X EX sts mb) (hs:∀ x,foldedSetIterable e X.env x=pure x:=by intro _;rfl):S1 X EX (.For tg e sts [] pos) (sFor mi g mb) :=
 ⟨PS.imp (zx5 hp hc hi.h hg.h hb.h hs) fun σ H D ⟨ρ,γ,h,rel,fin⟩=>⟨ρ,γ,h,rel,(Fin.bind fin).mono fun src ρ0 h0 H0 p0 e0 r0 f0 J hJ=>by
  refine ⟨fun i m σ H=>m+i=src.items.length/\∃ ρ γ h,Pre ρ0 ρ/\Ext X.K H0 H/\Rel X.K ρ γ h σ H/\Fin X.K EX ρ H (fun o ρ' _ H'=>OutP X.K D o ρ' H') (forR src g mb (src.items.drop i) γ h),
   ⟨src.items.length,rfl,ρ0,γ,h0,Pre.refl _,Ext.refl _ _,⟨rel.g.mono p0 e0,r0⟩,f0⟩,?_⟩
  rintro i m σ1 H1 ⟨hm,ρ1,γ1,h1,p1,e1,rel1,f1⟩
  by_cases hi:i<src.items.length
  ·have hd:src.items.drop i=src.items[i] :: src.items.drop (i+1):=List.drop_eq_getElem_cons hi
   rw [hd] at f1
   unfold forR at f1
   obtain ⟨good,f2⟩:=z0J f1 rel1.h
   obtain ⟨j1,j2⟩:=hJ i ρ1 h1 H1 p1 e1 rel1.h good
   obtain ⟨go,yld⟩:=j1 src.items[i] (List.getElem?_eq_getElem hi)
   refine .inr ⟨go,fun σ' H'=>∃ ρ γ h,Pre ρ0 ρ/\Ext X.K H0 H'/\Rel X.K ρ γ h σ' H'/\Fin X.K EX ρ H' (fun o ρ' _ H'=>OutP X.K D o ρ' H') (forR src g mb (src.items.drop (i+1)) γ h),fun σ' H' z=>⟨m - 1,by omega,by omega,z⟩,fun x H2 y=>?_⟩
   obtain ⟨rd,rh,ext⟩:=yld x H2 y
   refine ⟨ρ1,γ1,h1,_,⟨rel1.g.mono (Pre.refl _) ext,rh⟩,rd,(Fin.bind (Fin.up (Pre.refl _) ext f2)).mono fun γ2 ρ3 h3 H3 p3 e3 r3 f3 σ3 g3=>⟨ρ3,γ2,h3,⟨g3,r3⟩,(Fin.bind f3).mono fun o ρ4 h4 H4 p4 e4 r4 f4=>?_⟩⟩
   have pp:Pre ρ0 ρ4:=(p1.trans p3).trans p4
   have ee:Ext X.K H0 H4:=((e1.trans ext).trans e3).trans e4
   cases o with
   | nx γ5=>exact fun σ5 g5=>⟨ρ4,γ5,h4,pp,ee,⟨g5,r4⟩,f4⟩
   | ct γ5=>exact fun σ5 g5=>⟨ρ4,γ5,h4,pp,ee,⟨g5,r4⟩,f4⟩
   | bk γ5=>exact fun σ5 g5=>f4 ρ4 H4 (Pre.refl _) (Ext.refl _ _) r4 σ5 g5
   | rt d=>exact fun v rv=>f4 ρ4 H4 (Pre.refl _) (Ext.refl _ _) r4 v rv
  ·have hd:src.items.drop i=[]:=List.drop_eq_nil_of_le (by omega)
   rw [hd] at f1
   unfold forR at f1
   obtain ⟨good,f2⟩:=z0J f1 rel1.h
   obtain ⟨j1,j2⟩:=hJ i ρ1 h1 H1 p1 e1 rel1.h good
   exact .inl ⟨j2 (by omega),f2 ρ1 H1 (Pre.refl _) (Ext.refl _ _) rel1.h σ1 rel1.g⟩⟩⟩
def z1F (k:G->M Bool) (body:G->M Out):Nat->G->M Out
 | 0,_=>bad
 | n+1,γ=>do
  let t ← k γ
  if t then do
   let o ← body γ
   match o with
   | .nx γ2=>z1F k body n γ2
   | .ct γ2=>z1F k body n γ2
   | .bk γ2=>pure (.nx γ2)
   | .rt v=>pure (.rt v)
  else pure (.nx γ)
theorem zp3 (n:Nat) (hp:PassesOwn (model X.prog X.w) X.A X.env X.xe) (hc:SC X EX c kc) (hb:SB X EX sts mb):S1 X EX (.While c sts [] pos) (z1F kc mb n) :=
 ⟨PS.imp (z9H hp hc.h hb.h) fun σ H D ⟨ρ,γ,h,rel,fin⟩=>by
  refine ⟨fun m σ H=>∃ ρ γ h,Rel X.K ρ γ h σ H/\Fin X.K EX ρ H (fun o ρ' _ H'=>OutP X.K D o ρ' H') (z1F kc mb m γ h),⟨n,ρ,γ,h,rel,fin⟩,?_⟩
  rintro m σ1 H1 ⟨ρ1,γ1,h1,rel1,f1⟩
  cases m with
  | zero=>exact (show False from f1).elim
  | succ m =>
   unfold z1F at f1
   refine ⟨ρ1,γ1,h1,rel1,(Fin.bind f1).mono fun t ρ2 h2 H2 p2 e2 r2 f2=>?_⟩
   cases t with
   | false=>exact f2 ρ2 H2 (Pre.refl _) (Ext.refl _ _) r2 σ1 (rel1.g.mono p2 e2)
   | true =>
    rw [if_pos rfl] at f2 ⊢
    refine ⟨fun σ' H'=>∃ ρ γ h,Rel X.K ρ γ h σ' H'/\Fin X.K EX ρ H' (fun o ρ' _ H'=>OutP X.K D o ρ' H') (z1F kc mb m γ h),fun σ' H' z=>⟨m,by omega,z⟩,ρ2,γ1,h2,⟨rel1.g.mono p2 e2,r2⟩,(Fin.bind f2).mono fun o ρ4 h4 H4 p4 e4 r4 f4=>?_⟩
    cases o with
    | nx γ5=>exact fun σ5 g5=>⟨ρ4,γ5,h4,⟨g5,r4⟩,f4⟩
    | ct γ5=>exact fun σ5 g5=>⟨ρ4,γ5,h4,⟨g5,r4⟩,f4⟩
    | bk γ5=>exact fun σ5 g5=>f4 ρ4 H4 (Pre.refl _) (Ext.refl _ _) r4 σ5 g5
    | rt d=>exact fun v rv=>f4 ρ4 H4 (Pre.refl _) (Ext.refl _ _) r4 v rv⟩
end
def capG (cap:List (Option Nat)) (γ:G):G:=cap.map fun o=>match o with | some j=>(γ[j]?).join | none=>none
theorem z4g {K:PySem.W.Frag}{ρ:List Addr}{H:Hp}{γ:G}{σ:L2.St}(cap:List (Option Nat)) (r:RG K ρ H γ σ):RG K ρ H (capG cap γ) (Y1 cap σ):=by
 refine ⟨by simp [capG,Y1],fun i d e=>?_⟩
 unfold capG at e
 unfold Y1
 rw [List.getElem?_map] at e ⊢
 cases q:cap[i]? with
 | none=>rw [q] at e;cases e
 | some o =>
  rw [q] at e
  cases o with
  | none=>simp at e
  | some j =>
   have e2:(γ[j]?).join=some d:=by simpa using e
   have e3:γ[j]?=some (some d):=by
    cases q2:γ[j]? with
    | none=>rw [q2] at e2;simp at e2
    | some o2=>rw [q2] at e2;simp at e2;rw [e2]
   obtain ⟨v,h1,h2⟩:=r.var j d e3
   exact ⟨v,by simp [h1],h2⟩
noncomputable def z0S (src:Src) (g:D->G->M G) (k:G->M Bool) (me:G->M D) (n0:Nat) (γ:G):List D->M Unit
 | []=>do
  let _ ← src.chk
  pure ()
 | d :: r=>do
  let _ ← src.chk
  let γ1 ← g d γ
  let t ← k γ1
  if t then do
   let v ← me γ1
   let _ ← y8 n0 v
   z0S src g k me n0 γ r
  else z0S src g k me n0 γ r
noncomputable def x5 (cap:List (Option Nat)) (mi:G->M Src) (g:D->G->M G) (k:G->M Bool) (me:G->M D):G->M D:=fun γ=>do
 let src ← mi γ
 let n0 ← (fun h=>.ok h.length (h++[.lst []]):M Nat)
 let _ ← z0S src g k me n0 (capG cap γ) src.items
 pure (.ref n0)
structure SCs (X:Cx) (EX:XX) (ifs:List Expr) (m:G->M Bool):Prop where
 h:PTs X ifs (tT X.K EX m)
theorem PTs.imp {X:Cx}{e:List Expr}{t t':TT}(h:PTs X e t) (f:∀ σ H Q,t' σ H Q->t σ H Q):PTs X e t':=fun pins s σ H Q I z=>h pins s σ H Q I (f σ H Q z)
section
variable {X:Cx}{EX:XX}{elt tg iter c:Expr}{ifs:List Expr}{sc:Scope}{pos:Pos}{N':List Str}{cap:List (Option Nat)}{own:List Nat}{mi:G->M Src}{g:D->G->M G}{k kr:G->M Bool}{me:G->M D}
theorem Y5:SCs X EX [] (fun _=>pure true):=⟨PTs.imp z8V fun σ H Q ⟨ρ,γ,h,rel,fin⟩=>fin ρ H (Pre.refl _) (Ext.refl _ _) rel.h⟩
theorem z0b (h:SC X EX c k):SCs X EX [c] k:=⟨PTs.imp (z9E h.h z8V) fun σ H Q ⟨ρ,γ,h,rel,fin⟩=>⟨ρ,γ,h,rel,fin.mono fun t ρ1 h1 H1 p1 e1 r1 f1=>by
 cases t with
 | true=>exact f1
 | false=>exact f1⟩⟩
theorem z6J {σ:L2.St}{H0:Hp}{ρ0:List Addr}{h0:AH}{γ:G}{src:Src}{J:It}{Dd:Addr}{P:Hp->Prop}(r0:RH X.K ρ0 h0 H0) (rg:RG X.K ρ0 H0 γ σ) (hJ:JOK X.K src ρ0 H0 J) (hD:H0 Dd=none) (hown:∀ j∈own,cap[j]?=some none)
 (fin:Fin X.K EX (ρ0++[Dd]) (upd H0 Dd (.lst [])) (fun _ ρ' h' H'=>ρ'[h0.length]?=some Dd->RH X.K ρ' h' H'->Ext X.K (upd H0 Dd (.lst [])) H'->Pre (ρ0++[Dd]) ρ'->P H') (z0S src g k me h0.length (capG cap γ) src.items (h0++[.lst []]))) :
 z4b cap (tGk X.K EX own g) (tT X.K EX k) (tE X.K EX me) σ J Dd P (upd H0 Dd (.lst [])):=by
 have rP:=r0.push hD (RDs.nil (K:=X.K) (ρ:=ρ0) (H:=H0))
 have eP:Ext X.K H0 (upd H0 Dd (.lst [])):=Ext.upd (.inl hD)
 have at0:(ρ0++[Dd])[h0.length]?=some Dd:=by rw [← r0.len];simp
 refine ⟨fun i m H=>m+i=src.items.length/\∃ ρ h,Pre (ρ0++[Dd]) ρ/\Ext X.K (upd H0 Dd (.lst [])) H/\RH X.K ρ h H /\
  Fin X.K EX ρ H (fun _ ρ' h' H'=>ρ'[h0.length]?=some Dd->RH X.K ρ' h' H'->Ext X.K (upd H0 Dd (.lst [])) H'->Pre (ρ0++[Dd]) ρ'->P H') (z0S src g k me h0.length (capG cap γ) (src.items.drop i) h),
  ⟨src.items.length,rfl,_,_,Pre.refl _,Ext.refl _ _,rP,fin⟩,?_⟩
 rintro i m H1 ⟨hm,ρ1,h1,p1,e1,r1,f1⟩
 have p01:Pre ρ0 ρ1:=(Pre.app _ _).trans p1
 have e01:Ext X.K H0 H1:=eP.trans e1
 by_cases hi:i<src.items.length
 ·have hd:src.items.drop i=src.items[i] :: src.items.drop (i+1):=List.drop_eq_getElem_cons hi
  rw [hd] at f1
  unfold z0S at f1
  obtain ⟨good,f2⟩:=z0J f1 r1
  obtain ⟨j1,j2⟩:=hJ i ρ1 h1 H1 p01 e01 r1 good
  obtain ⟨go,yld⟩:=j1 src.items[i] (List.getElem?_eq_getElem hi)
  refine .inr ⟨go,fun x H2 y=>?_⟩
  obtain ⟨rd,rh,ext⟩:=yld x H2 y
  have rgc:RG X.K ρ1 H2 (capG cap γ) (Y1 cap σ):=(z4g cap rg).mono p01 (e01.trans ext)
  refine ⟨ρ1,_,h1,_,⟨rgc,rh⟩,rd,(Fin.bind (Fin.up (Pre.refl _) ext f2)).mono fun γ2 ρ3 h3 H3 p3 e3 r3 f3 σ3 g3 k3=>⟨fun j v hv=>?_,ρ3,γ2,h3,⟨g3,r3⟩,(Fin.bind f3).mono fun t ρ4 h4 H4 p4 e4 r4 f4=>?_⟩⟩
  ·rw [k3 j fun hj=>?_]
   ·exact hv
   ·have z:=hown j hj
    unfold Y1 at hv
    rw [List.getElem?_map,z] at hv
    simp at hv
  ·have pp:Pre (ρ0++[Dd]) ρ4:=(p1.trans p3).trans p4
   have ee:Ext X.K (upd H0 Dd (.lst [])) H4:=((e1.trans ext).trans e3).trans e4
   cases t with
   | false =>
    rw [if_neg (by decide)] at f4
    dsimp only
    rw [if_neg (by decide)]
    exact ⟨m - 1,by omega,by omega,ρ4,h4,pp,ee,r4,f4⟩
   | true =>
    rw [if_pos rfl] at f4
    dsimp only
    rw [if_pos rfl]
    refine ⟨ρ4,γ2,h4,⟨g3.mono p4 e4,r4⟩,(Fin.bind f4).mono fun d ρ5 h5 H5 p5 e5 r5 f5 v rv=>?_⟩
    have hq:ρ5[h0.length]?=some Dd:=(pp.trans p5) _ _ at0
    have f6:=Fin.bind f5
    unfold y8 updL at f6
    cases e7:h5[h0.length]? with
    | none=>rw [e7] at f6;exact f6.elim
    | some ob =>
     cases ob with
     | set ks=>rw [e7] at f6;exact f6.elim
     | dct=>rw [e7] at f6;exact f6.elim
     | dK kvs=>rw [e7] at f6;exact f6.elim
     | dF kvs=>rw [e7] at f6;exact f6.elim
     | exc c=>rw [e7] at f6;exact f6.elim
     | lst xs =>
      rw [e7] at f6
      dsimp only at f6
      split at f6
      ·rename_i hl
       obtain ⟨a1,n1,vs,o1,d1⟩:=r5.at e7
       rw [hq] at n1;cases n1
       have dd:=d1.append (RDs.cons rv RDs.nil)
       have ext2:Ext X.K H5 (upd H5 Dd (.lst (vs++[v]))):=Ext.upd (.inr ⟨_,o1,trivial⟩)
       have r6:=r5.set e7 hq dd
       rw [List.length_append,List.length_singleton] at hl
       have hl2:=d1.length
       exact ⟨vs,o1,by omega,m - 1,by omega,by omega,ρ5,_,pp.trans p5,(ee.trans e5).trans ext2,r6,f6 ρ5 _ (Pre.refl _) ext2 r6⟩
      ·exact f6.elim
 ·have hd:src.items.drop i=[]:=List.drop_eq_nil_of_le (by omega)
  rw [hd] at f1
  unfold z0S at f1
  obtain ⟨good,f2⟩:=z0J f1 r1
  obtain ⟨j1,j2⟩:=hJ i ρ1 h1 H1 p01 e01 r1 good
  exact .inl ⟨j2 (by omega),f2 ρ1 H1 (Pre.refl _) (Ext.refl _ _) r1 (p1 _ _ at0) r1 e1 p1⟩
theorem J0 (hc:X.calm=true) (S:CS X sc N' cap) (hi:SI X EX tg iter mi) (hg:∀ s H fp xe,SGk (X.comp N' sc s H fp xe) EX tg own g) (ht:∀ s H fp xe,SCs (X.comp N' sc s H fp xe) EX ifs k)
 (he:∀ s H fp xe,SE (X.comp N' sc s H fp xe) EX elt me) (hown:∀ j∈own,cap[j]?=some none:=by decide) (hs:∀ x,foldedSetIterable iter X.env x=pure x:=by intro _;rfl):SE X EX (.ListComp elt [⟨tg,iter,ifs,0⟩] sc pos) (x5 cap mi g k me) :=
 ⟨PE.imp (zl6 (g:=tGk X.K EX own g) (ti:=tT X.K EX k) (te:=tE X.K EX me) hc S hi.h (fun s H fp xe=>(hg s H fp xe).h) (fun s H fp xe=>(ht s H fp xe).h) (fun s H fp xe=>(he s H fp xe).h) hs) fun σ H Q ⟨ρ,γ,h,rel,fin⟩=>⟨ρ,γ,h,rel,(Fin.bind fin).mono fun src ρ0 h0 H0 p0 e0 r0 f0 J hJ Dd hD=>by
  have rP:=r0.push hD (RDs.nil (K:=X.K) (ρ:=ρ0) (H:=H0))
  have eP:Ext X.K H0 (upd H0 Dd (.lst [])):=Ext.upd (.inl hD)
  have f1:=Fin.bind f0
  have f2:=f1 (ρ0++[Dd]) _ (Pre.app _ _) eP rP
  refine z6J r0 (rel.g.mono p0 e0) hJ hD hown ((Fin.bind f2).mono fun _ ρ5 h5 H5 p5 e5 r5 f5 hat rr ee pp=>?_)
  refine FE.here (d:=.ref h0.length) (h:=h5) f5 rr ?_
  simp only [RD]
  exact ⟨Dd,rfl,hat⟩⟩⟩
noncomputable def z2A (i:Nat) (cap:List (Option Nat)) (mi:G->M Src) (g:D->G->M G) (k:G->M Bool) (me:G->M D):G->M Out:=sAsg (x5 cap mi g k me) (gN i)
theorem z3M (i:Nat) {y:Str}{py spos:Pos}(hc:X.calm=true) (S:CS X sc N' cap) (hi:SI X EX tg iter mi) (hg:∀ s H fp xe,SGk (X.comp N' sc s H fp xe) EX tg own g) (ht:∀ s H fp xe,SCs (X.comp N' sc s H fp xe) EX ifs k)
 (he:∀ s H fp xe,SE (X.comp N' sc s H fp xe) EX elt me) (hN:X.N.Nodup) (hy:X.N[i]?=some y:=by rfl) (hl:X.env.scope.names.lookup y=some .local:=by rfl) (hown:∀ j∈own,cap[j]?=some none:=by decide)
 (hsw:swapsWith (.ListComp elt [⟨tg,iter,ifs,0⟩] sc pos) (some (.Name y py)) spos.line X.env=pure true:=by rfl) (hs:∀ x,foldedSetIterable iter X.env x=pure x:=by intro _;rfl) :
 S1 X EX (.Assign [.Name y py] (.ListComp elt [⟨tg,iter,ifs,0⟩] sc pos) spos) (z2A i cap mi g k me) :=
 ⟨PS.imp (zi9 (g:=tGk X.K EX own g) (ti:=tT X.K EX k) (te:=tE X.K EX me) hc S hi.h (fun s H fp xe=>(hg s H fp xe).h) (fun s H fp xe=>(ht s H fp xe).h) (fun s H fp xe=>(he s H fp xe).h) hN hy hl hsw hs) fun σ H D ⟨ρ,γ,h,rel,fin⟩=>⟨ρ,γ,h,rel,(Fin.bind (Fin.bind fin)).mono fun src ρ0 h0 H0 p0 e0 r0 f0 J hJ Dd hD=>by
  have rP:=r0.push hD (RDs.nil (K:=X.K) (ρ:=ρ0) (H:=H0))
  have eP:Ext X.K H0 (upd H0 Dd (.lst [])):=Ext.upd (.inl hD)
  have f1:=Fin.bind f0
  have f2:=f1 (ρ0++[Dd]) _ (Pre.app _ _) eP rP
  refine z6J r0 (rel.g.mono p0 e0) hJ hD hown ((Fin.bind f2).mono fun _ ρ5 h5 H5 p5 e5 r5 f5 hat rr ee pp=>?_)
  have f6:=f5 ρ5 H5 (Pre.refl _) (Ext.refl _ _) rr
  have f7:=f6 ρ5 H5 (Pre.refl _) (Ext.refl _ _) rr
  refine f7 _ (RG.set (((rel.g.mono p0 e0).mono (Pre.app _ _) eP).mono pp ee) i ?_)
  simp only [RD]
  exact ⟨Dd,rfl,hat⟩⟩⟩
end
def csOk (osc:Scope) (N:List Str) (sc:Scope) (N':List Str) (cap:List (Option Nat)):Bool :=
 (sc.kind == .function) && sc.names.all (fun y=>y.2 != .cell) && sc.names.all (fun x=>x.2 != .local || sc.names.lookup x.1 == some .local) &&
 sc.names.all (fun x=>x.2 != .free || (osc.names.lookup x.1 == some .cell || osc.names.lookup x.1 == some .free)) && (cap.length == N'.length) &&
 (List.range cap.length).all fun i=>match cap[i]? with
  | some (some j)=>(match N'[i]?,N[j]? with
   | some x,some y=>x == y && sc.names.lookup x == some .free
   | _,_=>false)
  | _=>true
theorem v8 {X:Cx}{sc:Scope}{N':List Str}{cap:List (Option Nat)}(h:csOk X.env.scope X.N sc N' cap=true):CS X sc N' cap:=by
 unfold csOk at h
 simp only [Bool.and_eq_true] at h
 obtain ⟨⟨⟨⟨⟨h1,h2⟩,h3⟩,h4⟩,h5⟩,h6⟩:=h
 refine ⟨by simpa using h1,fun y hy=>?_,fun x hx hl=>?_,fun x hx hf=>?_,by simpa using h5,fun i j e=>?_⟩
 ·have:=List.all_eq_true.mp h2 y hy
  simpa using this
 ·have:=List.all_eq_true.mp h3 x hx
  simpa [hl] using this
 ·have:=List.all_eq_true.mp h4 x hx
  have:(X.env.scope.names.lookup x.1 == some .cell || X.env.scope.names.lookup x.1 == some .free)=true:=by simpa [hf] using this
  rw [Bool.or_eq_true] at this
  rcases this with z | z
  ·exact .inl (show X.env.scope.names.lookup x.1=_ by simpa using z)
  ·exact .inr (show X.env.scope.names.lookup x.1=_ by simpa using z)
 ·have hi:i<cap.length:=(List.getElem?_eq_some_iff.mp e).1
  have:=List.all_eq_true.mp h6 i (List.mem_range.mpr hi)
  rw [e] at this
  dsimp only at this
  cases e1:N'[i]? with
  | none=>rw [e1] at this;cases this
  | some x =>
   cases e2:X.N[j]? with
   | none=>rw [e1,e2] at this;cases this
   | some y =>
    rw [e1,e2] at this
    simp only [Bool.and_eq_true] at this
    have exy:x=y:=by simpa using this.1
    subst exy
    exact ⟨x,rfl,rfl,by simpa using this.2⟩
def Y0 (K:PySem.W.Frag) (x:Str) (st:Stmt):Prop:=∃ f fd,PySem.W.nsIn K mainGlobals x=some (some (.ref f))/\Fun K x x st f fd
theorem zJ3 {K:PySem.W.Frag}{x:Str}{st:Stmt}{f:Addr}{oc:Value}{od an:Option Addr}{sl:Array (Option Value)}{kV dc pm cd ct:Value}(a:PySem.W.nsIn K mainGlobals x=some (some (.ref f)))
 (l:K.lookup f=some ⟨oc,od,.func (PySem.W.fnOf x x (z1O st) (z0h st) (j8 st) .none kV dc pm an cd ct),sl⟩) (c:PySem.W.codeIn K cd x=true) (k:PySem.W.keepIn K (.ref f)=true):Y0 K x st :=
 ⟨f,_,a,zx4 l c k⟩
structure Cst (K:PySem.W.Frag) (mg:Str->Option Value) (x:Str) (d:D):Prop where
 ex:∃ v u,mg x=some u/\RelV v u/\∀ ρ H,RD K ρ H d v
theorem zQ2 {K:PySem.W.Frag}{mg:Str->Option Value}{x:Str}{i:Int}{t:Tok}(h:mg x=some (.int i t)):Cst K mg x (.int i):=⟨.int i,_,h,⟨t,rfl⟩,fun _ _=>by simp [RD]⟩
def relF:D->Value->Bool
 | .non,.none=>true
 | .bl a,.bool b=>a == b
 | .int a,.int b _=>a == b
 | .str a,.str b _=>a == b
 | _,_=>false
def zc6:List D->List Value->Bool
 | [],[]=>true
 | d :: ds,u :: us=>relF d u && zc6 ds us
 | _,_=>false
def toV:D->V
 | .non=>.non
 | .bl b=>.bl b
 | .int i=>.int i
 | .str x=>.str x
 | _=>.non
theorem zo2 {K:PySem.W.Frag}{ρ:List Addr}{H:Hp}{d:D}{u:Value}(h:relF d u=true):RelV (toV d) u/\RD K ρ H d (toV d):=by
 cases d<;>cases u<;>first
  | (have h':false=true:=h;cases h')
  | skip
 case non.none=>exact ⟨rfl,by simp [RD,toV]⟩
 case bl.bool a b =>
  have:a=b:=by simpa [relF] using h
  subst this;exact ⟨rfl,by simp [RD,toV]⟩
 case int.int a b t =>
  have:a=b:=by simpa [relF] using h
  subst this;exact ⟨⟨t,rfl⟩,by simp [RD,toV]⟩
 case str.str a b t =>
  have:a=b:=by simpa [relF] using h
  subst this;exact ⟨⟨t,rfl⟩,by simp [RD,toV]⟩
theorem z66 {K:PySem.W.Frag}{ρ:List Addr}{H:Hp}:∀ {ds:List D}{us:List Value},zc6 ds us=true->Vals (ds.map toV) us/\RDs K ρ H ds (ds.map toV)
 | [],[],_=>⟨.nil,RDs.nil⟩
 | [],_ :: _,h=>by cases h
 | _ :: _,[],h=>by cases h
 | d :: ds,u :: us,h=>by
  have h':(relF d u && zc6 ds us)=true:=h
  rw [Bool.and_eq_true] at h'
  obtain ⟨a1,a2⟩:=zo2 (K:=K) (ρ:=ρ) (H:=H) h'.1
  obtain ⟨b1,b2⟩:=z66 (K:=K) (ρ:=ρ) (H:=H) h'.2
  exact ⟨.cons a1 b1,RDs.cons a2 b2⟩
theorem zL7 {K:PySem.W.Frag}{mg:Str->Option Value}{x:Str}{a:Addr}{ds:List D}{its:Array Value}{n:Nat}{sl:Array (Option Value)}(h:mg x=some (.ref a)) (hk:K.lookup a=some ⟨.type "tuple",none,.seq its n,sl⟩)
 (hr:zc6 ds its.toList=true) (hz:its.size≤sizeLine):Cst K mg x (.tup ds):=by
 refine ⟨.ref a,_,h,rfl,fun ρ H=>?_⟩
 obtain ⟨h1,h2⟩:=z66 (K:=K) (ρ:=ρ) (H:=H) hr
 simp only [RD]
 exact ⟨a,_,rfl,.inr ⟨_,its,n,hk,⟨rfl,rfl⟩,rfl,hz,h1⟩,h2⟩
theorem ze7 {X:Cx}{EX:XX}{x:Str}{d:D}{pos:Pos}(C:Cst X.K X.mg x d) (hg:Gl X x) (hd:(x == ("__debug__":Str))=false:=by decide):SE X EX (.Name x pos) (fun _=>pure d):=by
 obtain ⟨v,u,h1,h2,h3⟩:=C.ex
 exact zu6 hg h1 h2 h3 hd
section
variable {prog:Program}{w:World}{A:Around}{E:Value->Shared->Prop}{s:Shared}
theorem zs3 {it t:Addr}{i:Nat}{items:Array Value}{x:Value}{Q:Value->Shared->Prop}(hit:s.heap.IsTupleIter it t i) (ht:s.heap.IsTuple t items) (hx:items[i]?=some x)
 (hQ:∀ h',h'.IsTupleIter it t (i+1)->Heap.SameBut it s.heap h'->Q x { s with heap:=h' }):wpAny (model prog w) A (Builtin.SmallTypes.nextOf (.ref it)) Q E s:=by
 obtain ⟨oi,e1,c1,d1⟩:=id hit
 obtain ⟨ot,e2,_,nt,d2⟩:=ht
 unfold Builtin.SmallTypes.nextOf
 refine wpAny_bind (wpAny_callSpecial?_slot (name:=Str.ofString "__next__") hit.typeIs PySem.F.slot_tuple_iterator_next
  (wpAny_call_entry PySem.F.slot_tuple_iterator_next hit.typeIs PySem.F.entry_tuple_iterator_next ?_ (PySem.F.args_tuple_iterator_next_1 _)))
 show wpAny _ _ (field (.ref it) 0 >>= _) _ _ s
 refine wpAny_bind (wpAny_field e1 d1 (x:=.ref t) rfl ?_)
 show wpAny _ _ (if (Value.ref t == Value.none)=true then _ else _) _ _ s
 have nn:¬ (Value.ref t == Value.none)=true:=Bool.false_ne_true
 rw [if_neg nn]
 show wpAny _ _ (field (.ref it) 1 >>= _) _ _ s
 refine wpAny_bind (wpAny_field e1 d1 (x:=.int i 0) rfl ?_)
 show wpAny _ _ (seqItems? (.ref t) >>= _) _ _ s
 refine wpAny_bind (wpAny_seqItems e2 d2 ?_)
 simp only [Int.toNat_natCast,hx]
 refine wpAny_bind (wpAny_setField e1 d1 (by simp) (wpAny_pure ⟨x,rfl,wpAny_pure (hQ _ ?_ (Heap.SameBut.update ..))⟩))
 exact ⟨_,Heap.get?_update_self _ e1 (Obj.isFreed_of_fields (Obj.data_mapFields d1 _)),(Obj.cls_mapFields ..).trans c1,by
  rw [Obj.data_mapFields d1];simp [rawInt]⟩
theorem zF0 {it t:Addr}{i:Nat}{items:Array Value}{Q:Value->Shared->Prop}(hh:A.handled=none) (hit:s.heap.IsTupleIter it t i) (ht:s.heap.IsTuple t items) (hx:items[i]?=none)
 (hE:∀ h' e,Heap.ExtBut it s.heap h'->(∃ o,h'.get? e=some o/\o.cls=.type "StopIteration")->E (.ref e) { s with heap:=h' }):wpAny (model prog w) A (Builtin.SmallTypes.nextOf (.ref it)) Q E s:=by
 obtain ⟨oi,e1,c1,d1⟩:=id hit
 obtain ⟨ot,e2,_,nt,d2⟩:=ht
 unfold Builtin.SmallTypes.nextOf
 refine wpAny_bind (wpAny_callSpecial?_slot (name:=Str.ofString "__next__") hit.typeIs PySem.F.slot_tuple_iterator_next
  (wpAny_call_entry PySem.F.slot_tuple_iterator_next hit.typeIs PySem.F.entry_tuple_iterator_next ?_ (PySem.F.args_tuple_iterator_next_1 _)))
 show wpAny _ _ (field (.ref it) 0 >>= _) _ _ s
 refine wpAny_bind (wpAny_field e1 d1 (x:=.ref t) rfl ?_)
 show wpAny _ _ (if (Value.ref t == Value.none)=true then _ else _) _ _ s
 have nn:¬ (Value.ref t == Value.none)=true:=Bool.false_ne_true
 rw [if_neg nn]
 show wpAny _ _ (field (.ref it) 1 >>= _) _ _ s
 refine wpAny_bind (wpAny_field e1 d1 (x:=.int i 0) rfl ?_)
 show wpAny _ _ (seqItems? (.ref t) >>= _) _ _ s
 refine wpAny_bind (wpAny_seqItems e2 d2 ?_)
 simp only [Int.toNat_natCast,hx]
 refine wpAny_bind (wpAny_rule (wpAny_bind (wpAny_setField e1 d1 (by simp) ?_)))
 show wpAny _ _ (newExc (.type "StopIteration") [] >>= _) _ _ _
 refine wpAny_bind ?_
 simp only [newExc,newTuple]
 refine wpAny_bind (wpAny_newObj_type ?_ (by size_fits))
 refine wpAny_bind (m:=firstArgMember _ _) (wpAny_of_eq (a:=Value.none) (by first | rfl | (simp only [firstArgMember];rfl)) ?_)
 refine wpAny_newObj_type ?_ (by size_fits)
 simp only [raiseNew]
 refine wpAny_bind (wpAny_handled ?_)
 first | rw [show A.in1.handled=none from hh] | rw [hh]
 refine wpAny_bind (wpAny_pure (wpAny_throw ?_))
 exact hE _ _ (((Heap.SameBut.update ..).extBut.push _).push _) ⟨_,Heap.get?_push_size _ rfl,rfl⟩
end
theorem zy1 {X:Cx}{pins:List (Addr×Obj)}{σ:L2.St}{H:Hp}{s:Shared}{ch:List Addr}{T:Addr}{vs:List V}{its:List Value}{h2:Heap}{t:Nat}(I:L2.Inv X pins σ H s)
 (hf:∀ b∈ch,FpOk X pins H b) (kp:∀ b o,b∉ch->s.heap.get? b=some o->h2.get? b=some o) (hT:s.heap.objs.size≤T) (tup:IsTup0 h2 T its.toArray) (rv:Vals vs its) (hz:vs.length≤sizeLine) :
 L2.Inv X pins σ (upd H T (.tup vs)) { s with heap:=h2,toks:=t }:=by
 have hn:H T=none:=I.hok.fresh hT
 have ne:∀ {b:Addr} {o:Obj},s.heap.get? b=some o->b≠T:=fun e=>Nat.ne_of_lt (Nat.lt_of_lt_of_le (Heap.lt_size e) hT)
 refine I.step (g':=s.gens) (d':=s.drawn) (ch:=ch) (fun b hb=>⟨(hf b hb).2.2.2.1,(hf b hb).2.1,(hf b hb).2.2.2.2.1,(hf b hb).2.2.2.2.2⟩) (fun b o _ _ hc e _=>kp b o hc e) (fun b o _ _ hc e _=>⟨o.slots,kp b o hc e⟩)
  (fun b o _ e n=>by rw [y6 (ne e)];exact n) (fun b o hc e=>⟨o,kp b o hc e⟩) (fun b xs e=>by rw [y6 (J2 e hn)];exact e) (fun b o u e=>by rw [y6 (J2 e hn)];exact e)
  (fun b ps e=>⟨#[],by rw [y6 (J2 e hn),e];simp⟩) (fun m hm=>?_) (fun b u e=>?_) I.bare
 ·obtain ⟨o,es,ep,q,r⟩:=hm
  exact ⟨o,es,ep,kp _ o (fun z=>(hf _ z).2.1 rfl) q,r⟩
 ·by_cases hb:b=T
  ·subst hb
   rw [y0] at e
   cases e
   exact ⟨hz,its,rv,tup⟩
  ·rw [y6 hb] at e
   refine (I.hok b u e).stay (fun c v hc q=>kp c v (fun z=>?_) q) (fun c q=>?_) fun c xs q=>?_
   ·rcases hc with y | y
    ·rw [y] at z;rw [(hf b z).1] at e;cases e
    ·rw [(hf c z).1] at y;cases y
   ·rw [y6 (J2 q hn)];exact q
   ·rw [y6 (J2 q hn)];exact q
section
variable {X:Cx}{EX:XX}{a b:Expr}{elts:List Expr}{kk:Nat}{p pos pt:Pos}{ma mb:G->M D}
end
def Its (x:Str):It:=⟨fun i _=>i<x.cps.size,fun i H v H'=>H'=H/\∃ c,x.cps[i]?=some c/\v=.str ⟨#[c]⟩,fun i _=>x.cps.size=i⟩
theorem z69 {P:Program}{w:World}{K:PySem.W.Frag}{tg:Expr}{it:Addr}{x:Str}{t:Tok}{T:String}
 (W:∀ A:Around,A.handled=none->Walks P w A it [it] [it] x.cps.size (SignAt x) (fun i h=>h.IsStrIter it T x t i))
 (hself:∀ (A:Around) (i:Nat) (s:Shared) (Q:Value->Shared->Prop) (E:Value->Shared->Prop),s.heap.IsStrIter it T x t i->Q (.ref it) s->wpAny (model P w) A (pyIter (.ref it)) Q E s):Turn P w K tg (Its x) [it] it (fun i h=>h.IsStrIter it T x t i) where
 mem:=by simp
 obj:=fun i h st b hb=>by
  have e:b=it:=by simpa using hb
  subst e
  obtain ⟨o,e1,c1,d1⟩:=st
  exact ⟨o,e1,fun v z=>by rw [d1] at z;cases z⟩
 keep:=fun i h h' st k=>let ⟨o,e1,r⟩:=st;⟨o,k it (by simp) o e1,r⟩
 item:=by
  intro X hP hw hK hc i pins s σ H E I hf st hg
  subst hP hw hK
  obtain ⟨f0,f1,f2,f3,f4,f5⟩:=hf it (by simp)
  refine (W X.A (I.ok.hd hc)).item i s _ _ hg st fun v h' tk hv st' kp=>?_
  obtain ⟨c,u,q1,rfl⟩:=hv
  have I1:L2.Inv X pins σ H { s with heap:=h',toks:=tk }:=I.turned (fun b o hb e=>kp b o (by simpa using hb) e) f0 f1 f3 f4 f5
  refine ⟨_,rfl,?_⟩
  have go:letOwnedTupleGo tg (.ref it) (Value.str ⟨#[c]⟩ u)=pure ():=by cases tg<;>rfl
  rw [go]
  exact wpAny_pure ⟨.str ⟨#[c]⟩,H,I1,⟨_,rfl⟩,⟨rfl,c,q1,rfl⟩,st',fun b hb=>(hf b hb).1⟩
 done:=by
  intro X hP hw hK hc i pins s σ H E I hf st hg
  subst hP hw hK
  obtain ⟨f0,f1,f2,f3,f4,f5⟩:=hf it (by simp)
  have hg':x.cps.size=i:=hg
  subst hg'
  exact (W X.A (I.ok.hd hc)).done s _ _ st fun h' tk kp=>⟨rfl,I.turned (fun b o hb e=>kp b o (by simpa using hb) e) f0 f1 f3 f4 f5⟩
 self:=hself
section
variable {X:Cx}{EX:XX}{a b:Expr}{tg:Expr}{p pos p2:Pos}{ma mb:G->M D}
def zM4 (ta:TE):TI:=fun σ H R=>ta σ H fun v H1=>∃ x,v=.str x/\R (Its x) H1
theorem zz2 {ta:TE}(ha:PE X a ta):PI X tg a (zM4 ta):=by
 intro pins s σ H R I h
 refine thn (ha pins s σ H _ I h) fun v s1 ⟨y,H1,I1,r1,q1⟩=>?_
 obtain ⟨x,rfl,q⟩:=q1
 obtain ⟨t,rfl⟩:=r1
 have fo:∀ b∈[s1.heap.objs.size],FpOk X pins H1 b:=fun b hb=>by
  have e:b=s1.heap.objs.size:=by simpa using hb
  subst e
  exact I1.fpOk (Nat.le_refl _) (I1.hok.fresh (Nat.le_refl _))
 cases ha':x.cps.all (·<128)
 ·refine wpAny_pyIter_wide ha' ?_
  exact ⟨s1.heap.objs.size,[s1.heap.objs.size],_,_,H1,rfl,I1.kept (t':=s1.toks) fun b o e=>Heap.get?_push_of_some _ e,z69 (fun A hA=>Walks.strWide hA _ x t) (fun A i s Q E st h=>wpAny_pyIter_striter_wide st h),⟨_,Heap.get?_push_size _ rfl,rfl,rfl⟩,fo,q⟩
 ·refine wpAny_pyIter_ascii ha' ?_
  exact ⟨s1.heap.objs.size,[s1.heap.objs.size],_,_,H1,rfl,I1.kept (t':=s1.toks) fun b o e=>Heap.get?_push_of_some _ e,z69 (fun A hA=>Walks.strAscii hA _ x t) (fun A i s Q E st h=>wpAny_pyIter_striter_ascii st h),⟨_,Heap.get?_push_size _ rfl,rfl,rfl⟩,fo,q⟩
def z1B (x:Str):List D:=x.cps.toList.map fun c=>.str ⟨#[c]⟩
def iStr (ma:G->M D):G->M Src:=fun γ=>do
 let x ← ma γ
 match x with
 | .str z=>pure (.con (z1B z))
 | _=>bad
theorem zf1 (hc:X.calm=true) (ha:SE X EX a ma):SI X EX tg a (iStr ma) :=
 ⟨PI.imp (zz2 ha.h) fun σ H R ⟨ρ,γ,h,rel,fin⟩=>⟨ρ,γ,h,rel,(Fin.bind fin).mono fun x ρ1 h1 H1 p1 e1 r1 f1 v rv=>by
  cases x<;>first | exact (show False from f1).elim | skip
  rename_i z
  simp only [RD] at rv
  subst rv
  refine ⟨z,rfl,f1 ρ1 H1 (Pre.refl _) (Ext.refl _ _) r1 _ fun i ρ2 h4 H2 p2 e2 r2 _=>⟨fun d hd=>?_,fun hi=>?_⟩⟩
  ·have hd':(z1B z)[i]?=some d:=hd
   unfold z1B at hd'
   rw [List.getElem?_map] at hd'
   cases e:z.cps.toList[i]? with
   | none=>rw [e] at hd';cases hd'
   | some c =>
    rw [e] at hd'
    cases hd'
    have e':z.cps[i]?=some c:=by simpa using e
    refine ⟨?_,fun y H3 ⟨z1,c',z2,z3⟩=>?_⟩
    ·have:=(List.getElem?_eq_some_iff.mp e).1
     exact (show i<z.cps.size by simpa using this)
    ·subst z1
     rw [e'] at z2;cases z2
     subst z3
     exact ⟨by simp [RD],r2,Ext.refl _ _⟩
  ·have hi':(z1B z).length=i:=hi
   unfold z1B at hi'
   rw [List.length_map] at hi'
   exact (show z.cps.size=i by simpa using hi')⟩⟩
def cutD (xs:List D) (lo hi:Option Int):List D:=(xs.drop (HT.sIx xs.length 0 lo)).take (HT.sIx xs.length xs.length hi - HT.sIx xs.length 0 lo)
def fSl:D->Option Int->Option Int->M D
 | .tup xs,lo,hi=>pure (.tup (cutD xs lo hi))
 | .fl xs,lo,hi=>newL (cutD xs lo hi)
 | .ref n,lo,hi=>do
  let xs ← getL n
  newL (cutD xs lo hi)
 | _,_,_=>bad
def zP2:G->M (Option Int):=fun _=>pure none
def zO5 (ma:G->M D):G->M (Option Int):=fun γ=>do
 let x ← ma γ
 match x with
 | .int i=>pure (some i)
 | _=>bad
def zE2 (ma:G->M D) (ml mh:G->M (Option Int)):G->M D:=fun γ=>do
 let x ← ma γ
 let lo ← ml γ
 let hi ← mh γ
 fSl x lo hi
end
def leS (a b:Str):Bool:=!decide (b.cps.toList<a.cps.toList)
theorem z4u {a b c:Str}(h1:leS a b=true) (h2:leS b c=true):leS a c=true:=by
 simp only [leS,Bool.not_eq_true',decide_eq_false_iff_not] at *
 exact List.not_lt.mpr (List.le_trans (List.not_lt.mp h1) (List.not_lt.mp h2))
theorem z7G (a b:Str):(leS a b || leS b a)=true:=by
 simp only [leS,Bool.or_eq_true,Bool.not_eq_true',decide_eq_false_iff_not]
 rcases List.le_total a.cps.toList b.cps.toList with h | h
 ·exact .inl (List.not_lt.mpr h)
 ·exact .inr (List.not_lt.mpr h)
theorem z9k {a b:Str}(h:a.cps.toList=b.cps.toList):a=b:=by
 cases a;cases b
 congr 1
 exact Array.toList_inj.mp h
theorem za4 {a b:Str}(h1:leS a b=true) (h2:leS b a=true):a=b:=by
 simp only [leS,Bool.not_eq_true',decide_eq_false_iff_not] at *
 exact z9k (List.le_antisymm (List.not_lt.mp h1) (List.not_lt.mp h2))
def z1i (l:List Str):List Str:=l.mergeSort leS
theorem z74 (l:List Str):(z1i l).Perm l:=List.mergeSort_perm l leS
theorem zc9 (l:List Str):(z1i l).Pairwise (fun a b=>leS a b=true):=List.pairwise_mergeSort (le:=leS) (fun a b c h1 h2=>z4u h1 h2) z7G l
theorem z4E:∀ (p:Str) (l:List Str),risingS p l=true->(p :: l).Pairwise (fun a b=>leS a b=true)
 | p,[],_=>by simp
 | p,x :: r,h=>by
  have h':(!ltCps x.cps.toList p.cps.toList && risingS x r)=true:=h
  rw [Bool.and_eq_true,ltCps_eq] at h'
  have ih:=z4E x r h'.2
  have px:leS p x=true:=h'.1
  refine List.pairwise_cons.mpr ⟨fun y hy=>?_,ih⟩
  rcases List.mem_cons.mp hy with rfl | hy
  ·exact px
  ·exact z4u px ((List.pairwise_cons.mp ih).1 y hy)
theorem za8 {l l':List Str}(p:l'.Perm l) (h:sortedS l'=true):l'=z1i l:=by
 have pw:l'.Pairwise (fun a b=>leS a b=true):=by
  cases l' with
  | nil=>exact .nil
  | cons x r=>exact z4E x r h
 exact List.Perm.eq_of_pairwise (fun a b _ _=>za4) pw (zc9 l) (p.trans (z74 l).symm)
def leI (a b:Int):Bool:=decide (a≤b)
def sortI (l:List Int):List Int:=l.mergeSort leI
theorem sortI_perm (l:List Int):(sortI l).Perm l:=List.mergeSort_perm l leI
theorem z64 (l:List Int):(sortI l).Pairwise (fun a b=>a≤b):=by
 have:=List.pairwise_mergeSort (le:=leI) (fun a b c h1 h2=>by simp only [leI,decide_eq_true_eq] at *;omega) (fun a b=>by simp only [leI,Bool.or_eq_true,decide_eq_true_eq];omega) l
 exact this.imp fun h=>by simpa [leI] using h
theorem z40 {l l':List Int}(p:l'.Perm l) (h:l'.Pairwise (·≤·)):l'=sortI l :=
 List.Perm.eq_of_pairwise (fun a b _ _ h1 h2=>Int.le_antisymm h1 h2) h (z64 l) (p.trans (sortI_perm l).symm)
def z2J:List D->Option (List Str)
 | []=>some []
 | .str b :: r=>(z2J r).map (b :: ·)
 | _ :: _=>none
def z1x:List D->Option (List Int)
 | []=>some []
 | .int b :: r=>(z1x r).map (b :: ·)
 | _ :: _=>none
def z0Y:List D->M D
 | [.ref n]=>do
  let xs ← getL n
  if xs.length<64 then (match z2J xs with
   | some ss=>newL ((z1i ss).map .str)
   | none=>(match z1x xs with
    | some ns=>newL ((sortI ns).map .int)
    | none=>bad)) else bad
 | _=>bad
theorem z6Q {K:PySem.W.Frag}{ρ:List Addr}{H:Hp}:∀ {xs:List D}{bs:List Str}{vs:List V},z2J xs=some bs->RDs K ρ H xs vs->vs=bs.map V.str
 | [],bs,vs,e,r=>by simp only [RDs] at r;cases e;subst r;rfl
 | x :: xs,bs,vs,e,r=>by
  simp only [RDs] at r
  obtain ⟨v,r2,rfl,h1,h2⟩:=r
  cases x<;>first | (simp only [z2J] at e;cases e;done) | skip
  rename_i b
  simp only [z2J] at e
  obtain ⟨bs',e1,rfl⟩:=Option.map_eq_some_iff.mp e
  simp only [RD] at h1
  subst h1
  rw [z6Q e1 h2];rfl
theorem z2P {K:PySem.W.Frag}{ρ:List Addr}{H:Hp}:∀ {xs:List D}{bs:List Int}{vs:List V},z1x xs=some bs->RDs K ρ H xs vs->vs=bs.map V.int
 | [],bs,vs,e,r=>by simp only [RDs] at r;cases e;subst r;rfl
 | x :: xs,bs,vs,e,r=>by
  simp only [RDs] at r
  obtain ⟨v,r2,rfl,h1,h2⟩:=r
  cases x<;>first | (simp only [z1x] at e;cases e;done) | skip
  rename_i b
  simp only [z1x] at e
  obtain ⟨bs',e1,rfl⟩:=Option.map_eq_some_iff.mp e
  simp only [RD] at h1
  subst h1
  rw [z2P e1 h2];rfl
theorem z6m:∀ {bs:List Str}{us:List Value},Vals (bs.map V.str) us->StrsAre us bs
 | [],us,h=>by cases h;exact .nil
 | b :: bs,us,h=>by
  cases h with
  | cons h1 h2=>obtain ⟨t,rfl⟩:=h1;exact .cons b t (z6m h2)
theorem z68:∀ {us:List Value}{bs:List Str},StrsAre us bs->Vals (bs.map V.str) us
 | _,_,.nil=>.nil
 | _,_,.cons y t r=>.cons ⟨t,rfl⟩ (z68 r)
theorem z3U:∀ {us:List Value}{bs:List Int},IntsAre us bs->Vals (bs.map V.int) us:=fun h=>z2V h
section
variable {X:Cx}{EX:XX}{a:Expr}{p pos:Pos}{mr:G->M (List D)}
theorem z5v:z1y X (.builtin "sorted") (fun xs H Q=>∃ l ys,xs=[.ref l]/\SqL X.K H l ys/\ys.length<64 /\
 ((∃ ss,ys=ss.map V.str/\∀ q,H q=none->Q (.ref q) (upd H q (.lst ((z1i ss).map V.str))))∨(∃ ns,ys=ns.map V.int/\∀ q,H q=none->Q (.ref q) (upd H q (.lst ((sortI ns).map V.int)))))):=by
 intro pins s σ H xs us Q I r h
 obtain ⟨l,ys,rfl,hq,h64,h⟩:=h
 obtain ⟨u,rfl,ru⟩:=vals1 r
 cases ru
 obtain ⟨its,rv,pl,hz⟩:=I.list hq
 have hl:=rv.length
 have fin:∀ (out:Array Value) (zs:List V),Vals zs out.toList->zs.length=ys.length->(∀ q,H q=none->Q (.ref q) (upd H q (.lst zs)))->EP X pins σ Q (.ref (s.heap.objs.size+1)) { s with heap:=sortedAll s.heap its out }:=fun out zs h1 h2 h3=>by
  obtain ⟨e,he⟩:=sortedAll_at s.heap its out
  refine ⟨.ref (s.heap.objs.size+1),_,I.laid (t':=s.toks) (o:=.lst zs) (fun b o q=>sortedAll_old q) (Nat.le_succ _) ⟨by omega,out.toList,e,h1,?_⟩,rfl,h3 _ (I.hok.fresh (Nat.le_succ _))⟩
  rw [he]
 rcases h with ⟨ss,rfl,h⟩ | ⟨ns,rfl,h⟩
 ·refine sorted_strs pl.isList (z6m rv) (by omega) fun out ss' h1 h2 h3=>?_
  have e:=za8 h2 h3
  subst e
  exact fin out _ (z68 h1) (by rw [List.length_map,List.length_map,h2.length_eq]) h
 ·have hi:IntsAre its ns:=L2.intsAre_of rv
  refine sorted_ints pl.isList hi (by omega) fun out ns' h1 h2 h3=>?_
  have e:=z40 h2 h3
  subst e
  exact fin out _ (z3U h1) (by rw [List.length_map,List.length_map,h2.length_eq]) h
theorem z6h {K:PySem.W.Frag}{ρ:List Addr}{H:Hp}:∀ (l:List Str),RDs K ρ H (l.map .str) (l.map V.str)
 | []=>RDs.nil
 | x :: r=>RDs.cons (by simp [RD]) (z6h r)
theorem z2O {K:PySem.W.Frag}{ρ:List Addr}{H:Hp}:∀ (l:List Int),RDs K ρ H (l.map .int) (l.map V.int)
 | []=>RDs.nil
 | x :: r=>RDs.cons (by simp [RD]) (z2O r)
theorem z91:AR X.K EX (fun xs H Q=>∃ l ys,xs=[.ref l]/\SqL X.K H l ys/\ys.length<64 /\
 ((∃ ss,ys=ss.map V.str/\∀ q,H q=none->Q (.ref q) (upd H q (.lst ((z1i ss).map V.str))))∨(∃ ns,ys=ns.map V.int/\∀ q,H q=none->Q (.ref q) (upd H q (.lst ((sortI ns).map V.int)))))) z0Y:=by
 intro ρ h H ds vs Q r rd fin
 unfold z0Y at fin
 split at fin
 ·rename_i n
  obtain ⟨v,rfl,rv⟩:=rds1 rd
  have f1:=Fin.bind fin
  cases e:getL n h with
  | bad=>rw [e] at f1;exact f1.elim
  | err z hz=>exact (z0j e).elim
  | ok xs h1 =>
   obtain ⟨rfl,q1⟩:=z0i e
   rw [e] at f1
   have f2:=f1 ρ H (Pre.refl _) (Ext.refl _ _) r
   dsimp only at f2
   simp only [RD] at rv;obtain ⟨q,rfl,h2⟩:=rv
   obtain ⟨a1,n1,ws,o1,d1⟩:=r.at q1
   rw [h2] at n1;cases n1
   by_cases hl:xs.length<64
   ·rw [if_pos hl] at f2
    refine ⟨q,ws,rfl,SqL.of o1,by rw [← d1.length];exact hl,?_⟩
    cases eb:z2J xs with
    | some ss =>
     rw [eb] at f2
     have f3:FE X.K EX ρ H Q (newL ((z1i ss).map .str) h1):=f2
     unfold newL at f3
     split at f3
     ·exact .inl ⟨ss,z6Q eb d1,fun p hp=>FE.lst f3 r (z6h _) hp⟩
     ·exact f3.elim
    | none =>
     rw [eb] at f2
     cases en:z1x xs with
     | some ns =>
      rw [en] at f2
      have f3:FE X.K EX ρ H Q (newL ((sortI ns).map .int) h1):=f2
      unfold newL at f3
      split at f3
      ·exact .inr ⟨ns,z2P en d1,fun p hp=>FE.lst f3 r (z2O _) hp⟩
      ·exact f3.elim
     | none=>rw [en] at f2;exact (show False from f2).elim
   ·rw [if_neg hl] at f2;exact (show False from f2).elim
 ·exact fin.elim
theorem z51 (hc:X.calm=true) (hg:Gl X "sorted") (hm:X.mg "sorted" = none) (ha:SA X EX [a] mr) (he:starEach [a] X.env=[(false,eval a X.env)]:=by rfl):SE X EX (.Call (.Name "sorted" p) [a] [] pos) (Z5 z0Y mr) :=
 z0L (z0F z5v hg hm boot_sorted ha.h (by decide) (by decide) he rfl) z91
end
end FT
set_option maxHeartbeats 2000000
namespace FT
open PySem PySem.Spec PyProof.Rows L2
@[simp] theorem bindM {α β:Type} (m:M α) (f:α->M β) (h:AH):(m >>= f) h=match m h with
 | .ok a h1=>f a h1
 | .err x h1=>.err x h1
 | .bad=>.bad:=rfl
@[simp] theorem pureM {α:Type} (a:α) (h:AH):(Pure.pure a:M α) h=.ok a h:=rfl
@[simp] theorem iteM {α:Type} {c:Prop} [Decidable c] (a b:M α) (h:AH):(if c then a else b) h=if c then a h else b h:=by split<;>rfl
theorem Rise.lt {xs:Array Nat}(h:Rise xs) {i j a b:Nat}(ha:xs[i]?=some a) (hb:xs[j]?=some b) (hij:i<j):a<b:=by
 obtain ⟨h1,e1⟩:=Array.getElem?_eq_some_iff.mp ha
 obtain ⟨h2,e2⟩:=Array.getElem?_eq_some_iff.mp hb
 have:=List.pairwise_iff_getElem.mp h i j (by simpa using h1) (by simpa using h2) hij
 simp only [Array.getElem_toList] at this
 rw [e1,e2] at this
 exact this
theorem z4i {xs:Array Nat}(h:Rise xs) (j:Nat):∀ (fuel lo hi:Nat),hi - lo≤fuel->lo≤hi->hi≤xs.size->(∀ (i:Nat) a,i<lo->xs[i]?=some a->a<j)->(∀ (i:Nat) a,hi≤i->xs[i]?=some a->j≤a) ->
 (SetTable.below.go xs j fuel lo hi)≤xs.size/\(∀ (i:Nat) a,i<SetTable.below.go xs j fuel lo hi->xs[i]?=some a->a<j)/\∀ (i:Nat) a,SetTable.below.go xs j fuel lo hi≤i->xs[i]?=some a->j≤a
 | 0,lo,hi,hf,hl,hs,h1,h2=>by
  have:hi=lo:=by omega
  subst this
  exact ⟨by simp only [SetTable.below.go];omega,by simpa only [SetTable.below.go] using h1,by simpa only [SetTable.below.go] using h2⟩
 | fuel+1,lo,hi,hf,hl,hs,h1,h2=>by
  rw [SetTable.below.go]
  split
  ·rename_i hlt
   have hm:(lo+hi) / 2<xs.size:=by omega
   have e:xs[(lo+hi) / 2]?=some xs[(lo+hi) / 2]:=Array.getElem?_eq_getElem hm
   have ed:xs.getD ((lo+hi) / 2) j=xs[(lo+hi) / 2]:=by rw [Array.getD_eq_getD_getElem?,e];rfl
   dsimp only
   rw [ed]
   split
   ·rename_i q
    refine z4i h j fuel _ hi (by omega) (by omega) hs (fun i a hi' ha=>?_) h2
    by_cases z:i=(lo+hi) / 2
    ·subst z;rw [e] at ha;cases ha;exact q
    ·exact Nat.lt_trans (h.lt ha e (by omega)) q
   ·rename_i q
    refine z4i h j fuel lo _ (by omega) (by omega) (by omega) h1 (fun i a hi' ha=>?_)
    by_cases z:i=(lo+hi) / 2
    ·subst z;rw [e] at ha;cases ha;omega
    ·have:=h.lt e ha (by omega);omega
  ·exact ⟨by omega,h1,fun i a hi' ha=>h2 i a (by omega) ha⟩
theorem z2t {xs:Array Nat}(h:Rise xs) (j:Nat):SetTable.below xs j≤xs.size/\(∀ (i:Nat) a,i<SetTable.below xs j->xs[i]?=some a->a<j)/\∀ (i:Nat) a,SetTable.below xs j≤i->xs[i]?=some a->j≤a:=by
 unfold SetTable.below
 refine z4i h j xs.size 0 xs.size (by omega) (by omega) (by omega) (fun i a hi=>by omega) (fun i a hi ha=>?_)
 have:=(Array.getElem?_eq_some_iff.mp ha).1
 omega
theorem z6Y {xs:Array Nat}(h:Rise xs) {i j:Nat}(e:xs[i]?=some j):SetTable.below xs (j+1)=i+1:=by
 obtain ⟨b1,b2,b3⟩:=z2t h (j+1)
 have hi:=(Array.getElem?_eq_some_iff.mp e).1
 have l1:i<SetTable.below xs (j+1):=by
  by_cases q:i<SetTable.below xs (j+1)
  ·exact q
  ·have:=b3 i j (by omega) e;omega
 by_cases q:SetTable.below xs (j+1)=i+1
 ·exact q
 ·have hlt:i+1<xs.size:=by omega
  have e2:xs[i+1]?=some xs[i+1]:=Array.getElem?_eq_getElem hlt
  have a1:=b2 (i+1) _ (by omega) e2
  have a2:=h.lt e e2 (by omega)
  omega
theorem z72 {xs:Array Nat}(h:Rise xs):SetTable.below xs 0=0:=by
 obtain ⟨b1,b2,b3⟩:=z2t h 0
 by_cases q:SetTable.below xs 0=0
 ·exact q
 ·have hlt:0<xs.size:=by omega
  have e2:xs[0]?=some xs[0]:=Array.getElem?_eq_getElem hlt
  have:=b2 0 _ (by omega) e2
  omega
theorem zd6 {t:SetTable}{j:Nat}(h:Rise t.place) (hj:t.place[SetTable.below t.place j]?≠some j):Rise (t.put j).1.place:=by
 obtain ⟨b1,b2,b3⟩:=z2t h j
 show (SetTable.insertAt t.place (SetTable.below t.place j) j).toList.Pairwise _
 rw [SetTable.toList_insertAt]
 have tk:∀ a∈t.place.toList.take (SetTable.below t.place j),a<j:=fun a ha=>by
  obtain ⟨i,hi,e⟩:=List.getElem_of_mem ha
  rw [List.getElem_take] at e
  have hi2:i<SetTable.below t.place j:=by
   rw [List.length_take] at hi;omega
  have hi3:i<t.place.size:=by omega
  exact b2 i a hi2 (by rw [Array.getElem?_eq_getElem hi3];simpa using e)
 have dr:∀ a∈t.place.toList.drop (SetTable.below t.place j),j<a:=fun a ha=>by
  obtain ⟨i,hi,e⟩:=List.getElem_of_mem ha
  rw [List.getElem_drop] at e
  have hi3:SetTable.below t.place j+i<t.place.size:=by
   rw [List.length_drop] at hi;simp at hi;omega
  have e2:t.place[SetTable.below t.place j+i]?=some a:=by rw [Array.getElem?_eq_getElem hi3];simpa using e
  have:=b3 _ a (by omega) e2
  by_cases q:a=j
  ·subst q
   cases i with
   | zero=>exact absurd e2 hj
   | succ i =>
    have hlt:SetTable.below t.place a<t.place.size:=by omega
    have e3:t.place[SetTable.below t.place a]?=some t.place[SetTable.below t.place a]:=Array.getElem?_eq_getElem hlt
    have a1:=b3 _ _ (Nat.le_refl _) e3
    have a2:=h.lt e3 e2 (by omega)
    omega
  ·omega
 have p1:=List.Pairwise.take (i:=SetTable.below t.place j) h
 have p2:=List.Pairwise.drop (i:=SetTable.below t.place j) h
 simp only [List.pairwise_append,List.pairwise_cons]
 first
  | (refine ⟨p1,⟨dr,p2⟩,fun a ha b hb=>?_⟩
     rcases List.mem_cons.mp hb with rfl | hb
     ·exact tk a ha
     ·exact Nat.lt_trans (tk a ha) (dr b hb))
  | skip
theorem z6P {t:SetTable}{j:Nat}(h:∀ i,t.slot j≠.live i):t.place[SetTable.below t.place j]?≠some j:=fun e=>by
 refine h (SetTable.below t.place j) ?_
 unfold SetTable.slot
 dsimp only
 rw [e,if_pos (by simp)]
theorem z4m {t:SetTable}{ha:Nat->Int}{hx:Int}:∀ (fuel:Nat) (p:SetTable.Probe) (j:Nat) (dm:Option Nat),(∀ d,p.dummy=some d->t.slot d=.dummy)->SetTable.probe.go t ha hx fuel p=some (.empty j dm)->t.slot j=.empty/\∀ d,dm=some d->t.slot d=.dummy
 | 0,p,j,dm,hd,e=>by simp [SetTable.probe.go] at e
 | fuel+1,p,j,dm,hd,e=>by
  rw [SetTable.probe.go] at e
  have adv:∀ q:SetTable.Probe,(t.advance q).dummy=q.dummy:=fun q=>by
   unfold SetTable.advance
   split<;>rfl
  split at e
  ·rename_i hs
   cases e
   exact ⟨hs,hd⟩
  ·rename_i hs
   refine z4m fuel _ j dm (fun d z=>?_) e
   rw [adv] at z
   cases z
   exact hs
  ·split at e
   ·cases e
   ·refine z4m fuel _ j dm (fun d z=>?_) e
    rw [adv] at z
    exact hd d z
theorem za6 {t:SetTable}{hx:Int}{j:Nat}{b:Bool}(e:t.freeSlot hx=some (j,b)):t.place[SetTable.below t.place j]?≠some j:=by
 unfold SetTable.freeSlot SetTable.probe at e
 split at e
 ·rename_i j' dm hp
  obtain ⟨s1,s2⟩:=z4m _ _ j' dm (fun d z=>by simp [SetTable.probeStart] at z) hp
  cases dm with
  | none=>cases e;exact z6P (fun i z=>by rw [show t.slot (none.getD j')=_ from s1] at z;cases z)
  | some d=>cases e;exact z6P (fun i z=>by rw [show t.slot ((some d).getD j')=_ from s2 d rfl] at z;cases z)
 ·cases e
theorem z1v (n:Nat):Rise (Array.range n):=by
 show (Array.range n).toList.Pairwise _
 rw [Array.toList_range]
 exact List.pairwise_lt_range
theorem z5J {t:SetTable}{es:Array (Int×Value)}{hx:Int}{x:Value}(h:Rise t.place):Rise (layNew t es hx x).2.1.place/\(layNew t es hx x).2.1.led=t.led:=by
 unfold layNew
 split
 ·rename_i sl wd e
  dsimp only
  unfold SetTable.orStandIn
  split
  ·exact ⟨zd6 h (za6 e),rfl⟩
  ·exact ⟨z1v _,rfl⟩
 ·exact ⟨z1v _,rfl⟩
theorem z8C {mask finger moves:Nat}{led plain:Bool}{hs:Array Int}{t:SetTable}{o:Array Nat}(e:SetTable.laid mask finger moves led plain hs=some (t,o)):Rise t.place/\t.led=led:=by
 unfold SetTable.laid at e
 cases hl:SetTable.layClean mask hs with
 | none=>rw [hl] at e;cases e
 | some ow =>
  rw [hl] at e
  cases e
  refine ⟨?_,rfl⟩
  unfold Rise
  dsimp only
  rw [List.pairwise_map,List.pairwise_filterMap]
  refine List.pairwise_lt_range.imp fun {a b} hab c hc d hd=>?_
  cases h1:ow.getD a none with
  | none=>rw [h1] at hc;cases hc
  | some u =>
   cases h2:ow.getD b none with
   | none=>rw [h2] at hd;cases hd
   | some v =>
    rw [h1] at hc;rw [h2] at hd
    cases hc;cases hd
    exact hab
theorem z7h {t:SetTable}{es:Array (Int×Value)}{n:Nat}:Rise (relayAll t es n).2.1.place/\(relayAll t es n).2.1.led=t.led:=by
 unfold relayAll
 split
 ·rename_i t' o e
  obtain ⟨r1,r2⟩:=z8C e
  dsimp only
  split
  ·exact ⟨r1,r2⟩
  ·exact ⟨z1v _,rfl⟩
 ·exact ⟨z1v _,rfl⟩
section
variable {P:Program}{w:World}
theorem z1K {α β:Type}{R:α->β->Prop}{l' l:List β}(p:l'.Perm l):∀ {ks:List α},Paired R ks l->∃ ks',ks'.Perm ks/\Paired R ks' l':=by
 induction p with
 | nil=>intro ks h;exact ⟨ks,.refl _,h⟩
 | cons x _ ih =>
  intro ks h
  cases h with
  | cons a b =>
   obtain ⟨ks',q1,q2⟩:=ih b
   exact ⟨_ :: ks',.cons _ q1,.cons a q2⟩
 | swap x y l =>
  intro ks h
  cases h with
  | cons a b =>
   cases b with
   | cons c d=>exact ⟨_ :: _ :: _,.swap _ _ _,.cons c (.cons a d)⟩
 | trans _ _ ih1 ih2 =>
  intro ks h
  obtain ⟨k1,a1,a2⟩:=ih2 h
  obtain ⟨k2,b1,b2⟩:=ih1 a2
  exact ⟨k2,b1.trans a1,b2⟩
theorem z37 {α β:Type}{R:α->β->Prop}:∀ {ks:List α}{l:List β}{k:α}{x:β},Paired R ks l->R k x->Paired R (ks++[k]) (l++[x])
 | _,_,_,_,.nil,h=>.cons h .nil
 | _,_,_,_,.cons a b,h=>.cons a (z37 b h)
theorem z2i {α β:Type}{R:α->β->Prop}:∀ {ks:List α}{l:List β}{x:β},Paired R ks l->x∈l->∃ k∈ks,R k x
 | _,_,_,.cons a b,h=>by
  rcases List.mem_cons.mp h with rfl | h
  ·exact ⟨_,List.mem_cons_self,a⟩
  ·obtain ⟨k,h1,h2⟩:=z2i b h;exact ⟨k,List.mem_cons_of_mem _ h1,h2⟩
theorem z38 {α β:Type}{R:α->β->Prop}:∀ {ks:List α}{l:List β}{k:α},Paired R ks l->k∈ks->∃ x∈l,R k x
 | _,_,_,.cons a b,h=>by
  rcases List.mem_cons.mp h with rfl | h
  ·exact ⟨_,List.mem_cons_self,a⟩
  ·obtain ⟨k,h1,h2⟩:=z38 b h;exact ⟨k,List.mem_cons_of_mem _ h1,h2⟩
theorem z6D {k:Key}{v:Value}(h:z10 k v=true):v.scannable=true:=by
 rcases j6 h with ⟨i,t,rfl,rfl⟩ | ⟨x,t,rfl,rfl⟩<;>rfl
theorem z9F {ks:List Key}{l:List (Int×Value)}(h:Paired (KE w) ks l):ElemsOf (k6 P w) l:=fun e he=>by
 obtain ⟨k,_,h1,h2⟩:=z2i h he
 exact ⟨⟨k,h1,h2⟩,z6D h1⟩
theorem zs8 {k k':Key}{v:Value}(h:z10 k v=true) (h':z10 k' v=true):k=k':=by
 rcases j6 h with ⟨i,t,rfl,rfl⟩ | ⟨x,t,rfl,rfl⟩
 ·rcases j6 h' with ⟨j,u,rfl,e⟩ | ⟨y,u,rfl,e⟩
  ·cases e;rfl
  ·cases e
 ·rcases j6 h' with ⟨j,u,rfl,e⟩ | ⟨y,u,rfl,e⟩
  ·cases e
  ·cases e;rfl
theorem mem_of {ks:List Key}{l:List (Int×Value)}(h:Paired (KE w) ks l) (k:Key):k∈ks↔∃ e∈l,z10 k e.2=true:=by
 constructor
 ·intro hk
  obtain ⟨e,h1,h2,_⟩:=z38 h hk
  exact ⟨e,h1,h2⟩
 ·rintro ⟨e,h1,h2⟩
  obtain ⟨k',h3,h4,_⟩:=z2i h h1
  exact zs8 h2 h4 ▸ h3
theorem SetAt.stay {h h':Heap}{a:Addr}{ks:List Key}(x:SetAt w h a ks) (k:∀ o,h.get? a=some o->h'.get? a=some o):SetAt w h' a ks:=by
 obtain ⟨o,es,ep,t,ks',h1,h2⟩:=x
 exact ⟨o,es,ep,t,ks',k o h1,h2⟩
theorem z9h {h:Heap}{led:Bool}(hl:led=true∨w.params.followText "set-order" = true):SetAt w (h.push { cls:=.type "set",dict:=none,data:=.set #[] 0 (.fresh 0 0 led) }) h.objs.size [] :=
 ⟨_,#[],0,_,[],Heap.get?_push_size _ rfl,⟨rfl,rfl,rfl⟩,rfl,.nil,.refl _,List.nodup_nil,by decide,by rfl,by show ([]:List Nat).Pairwise _;exact .nil,hl⟩
variable {A:Around}{E:Value->Shared->Prop}{s:Shared}{a:Addr}
theorem z6R {ks:List Key}{o:Obj}{es es':Array (Int×Value)}{ep:Nat}{t t':SetTable}{ks':List Key}{h:Heap}(ho:h.get? a=some o) (hex:o.ExactSet) (hd:o.data=.set es ep t) (h4:Paired (KE w) ks' es'.toList) (h5:ks'.Perm ks) (h6:ks.Nodup)
 (hb:es'.size<scanBound) (hf:t'.fits es'.size=true) (hr:Rise t'.place) (hl:t'.led=true∨w.params.followText "set-order" = true) :
 SetAt w (h.update a (Obj.putSet es' t')) a ks/\∃ o',(h.update a (Obj.putSet es' t')).get? a=some o'/\o'.ExactSet/\o'.data=.set es' (ep+1) t':=by
 have g:(h.update a (Obj.putSet es' t')).get? a=some { o with data:=.set es' (ep+1) t' }:=by
  have:=Heap.get?_update_self (Obj.putSet es' t') ho (by rw [putSet_of es' t' hd];rfl)
  rw [putSet_of es' t' hd] at this;exact this
 exact ⟨⟨_,es',ep+1,t',ks',g,hex,rfl,h4,h5,h6,hb,hf,hr,hl⟩,_,g,hex,rfl⟩
theorem tail_at {ks ks1:List Key}{o:Obj}{es es1:Array (Int×Value)}{ep:Nat}{t t2:SetTable}{wd:Bool}{gw:Bool->Sem Unit}{R:Option Bool->Shared->Prop}(hG:∀ (g:Bool) (s1:Shared) (Z:Unit->Shared->Prop),Z () s1->wpAny (model P w) A (gw g) Z E s1)
 (ho:s.heap.get? a=some o) (hex:o.ExactSet) (hd:o.data=.set es ep t) (h4:Paired (KE w) ks1 es1.toList) (h5:ks1.Perm ks) (h6:ks.Nodup) (hb:es1.size<scanBound) (hf:t2.fits es1.size=true) (hr:Rise t2.place) (hl:t2.led=true∨w.params.followText "set-order" = true)
 (h:∀ h',Heap.SameBut a s.heap h'->SetAt w h' a ks->R (some true) { s with heap:=h' }) :
 wpAny (model P w) A (storeSet a es1 t2 >>= fun _=>if (!wd && t2.tooFull)=true then (gw (relayAll t2 es1 (SetTable.grown es1.size)).2.2 >>= fun _=>storeSet a (relayAll t2 es1 (SetTable.grown es1.size)).1 (relayAll t2 es1 (SetTable.grown es1.size)).2.1 >>= fun _=>pure (some true)) else pure (some true)) R E s:=by
 obtain ⟨S1,o1,g1,x1,d1⟩:=z6R (h:=s.heap) (t':=t2) ho hex hd h4 h5 h6 hb hf hr hl
 have sb:=Heap.SameBut.update s.heap a (Obj.putSet es1 t2)
 refine wpAny_bind (wpAny_storeSet_of ho hd ?_ (fits_of_scanBound hb))
 split
 ·have rp:=relayAll_perm t2 es1 (SetTable.grown es1.size)
  have rf:=relayAll_fits t2 es1 (SetTable.grown es1.size)
  have rr:=z7h (t:=t2) (es:=es1) (n:=SetTable.grown es1.size)
  obtain ⟨ks2,p1,p2⟩:=z1K rp h4
  have sz:(relayAll t2 es1 (SetTable.grown es1.size)).1.size=es1.size:=by rw [← Array.length_toList,rp.length_eq,Array.length_toList]
  have b2:(relayAll t2 es1 (SetTable.grown es1.size)).1.size<scanBound:=by rw [sz];exact hb
  refine wpAny_bind (hG _ _ _ (wpAny_bind (wpAny_storeSet_of g1 d1 (wpAny_pure ?_) (fits_of_scanBound b2))))
  obtain ⟨S2,_⟩:=z6R (h:=s.heap.update a (Obj.putSet es1 t2)) (t':=(relayAll t2 es1 (SetTable.grown es1.size)).2.1) g1 x1 d1 p2 (p1.trans h5) h6 b2 rf rr.1 (by rw [rr.2];exact hl)
  exact h _ (sb.trans (Heap.SameBut.update _ a _)) S2
 ·exact wpAny_pure (h _ sb S1)
theorem zC4 {ks:List Key}{k:Key}{x:Value}{Q:Bool->Shared->Prop}(hk:z10 k x=true) (hS:SetAt w s.heap a ks) (hroom:ks.length+1<scanBound)
 (h:∀ h' b,Heap.SameBut a s.heap h'->SetAt w h' a (if k∈ks then ks else ks++[k])->Q b { s with heap:=h' }) :
 wpAny (model P w) A (setAddHashed a x (keyH w k)) Q E s:=by
 obtain ⟨o,es,ep,t,ks',ho,hex,hd,h4,h5,h6,h7,h8,h9,h0⟩:=hS
 have el:=z9F (P:=P) h4
 have sc:=z6D hk
 have hn:es.size=ks.length:=by rw [← h5.length_eq,Paired.length h4,Array.length_toList]
 unfold setAddHashed setAddHashedIn
 refine wpAny_holding (wpAny_bind (wpAny_setState_of ho hd h8 ?_))
 dsimp only
 rw [byScan_of sc h7 el,if_pos rfl]
 unfold setAddByScan
 refine wpAny_bind (wpAny_bind (wpAny_rule (wpAny_bind (wpAny_setScan_of (knd:=k6 P w) (k:=k) hk ho hd h8 el ?_))))
 cases hr:List.findIdx? (fun e=>(k6 P w).is k e.2) es.toList with
 | some j =>
  dsimp only
  obtain ⟨hj,hp,_⟩:=List.findIdx?_eq_some_iff_getElem.mp hr
  have hm:k∈ks:=h5.mem_iff.mp ((mem_of h4 k).mpr ⟨_,List.getElem_mem hj,hp⟩)
  have:=h s.heap false (Heap.SameBut.refl a s.heap) (by rw [if_pos hm];exact ⟨o,es,ep,t,ks',ho,hex,hd,h4,h5,h6,h7,h8,h9,h0⟩)
  exact wpAny_pure (wpAny_pure this)
 | none =>
  dsimp only
  have hm:k∉ks:=fun z=>by
   obtain ⟨e,he,hp⟩:=(mem_of h4 k).mp (h5.mem_iff.mpr z)
   have:=List.findIdx?_eq_none_iff.mp hr e he
   rw [show (k6 P w).is k e.2=true from hp] at this
   cases this
  rw [if_neg hm] at h
  have np:=layNew_perm t es (keyH w k) x
  have nf:=layNew_fits t es (keyH w k) x
  have nr:=z5J (t:=t) (es:=es) (hx:=keyH w k) (x:=x) h9
  have hG:∀ (g:Bool) (s1:Shared) (R:Unit->Shared->Prop),R () s1->wpAny (model P w) A (match g with | true=>rule "set.scan.the-table-gave-way" | false=>pure ()) R E s1 :=
   fun g s1 R q=>by cases g<;>first | exact wpAny_pure q | exact wpAny_rule q
  generalize hL:layNew t es (keyH w k) x=L at np nf nr ⊢
  obtain ⟨es1,t1,wd,gv⟩:=L
  dsimp only at np nf nr ⊢
  rw [Array.toList_push] at np
  obtain ⟨ks1,p1,p2⟩:=z1K np (z37 h4 (show KE w k (keyH w k,x) from ⟨hk,rfl⟩))
  have nd:(ks++[k]).Nodup:=by
   rw [List.nodup_append]
   exact ⟨h6,by simp,fun u hu v hv=>by simp at hv;subst hv;exact fun z=>hm (z ▸ hu)⟩
  have b1:es1.size<scanBound:=by
   rw [← Array.length_toList,np.length_eq,List.length_append,Array.length_toList]
   simpa [hn] using hroom
  have p3:ks1.Perm (ks++[k]):=p1.trans (h5.append_right [k])
  have l1:t1.led=true∨w.params.followText "set-order" = true:=by rw [nr.2];exact h0
  refine wpAny_bind (hG _ _ _ ?_)
  split
  ·rw [hashByValue_scannable 8 sc]
   refine wpAny_bind (wpAny_pure ?_)
   refine tail_at (t2:=if plainKind x=true then t1 else { t1 with plain:=false }) hG ho hex hd p2 p3 nd b1 ?_ ?_ ?_ fun h' sb S=>wpAny_pure (h h' true sb S)
   ·split
    ·exact nf
    ·exact SetTable.fits_plain_off nf
   ·split
    ·exact nr.1
    ·exact nr.1
   ·split
    ·exact l1
    ·exact l1
  ·refine wpAny_bind (wpAny_pure ?_)
   simp only [if_pos]
   exact tail_at hG ho hex hd p2 p3 nd b1 nf nr.1 l1 fun h' sb S=>wpAny_pure (h h' true sb S)
end
def putK (acc:List Key) (k:Key):List Key:=if k∈acc then acc else acc++[k]
def dedK (ks:List Key):List Key:=ks.foldl putK []
theorem ze2 (acc:List Key) (k:Key):(putK acc k).length≤acc.length+1:=by
 unfold putK
 split
 ·omega
 ·simp
theorem z4H:∀ (ks acc:List Key),(ks.foldl putK acc).length≤acc.length+ks.length
 | [],acc=>by simp
 | k :: ks,acc=>by
  have h1:=z4H ks (putK acc k)
  have h2:=ze2 acc k
  simp only [List.foldl_cons,List.length_cons]
  omega
theorem za3 (ks:List Key):(dedK ks).length≤ks.length:=by
 have:=z4H ks []
 simpa [dedK] using this
theorem z97 (ks:List Key) (k:Key):dedK (ks++[k])=putK (dedK ks) k:=by
 unfold dedK
 rw [List.foldl_append]
 rfl
section
variable {P:Program}{w:World}{A:Around}{E:Value->Shared->Prop}{s:Shared}{a:Addr}
theorem z8D {ks:List Key}{k:Key}{x:Value}{Q:Bool->Shared->Prop}(hk:z10 k x=true) (hS:SetAt w s.heap a ks) (hroom:ks.length+1<scanBound)
 (h:∀ h' b,Heap.SameBut a s.heap h'->SetAt w h' a (putK ks k)->Q b { s with heap:=h',toks:=s.toks+1 }):wpAny (model P w) A (setAdd a x) Q E s:=by
 unfold setAdd
 refine wpAny_holding (wpAny_bind ((k6 P w).pyHash (k:=k) hk ?_))
 exact zC4 (s:={ s with toks:=s.toks+1 }) hk hS hroom fun h' b sb S=>h h' b sb S
end
section
variable {P:Program}{w:World}{A:Around}{R:Result->Shared->Prop}{I:Addr}{fp wr:List Addr}{G:Array GenState->Array GenState->Prop}{n:Nat}{PV:Nat->Value->Prop}{St:Nat->Shared->Prop}
theorem z4P (W:WalksS P w A.in1 I fp wr G n PV St) (S:Addr) (hSf:S∉fp) (key:Nat->Key) (hv:∀ i v,PV i v->z10 (key i) v=true) (hb:n+1<scanBound) :
 ∀ (k i:Nat) (s:Shared),i+k=n->St i s->SetAt w s.heap S (dedK ((List.range i).map key)) ->
  (∀ s',Moved (S :: wr) G s s'->SetAt w s'.heap S (dedK ((List.range n).map key))->R (.ok (.ret .none)) s') ->
  codeAny (model P w) A (.builtin "set.update.loop" ⟨[.ref S,.ref I],[]⟩) R s:=by
 have nw:S∉wr:=fun h=>hSf (W.sub _ h)
 have up:∀ b∈wr,b∈S :: wr:=fun b hb=>List.mem_cons_of_mem _ hb
 intro k
 induction k with
 | zero =>
  intro i s hk st hS hR
  obtain rfl:i=n:=by omega
  refine codeAny_builtin F.entry_set_update_loop ?_
  rw [Around.under_plainId F.plain_set_update_loop _]
  show wpAny _ A.in1 (pyNext (.ref I) >>= _) _ _ s
  refine wpAny_bind (W.done s _ _ st fun s' hm=>?_)
  show wpAny _ A.in1 (ret Value.none) _ _ s'
  exact wpAny_pure (hR s' (hm.mono up) (hS.stay fun o e=>hm.heap S o nw e))
 | succ k ih =>
  intro i s hk st hS hR
  refine codeAny_builtin F.entry_set_update_loop ?_
  rw [Around.under_plainId F.plain_set_update_loop _]
  show wpAny _ A.in1 (pyNext (.ref I) >>= _) _ _ s
  refine wpAny_bind (W.item i s _ _ (by omega) st fun v s' hP st' hm=>?_)
  show wpAny _ A.in1 (holding [v] (setAdd S v) >>= _) _ _ s'
  have room:(dedK ((List.range i).map key)).length+1<scanBound:=by
   have:=za3 ((List.range i).map key)
   rw [List.length_map,List.length_range] at this
   omega
  refine wpAny_bind (wpAny_holding (z8D (hv i v hP) (hS.stay fun o e=>hm.heap S o nw e) room fun h' b sb S2=>?_))
  have nx:dedK ((List.range (i+1)).map key)=putK (dedK ((List.range i).map key)) (key i):=by
   rw [List.range_succ,List.map_append]
   exact z97 _ _
  refine wpAny_pure ⟨plainId_quiet F.plain_set_update_loop _,ih (i+1) _ (by omega) (W.frame _ s' _ _ st' (Nat.le_succ _) fun b hb o e=>?_) (by rw [nx];exact S2) fun s'' hm'' S3=>?_⟩
  ·rw [sb.2 b (fun z:b=S=>hSf (z ▸ hb))];exact e
  ·refine hR s'' (Moved.trans W.gtrans ((hm.mono up).then_heap (Nat.le_succ _) fun b o hb e=>?_) hm'') S3
   rw [sb.2 b (fun z:b=S=>hb (by rw [z];exact List.mem_cons_self))];exact e
end
end FT
set_option maxHeartbeats 3200000
namespace FT
open PySem PySem.Spec PyProof.Rows L2
theorem z71:isSubtype (.type "tuple") (.type "set")=pure false:=by rw [isSubtype_type];kernel_rfl
theorem z5x:isSubtype (.type "tuple") (.type "frozenset")=pure false:=by rw [isSubtype_type];kernel_rfl
abbrev z0H (w:World):Obj:={ cls:=.type "set",dict:=none,data:=.set #[] 0 (.fresh 0 0 (!w.params.followText "set-order")) }
theorem zy0 (w:World):(!w.params.followText "set-order")=true∨w.params.followText "set-order" = true:=by
 cases w.params.followText "set-order"<;>simp
section
variable {P:Program}{w:World}{A:Around}{E:Value->Shared->Prop}{s:Shared}
theorem fresh_at {h:Heap}:SetAt w (h.push (z0H w)) h.objs.size []:=z9h (zy0 w)
theorem newCode (a:Value) {Q:Value->Shared->Prop}(h:Q (.ref s.heap.objs.size) { s with heap:=s.heap.push (z0H w) }) :
 codeAny (model P w) A (.call (.builtin "set.__new__") ⟨[.type "set",a],[]⟩) (wants Q E) s:=by
 refine codeAny_of_tree (show wpAny _ A.in1 (do checkBuiltinCall "set.__new__" ⟨[.type "set",a],[]⟩;again (.builtin "set.__new__" ⟨[.type "set",a],[]⟩)) _ _ s from ?_)
 refine wpAny_bind (wpAny_of_eq (F.newCall_set_1 a) (wpAny_pure ⟨plainId_quiet F.plain_set_new _,codeAny_builtin F.entry_set_new ?_⟩))
 rw [Around.under_plainId F.plain_set_new _]
 unfold Builtin.«set.__new__» Builtin.Frozenset.newClass
 have hz:=sub_set_self
 obtain ⟨hp,g,d,tk,os⟩:=s
 dsimp only
 wp_walk
 refine wpAny_askSetting (wpAny_pure ?_)
 dsimp only
 simp only [newObj]
 refine wpAny_bind (wpAny_alloc (wpAny_pure ?_))
 exact wpAny_pure h
theorem z8e {T:String}{l:Addr}{items:Array Value}{key:Nat->Key}{Q:Value->Shared->Prop}(hT:T = "list"∨T = "tuple") (hh:A.handled=none) (hl:∃ o,s.heap.get? l=some o/\o.cls=.type T/\∃ n,o.data=.seq items n)
 (hv:∀ (i:Nat) v,items[i]?=some v->z10 (key i) v=true) (hb:items.size+1<scanBound)
 (h:∀ h' tk,SetAt w h' s.heap.objs.size (dedK ((List.range items.size).map key))->(∀ b o,s.heap.get? b=some o->h'.get? b=some o)->Q (.ref s.heap.objs.size) { s with heap:=h',toks:=tk }) :
 wpAny (model P w) A (call (.type "set") [.ref l]) Q E s:=by
 obtain ⟨c,tl,hmro⟩:=F.called_set.mro
 have z1:=F.called_set.made
 have z2:=F.called_set.sub
 have z3:=F.called_set.notType
 have z4:=F.called_set.canCreate
 have z5:=F.typeCall_set_1 (.ref l)
 obtain ⟨ol,hol,hcl,nl,hdl⟩:=hl
 obtain ⟨ocls,odict,odata,oslots⟩:=ol
 simp only at hcl hdl
 subst hcl;subst hdl
 refine wpAny_call (codeAny_of_tree (show wpAny _ _ (callAny (.type "set") _) _ _ _ from ?_))
 refine wpAny_pure ⟨Code.quiet_builtin _ (by decide +kernel),codeAny_builtin F.entry_type_call ?_⟩
 rw [Around.under_plain (weight_type_call_type "set" [.ref l] []) rfl]
 repeat (any_goals (first | assumption | wp_step))
 refine codeAny_mono (newCode (.ref l) (E:=E) (Q:=fun obj s1=>obj=.ref s.heap.objs.size/\s1={ s with heap:=s.heap.push (z0H w) }) ⟨rfl,rfl⟩) fun r s1 hr=>?_
 cases r with
 | error e=>exact hr
 | ok fl =>
  cases fl with
  | next=>exact hr.elim
  | brk=>exact hr.elim
  | cont=>exact hr.elim
  | ret obj =>
   obtain ⟨rfl,rfl⟩:=hr
   have gS:(s.heap.push (z0H w)).get? s.heap.objs.size=some (z0H w):=Heap.get?_push_size _ rfl
   have tS:Shared.TypeIs { s with heap:=s.heap.push (z0H w) } (.ref s.heap.objs.size) "set":=⟨_,gS,rfl⟩
   have y1:=F.called_set.init.lookup
   have y2:=F.called_set.init.bind (.ref s.heap.objs.size)
   repeat (any_goals (first | assumption | wp_step))
   refine codeAny_mono (codeAny_call_builtin (R:=wants (fun r s2=>r=.none/\∃ h' tk,s2={ s with heap:=h',toks:=tk }/\SetAt w h' s.heap.objs.size (dedK ((List.range items.size).map key))/\∀ b o,s.heap.get? b=some o->h'.get? b=some o) E) F.called_set.init.plain F.entry_set_init (check_set_init_1 tS ?_)) fun r2 s2 hr2=>?_
   ·have gl:(s.heap.push (z0H w)).get? l=some { cls:=.type T,dict:=odict,data:=.seq items nl,slots:=oslots }:=Heap.get?_push_of_some _ hol
    have hll:l<s.heap.objs.size:=Heap.lt_size hol
    have h3:A.in1.in1.in1.handled=none:=by simp [hh]
    have neI:l≠(s.heap.push (z0H w)).objs.size:=by rw [Heap.size_push];exact Nat.ne_of_lt (Nat.lt_succ_of_lt hll)
    have nf:s.heap.objs.size∉[(s.heap.push (z0H w)).objs.size,l]:=by
     rw [Heap.size_push]
     simp only [List.mem_cons,List.mem_singleton,List.not_mem_nil,or_false,not_or]
     exact ⟨Nat.ne_of_lt (Nat.lt_succ_self _),Nat.ne_of_gt hll⟩
    have start:∀ ob:Obj,SetAt w ((s.heap.push (z0H w)).push ob) s.heap.objs.size (dedK ((List.range 0).map key)):=fun ob=>fresh_at.stay fun o e=>Heap.get?_push_of_some _ e
    have fin:∀ (ob:Obj) s',Moved [s.heap.objs.size,(s.heap.push (z0H w)).objs.size] (fun g g'=>g'=g) { s with heap:=(s.heap.push (z0H w)).push ob } s'->SetAt w s'.heap s.heap.objs.size (dedK ((List.range items.size).map key)) ->
     ∃ h' tk,s'={ s with heap:=h',toks:=tk }/\SetAt w h' s.heap.objs.size (dedK ((List.range items.size).map key))/\∀ b o,s.heap.get? b=some o->h'.get? b=some o:=fun ob s' hm S2=>by
     obtain ⟨h',g',d',tk',os'⟩:=s'
     have e1:g'=s.gens:=hm.gens
     have e2:d'=s.drawn:=hm.drawn
     have e3:os'=s.os:=hm.os
     subst e1;subst e2;subst e3
     refine ⟨h',tk',rfl,S2,fun b o e=>hm.heap b o ?_ (Heap.get?_push_of_some _ (Heap.get?_push_of_some _ e))⟩
     have:=Heap.lt_size e
     rw [Heap.size_push]
     simp only [List.mem_cons,List.mem_singleton,List.not_mem_nil,or_false,not_or]
     exact ⟨Nat.ne_of_lt this,Nat.ne_of_lt (Nat.lt_succ_of_lt this)⟩
    rcases hT with rfl | rfl
    ·have x1:=F.sub_list_set
     have x2:=F.sub_list_frozenset
     have x3:(Value.type "list" == Value.type "dict")=false:=by decide
     have il:(s.heap.push (z0H w)).IsList l items:=⟨_,gl,rfl,nl,rfl⟩
     unfold Builtin.«set.__init__» noKeywords Builtin.Frozenset.updateFrom
     generalize hPI:pyIter=PI
     wp_walk
     subst hPI
     refine wpAny_pyIter_list il (wpAny_bind (wpAny_runValue ?_))
     refine z4P ((Walks.list h3 _ l neI items).toS) s.heap.objs.size nf key (fun i v e=>hv i v e) hb items.size 0 _ (by omega) ⟨⟨_,Heap.get?_push_size _ rfl,rfl,rfl⟩,il.push _⟩ (start _) fun s' hm S2=>?_
     obtain ⟨h',tk,rfl,q1,q2⟩:=fin _ s' hm S2
     exact wpAny_pure (show wpAny _ _ (ret Value.none) _ _ _ from wpAny_pure ⟨rfl,h',tk,rfl,q1,q2⟩)
    ·have x1:=z71
     have x2:=z5x
     have x3:(Value.type "tuple" == Value.type "dict")=false:=by decide
     have il:(s.heap.push (z0H w)).IsTuple l items:=⟨_,gl,rfl,nl,rfl⟩
     unfold Builtin.«set.__init__» noKeywords Builtin.Frozenset.updateFrom
     generalize hPI:pyIter=PI
     wp_walk
     subst hPI
     refine wpAny_pyIter_tuple il (wpAny_bind (wpAny_runValue ?_))
     refine z4P ((Walks.tuple h3 _ l neI items).toS) s.heap.objs.size nf key (fun i v e=>hv i v e) hb items.size 0 _ (by omega) ⟨⟨_,Heap.get?_push_size _ rfl,rfl,rfl⟩,⟨_,Heap.get?_push_of_some _ gl,rfl,nl,rfl⟩⟩ (start _) fun s' hm S2=>?_
     obtain ⟨h',tk,rfl,q1,q2⟩:=fin _ s' hm S2
     exact wpAny_pure (show wpAny _ _ (ret Value.none) _ _ _ from wpAny_pure ⟨rfl,h',tk,rfl,q1,q2⟩)
   ·cases r2 with
    | error e=>exact hr2
    | ok f2 =>
     cases f2 with
     | next=>exact hr2.elim
     | brk=>exact hr2.elim
     | cont=>exact hr2.elim
     | ret r =>
      obtain ⟨rfl,h',tk,rfl,q1,q2⟩:=hr2
      repeat (any_goals (first | assumption | wp_step))
      exact h _ _ q1 q2
end
end FT
set_option maxHeartbeats 1600000
namespace FT
open PySem PySem.Spec PyProof.Rows L2
theorem z2l {α:Type}:∀ (l:List α) (i:Nat) (h:i<l.length),(l[i] :: l.eraseIdx i).Perm l
 | [],i,h=>by simp at h
 | a :: l,0,h=>.refl _
 | a :: l,i+1,h=>by
  have:=z2l l i (by simpa using h)
  exact (List.Perm.swap a _ _).trans (List.Perm.cons a this)
theorem z50 {α:Type}{l:List α}{i n:Nat}(h:i<l.length) (e:l.length=n+1):(l.eraseIdx i).length=n:=by
 rw [List.length_eraseIdx,if_pos h,e];rfl
theorem z7w {α:Type}(f:Nat->Nat):∀ (n k:Nat) (left:List α) (out:Array α),left.length=n->(pickOrder.go f n k left out).toList.Perm (out.toList++left)
 | 0,k,left,out,h=>by
  have:left=[]:=List.length_eq_zero_iff.mp h
  subst this
  simp [pickOrder.go]
 | n+1,k,left,out,h=>by
  have hl:f k % left.length<left.length:=Nat.mod_lt _ (by omega)
  rw [pickOrder.go,List.getElem?_eq_getElem hl]
  dsimp only
  refine (z7w f n (k+1) _ _ (z50 hl h)).trans ?_
  rw [Array.toList_push,List.append_assoc]
  refine List.Perm.append_left _ ?_
  exact z2l left _ hl
theorem z8u {α:Type}(f:Nat->Nat) (xs:Array α):(pickOrder f xs).toList.Perm xs.toList:=by
 unfold pickOrder
 have:=z7w f xs.size 0 xs.toList #[] (by simp)
 simpa using this
theorem slot_si_next:Slot "set_iterator" "__next__" "set_iterator.__next__" :=
 .of (owner:="set_iterator") (n:="__next__") (by rw [typeLookup_type,builtinLookup_eq_fast];kernel_rfl) (by decide +kernel) (by decide +kernel) (by decide +kernel) (by first | exact .inl (by decide +kernel) | exact .inr (by decide +kernel)) (by rw [isSubtype_type];kernel_rfl)
theorem z1Q:entryFor table "set_iterator.__next__" = some Builtin.«set_iterator.__next__»:=entryFor_of_tree (by kernel_rfl)
theorem z6e:Manifest.owners.lookup (String.ofList ['r','o','t','a','r','e','t','i','_','t','e','s'].reverse)=some Manifest.sig_set_iterator:=by kernel_rfl
theorem z2u (a:Value):argsOk "set_iterator.__next__" ⟨[a],[]⟩:=by
 unfold argsOk;rw [signature?_of (id:="set_iterator.__next__") (n:=['_','_','t','x','e','n','_','_']) (o:=['r','o','t','a','r','e','t','i','_','t','e','s']) (by kernel_rfl) z6e];kernel_rfl
theorem z2C:Slot "set_iterator" "__iter__" "set_iterator.__iter__" :=
 .of (owner:="set_iterator") (n:="__iter__") (by rw [typeLookup_type,builtinLookup_eq_fast];kernel_rfl) (by decide +kernel) (by decide +kernel) (by decide +kernel) (by first | exact .inl (by decide +kernel) | exact .inr (by decide +kernel)) (by rw [isSubtype_type];kernel_rfl)
theorem z5f:entryFor table "set.__iter__" = some Builtin.«frozenset.__iter__» :=
 entryFor_alias (id':="frozenset.__iter__") (by kernel_rfl) rfl (by decide +kernel) (by kernel_rfl)
theorem z5S (a:Value):argsOk "set.__iter__" ⟨[a],[]⟩:=by
 unfold argsOk;rw [signature?_of (id:="set.__iter__") (n:=['_','_','r','e','t','i','_','_']) (o:=['t','e','s']) (by kernel_rfl) F.owner_set];kernel_rfl
section
variable {P:Program}{w:World}{A:Around}{E:Value->Shared->Prop}{s:Shared}
theorem z3z {α:Type}:∀ (n:Nat) (xs:List α) (s:Shared) (Q:List α->Shared->Prop),xs.length=n->(∀ ys d',ys.Perm xs->Q ys { s with drawn:=d' })->wpAny (model P w) A (drawOrder n xs) Q E s
 | 0,xs,s,Q,h,hq=>by
  have:xs=[]:=List.length_eq_zero_iff.mp h
  subst this
  exact wpAny_pure (hq [] s.drawn (.refl _))
 | n+1,xs,s,Q,h,hq=>by
  cases xs with
  | nil=>simp at h
  | cons x xs =>
   rw [drawOrder.eq_3 _ _ (fun z=>by cases z)]
   refine wpAny_bind ?_
   refine fun Γ p _=>⟨by simp,?_⟩
   generalize hi:(model P w).w.draws .order (s.drawn.get .order) % (x :: xs).length=i
   have il:i<(x :: xs).length:=by rw [← hi];exact Nat.mod_lt _ (by simp)
   show wpAny (model P w) A (match (x :: xs)[i]? with | some x_1=>(do return x_1 :: (← drawOrder n ((x :: xs).eraseIdx i))) | none=>unsupported "internal:drawOrder") Q E { s with drawn:=s.drawn.bump .order }
   rw [List.getElem?_eq_getElem il]
   dsimp only
   refine wpAny_bind (z3z n _ _ _ (z50 il h) fun ys d' pm=>wpAny_pure ?_)
   exact hq _ d' ((List.Perm.cons _ pm).trans (z2l _ i il))
end
theorem z4e:entryFor table "set_iterator.__iter__" = some Builtin.«dict_keyiterator.__iter__» :=
 entryFor_alias (id':="dict_keyiterator.__iter__") (by kernel_rfl) rfl (by decide +kernel) (by kernel_rfl)
theorem z4y (a:Value):argsOk "set_iterator.__iter__" ⟨[a],[]⟩:=by
 unfold argsOk;rw [signature?_of (id:="set_iterator.__iter__") (n:=['_','_','r','e','t','i','_','_']) (o:=['r','o','t','a','r','e','t','i','_','t','e','s']) (by kernel_rfl) z6e];kernel_rfl
abbrev z5q (first:Value) (i:Nat) (S:Addr) (n ep:Nat):Obj:={ cls:=.type "set_iterator",data:=.fields #[first,rawInt i,.ref S,rawInt n,rawInt ep] }
section
variable (w:World) (S:Addr) (es:Array (Int×Value)) (ep:Nat) (t:SetTable)
inductive Stand (h:Heap) (i:Nat):Value->List (Int×Value)->Prop where
 | txt (b:w.params.followText "set-order" = true):Stand h i (rawInt 0) (pickOrder (w.params.setOrder S ep) es).toList
 | drw (T:Addr) (pl:List Nat) (b:w.params.followText "set-order" = false) (hT:∃ o n,h.get? T=some o/\o.data=.seq (pl.map fun (j:Nat)=>rawInt j).toArray n) (hp:pl.Perm (List.range es.size)):Stand h i (.ref T) (pl.filterMap fun j=>es[j]?)
 | slo (sl:Nat) (b:w.params.followText "set-order" = false) (c:(!t.plain && decide (es.size > 1))=false) (l:t.led=true) (e:SetTable.below t.place sl=i):Stand h i (rawInt sl) es.toList
end
theorem z3J {α:Type}{es:Array α}:∀ {pl:List Nat},(∀ j∈pl,j<es.size)->∀ (i:Nat),(pl.filterMap fun j=>es[j]?)[i]?=(pl[i]?).bind fun j=>es[j]?
 | [],h,i=>by simp
 | a :: pl,h,i=>by
  have hb:=h a List.mem_cons_self
  have ha:es[a]?=some es[a]:=Array.getElem?_eq_getElem hb
  rw [List.filterMap_cons,ha]
  cases i with
  | zero=>simp [ha]
  | succ i=>simpa using z3J (fun j hj=>h j (List.mem_cons_of_mem _ hj)) i
theorem Stand.perm {w:World}{S:Addr}{es:Array (Int×Value)}{ep:Nat}{t:SetTable}{h:Heap}{i:Nat}{f:Value}{ord:List (Int×Value)}(x:Stand w S es ep t h i f ord):ord.Perm es.toList:=by
 cases x with
 | txt b=>exact z8u _ _
 | drw T pl b hT hp =>
  refine (hp.filterMap _).trans ?_
  rw [filterMap_getElem?_range]
 | slo sl b c l e=>exact .refl _
section
variable {P:Program}{w:World}{A:Around}{E:Value->Shared->Prop}{s:Shared}{S I:Addr}{es:Array (Int×Value)}{ep:Nat}{t:SetTable}{i:Nat}{f:Value}{ord:List (Int×Value)}{o:Obj}
theorem z6k {sl:Nat}{Q:Option (Value×Nat)->Shared->Prop}(ho:s.heap.get? S=some o) (hd:o.data=.set es ep t) (hf:t.fits es.size=true) (b:w.params.followText "set-order" = true)
 (h:Q (((pickOrder (w.params.setOrder S ep) es)[i]?).map fun e=>(e.2,sl)) s):wpAny (model P w) A (setNext S sl i ep) Q E s:=by
 unfold setNext setsByText
 refine wpAny_bind (wpAny_setState_of ho hd hf (wpAny_bind (wpAny_bind (wpAny_askSetting (wpAny_pure ?_)))))
 dsimp only
 rw [show (model P w).w.params.followText "set-order" = true from b,if_pos rfl,if_neg (by simp)]
 unfold setWalk setsByText
 refine wpAny_bind (wpAny_bind (wpAny_setState_of ho hd hf (wpAny_bind (wpAny_bind (wpAny_askSetting (wpAny_pure ?_))))))
 dsimp only
 rw [show (model P w).w.params.followText "set-order" = true from b,if_pos rfl]
 refine wpAny_bind (wpAny_askSetting (wpAny_pure (wpAny_pure ?_)))
 exact h
theorem z6l {sl:Nat}{Q:Option (Value×Nat)->Shared->Prop}(ho:s.heap.get? S=some o) (hd:o.data=.set es ep t) (hf:t.fits es.size=true) (b:w.params.followText "set-order" = false)
 (c:(!t.plain && decide (es.size > 1))=false) (l:t.led=true) (h:Q (match es[SetTable.below t.place sl]?,t.place[SetTable.below t.place sl]? with | some (_,x),some j=>some (x,j+1) | _,_=>none) s):wpAny (model P w) A (setNext S sl i ep) Q E s:=by
 unfold setNext setsByText
 refine wpAny_bind (wpAny_setState_of ho hd hf (wpAny_bind (wpAny_bind (wpAny_askSetting (wpAny_pure ?_)))))
 dsimp only
 rw [show (model P w).w.params.followText "set-order" = false from b,if_neg (by decide)]
 rw [if_neg (by show ¬ ((!t.plain && decide (es.size > 1))=true);rw [c];decide)]
 refine wpAny_bind ?_
 show wpAny _ _ (if (!t.led && !es.isEmpty)=true then _ else _) _ _ _
 rw [if_neg (by rw [l];simp)]
 exact wpAny_pure (wpAny_pure h)
theorem zn4 {e:Int×Value}{Q:Option Value->Shared->Prop}(ho:s.heap.get? S=some o) (hd:o.data=.set es ep t) (hf:t.fits es.size=true) (hr:Rise t.place) (hI:s.heap.get? I=some (z5q f i S es.size ep)) (st:Stand w S es ep t s.heap i f ord) (he:ord[i]?=some e) (hSI:S≠I)
 (hQ:∀ h' f',Heap.SameBut I s.heap h'->h'.get? I=some (z5q f' (i+1) S es.size ep)->Stand w S es ep t h' (i+1) f' ord->(∀ T,f'=.ref T->f=.ref T)->Q (some e.2) { s with heap:=h' }):wpAny (model P w) A (pyNext (.ref I)) Q E s:=by
 have hT:s.TypeIs (.ref I) "set_iterator":=⟨_,hI,rfl⟩
 unfold pyNext
 refine wpAny_bind (wpAny_attempt (wpAny_callSpecial?_slot (name:=Str.ofString "__next__") hT slot_si_next (wpAny_call_entry slot_si_next hT z1Q ?_ (z2u _))))
 show wpAny _ _ (fieldsOf (.ref I) >>= _) _ _ s
 refine wpAny_bind (wpAny_fieldsOf hI rfl ?_)
 show wpAny _ _ (setEntries S >>= _) _ _ s
 refine wpAny_bind (wpAny_setEntries_of ho hd hf ?_)
 rw [if_neg (by simp)]
 have upd:∀ (h0:Heap) (vs:Array Value) (j:Nat) (v:Value),h0.get? I=some { cls:=.type "set_iterator",data:=.fields vs }->(h0.update I (Obj.mapFields (·.setIfInBounds j v))).get? I=some { cls:=.type "set_iterator",data:=.fields (vs.setIfInBounds j v) }:=fun h0 vs j v e=>by
  have:=Heap.get?_update_self (Obj.mapFields (·.setIfInBounds j v)) e (Obj.isFreed_of_fields (Obj.data_mapFields rfl _))
  exact this
 have fin:∀ (f':Value) (j:Nat) (R:PySem.Fin->Shared->Prop) (R2:Value->Shared->Prop),(∀ h',Heap.SameBut I s.heap h'->h'.get? I=some (z5q f' (i+1) S es.size ep)->R (.done (.ret e.2)) { s with heap:=h' }) ->
  wpAny (model P w) A.in1 (setField (.ref I) 0 f' >>= fun _=>setField (.ref I) 1 (rawInt ((i:Int)+1)) >>= fun _=>ret e.2) R R2 s:=fun f' j R R2 q=>by
  have u1:=upd s.heap _ 0 f' hI
  refine wpAny_bind (wpAny_setField hI rfl (by simp) (wpAny_bind (wpAny_setField u1 rfl (by simp) (wpAny_pure (q _ ((Heap.SameBut.update ..).trans (Heap.SameBut.update ..)) ?_)))))
  rw [upd _ _ 1 _ u1]
  simp [rawInt]
 cases st with
 | txt b =>
  show wpAny _ _ (setNext S (0:Int).toNat (i:Int).toNat (ep:Int).toNat >>= _) _ _ _
  rw [Int.toNat_natCast,Int.toNat_natCast]
  refine wpAny_bind (z6k ho hd hf b ?_)
  rw [← Array.getElem?_toList,he]
  exact fin (rawInt 0) 0 _ _ fun h' sb q=>⟨_,rfl,wpAny_pure (hQ h' _ sb q (.txt b) fun T z=>by cases z)⟩
 | slo sl b c l e2 =>
  have hi:i<es.size:=by simpa using (List.getElem?_eq_some_iff.mp he).1
  have he2:es[i]?=some e:=by rw [← Array.getElem?_toList];exact he
  have sz:t.place.size=es.size:=by
   unfold SetTable.fits at hf
   simp at hf
   exact hf.1
  have hp:t.place[i]?=some (t.place[i]'(by omega)):=Array.getElem?_eq_getElem (by omega)
  show wpAny _ _ (setNext S (sl:Int).toNat (i:Int).toNat (ep:Int).toNat >>= _) _ _ _
  rw [Int.toNat_natCast,Int.toNat_natCast,Int.toNat_natCast]
  refine wpAny_bind (z6l ho hd hf b c l ?_)
  rw [e2,he2,hp]
  refine fin (rawInt ((t.place[i]'(by omega)+1:Nat):Int)) 0 _ _ fun h' sb q=>⟨_,rfl,wpAny_pure (hQ h' _ sb q (.slo _ b c l (z6Y hr hp)) fun T z=>by cases z)⟩
 | drw T pl b hT hp =>
  obtain ⟨oT,nT,gT,dT⟩:=hT
  have hb:∀ j∈pl,j<es.size:=fun j hj=>by simpa using hp.mem_iff.mp hj
  rw [z3J hb] at he
  cases hpi:pl[i]? with
  | none=>rw [hpi] at he;cases he
  | some j =>
   rw [hpi] at he
   have hej:es[j]?=some e:=he
   have hTI:T≠I:=fun z=>by
    subst z
    rw [hI] at gT
    cases gT
    cases dT
   show wpAny _ _ (seqItems? (.ref T) >>= _) _ _ _
   refine wpAny_bind (wpAny_seqItems gT dT ?_)
   dsimp only
   rw [Int.toNat_natCast,show ((pl.map fun (j:Nat)=>rawInt j).toArray)[i]?=some (rawInt j) by simp [hpi]]
   show wpAny _ _ (setNextDrawn S (j:Int).toNat (ep:Int).toNat >>= _) _ _ _
   rw [Int.toNat_natCast,Int.toNat_natCast]
   unfold setNextDrawn
   refine wpAny_bind (wpAny_bind (wpAny_setState_of ho hd hf ?_))
   dsimp only
   rw [if_neg (by simp),hej]
   refine wpAny_pure ?_
   have u1:=upd s.heap _ 1 (rawInt ((i:Int)+1)) hI
   refine wpAny_bind (wpAny_setField hI rfl (by simp) (wpAny_pure ⟨_,rfl,wpAny_pure (hQ _ (.ref T) (Heap.SameBut.update ..) ?_ (.drw T pl b ⟨oT,nT,?_,dT⟩ hp) fun _ z=>z)⟩))
   ·rw [u1];simp [rawInt]
   ·rw [Heap.get?_update_other _ _ (Ne.symm hTI)];exact gT
theorem zl9 {Q:Option Value->Shared->Prop}(hh:A.handled=none) (ho:s.heap.get? S=some o) (hd:o.data=.set es ep t) (hf:t.fits es.size=true) (hI:s.heap.get? I=some (z5q f es.size S es.size ep)) (st:Stand w S es ep t s.heap es.size f ord)
 (hQ:∀ h',Heap.ExtBut I s.heap h'->Q none { s with heap:=h' }):wpAny (model P w) A (pyNext (.ref I)) Q E s:=by
 have hT:s.TypeIs (.ref I) "set_iterator":=⟨_,hI,rfl⟩
 have hl:ord.length=es.size:=by rw [st.perm.length_eq,Array.length_toList]
 unfold pyNext
 refine wpAny_bind (wpAny_attempt (wpAny_callSpecial?_slot (name:=Str.ofString "__next__") hT slot_si_next (wpAny_call_entry slot_si_next hT z1Q ?_ (z2u _))))
 show wpAny _ _ (fieldsOf (.ref I) >>= _) _ _ s
 refine wpAny_bind (wpAny_fieldsOf hI rfl ?_)
 show wpAny _ _ (setEntries S >>= _) _ _ s
 refine wpAny_bind (wpAny_setEntries_of ho hd hf ?_)
 rw [if_neg (by simp)]
 have stop:∀ (h1:Heap) (Z:PySem.Fin->Shared->Prop),Heap.ExtBut I s.heap h1->wpAny (model P w) A.in1 (newExc (.type "StopIteration") [] >>= fun x=>(raiseNew x:Sem PySem.Fin)) Z (fun e s'=>wpAny (model P w) A (do let __do_lift ← isInstance e (Value.type "StopIteration");if __do_lift=true then pure none else throw e) Q E s') { s with heap:=h1 }:=fun h1 Z eb=>by
  refine wpAny_bind ?_
  simp only [newExc,newTuple]
  refine wpAny_bind (wpAny_newObj_type ?_ (by size_fits))
  refine wpAny_bind (m:=firstArgMember _ _) (wpAny_of_eq (a:=Value.none) (by first | rfl | (simp only [firstArgMember];rfl)) ?_)
  refine wpAny_newObj_type ?_ (by size_fits)
  simp only [raiseNew]
  refine wpAny_bind (wpAny_handled ?_)
  rw [show A.in1.handled=none by simp [hh]]
  refine wpAny_bind (wpAny_pure (wpAny_throw ?_))
  refine wpAny_bind (wpAny_isInstance (T:="StopIteration") (b:=true) ⟨_,Heap.get?_push_size _ rfl,rfl⟩ isSubtype_stop ?_)
  exact wpAny_pure (hQ _ ((eb.push _).push _))
 cases st with
 | txt b =>
  show wpAny _ _ (setNext S (0:Int).toNat (es.size:Int).toNat (ep:Int).toNat >>= _) _ _ _
  rw [Int.toNat_natCast,Int.toNat_natCast]
  refine wpAny_bind (z6k ho hd hf b ?_)
  rw [← Array.getElem?_toList,List.getElem?_eq_none (by omega)]
  exact wpAny_bind (wpAny_setField hI rfl (by simp) (stop _ _ (Heap.SameBut.update ..).extBut))
 | slo sl b c l e2 =>
  show wpAny _ _ (setNext S (sl:Int).toNat (es.size:Int).toNat (ep:Int).toNat >>= _) _ _ _
  rw [Int.toNat_natCast,Int.toNat_natCast,Int.toNat_natCast]
  refine wpAny_bind (z6l ho hd hf b c l ?_)
  rw [e2,Array.getElem?_eq_none (Nat.le_refl _)]
  exact wpAny_bind (wpAny_setField hI rfl (by simp) (stop _ _ (Heap.SameBut.update ..).extBut))
 | drw T pl b hT hp =>
  obtain ⟨oT,nT,gT,dT⟩:=hT
  have lp:pl.length=es.size:=by rw [hp.length_eq,List.length_range]
  show wpAny _ _ (seqItems? (.ref T) >>= _) _ _ _
  refine wpAny_bind (wpAny_seqItems gT dT ?_)
  dsimp only
  rw [Int.toNat_natCast,show ((pl.map fun (j:Nat)=>rawInt j).toArray)[es.size]?=none by simp [lp]]
  have u1:(s.heap.update I (Obj.mapFields (·.setIfInBounds 0 (rawInt 0)))).get? I=some { cls:=.type "set_iterator",data:=.fields (#[.ref T,rawInt es.size,.ref S,rawInt es.size,rawInt ep].setIfInBounds 0 (rawInt 0)) } :=
   Heap.get?_update_self _ hI (Obj.isFreed_of_fields (Obj.data_mapFields rfl _))
  exact wpAny_bind (wpAny_setField hI rfl (by simp) (wpAny_bind (wpAny_setField u1 rfl (by simp) (stop _ _ ((Heap.SameBut.update ..).trans (Heap.SameBut.update ..)).extBut))))
end
theorem zd2 {P:Program}{w:World}{A:Around}{S I:Addr}{es:Array (Int×Value)}{ep:Nat}{t:SetTable}{ord:List (Int×Value)}{o:Obj}{tl:List Addr}(hh:A.handled=none) (hd:o.data=.set es ep t) (hf:t.fits es.size=true) (hr:Rise t.place) (hSI:S≠I) (hl:ord.length=es.size) (htl:I∉tl) :
 Walks P w A I (I :: S :: tl) [I] es.size (fun i v=>∃ e,ord[i]?=some e/\v=e.2) (fun i h=>h.get? S=some o/\∃ f,(∀ T,f=.ref T->T∈tl)/\h.get? I=some (z5q f i S es.size ep)/\Stand w S es ep t h i f ord) where
 sub:=fun b hb=>by simp at hb;simp [hb]
 frame:=fun i h h' st hk=>by
  obtain ⟨q1,f,q2,q3,q4⟩:=st
  refine ⟨hk S (by simp) _ q1,f,q2,hk I (by simp) _ q3,?_⟩
  cases q4 with
  | txt b=>exact .txt b
  | slo sl b c l e2=>exact .slo sl b c l e2
  | drw T pl b hT hp =>
   obtain ⟨oT,nT,gT,dT⟩:=hT
   exact .drw T pl b ⟨oT,nT,hk T (by simp [q2 T rfl]) _ gT,dT⟩ hp
 item:=fun i s Q E hi st hQ=>by
  obtain ⟨q1,f,q2,q3,q4⟩:=st
  have he:ord[i]?=some (ord[i]'(by omega)):=List.getElem?_eq_getElem (by omega)
  refine zn4 q1 hd hf hr q3 q4 he hSI fun h' f' sb g st' tt=>?_
  refine hQ _ h' s.toks ⟨_,he,rfl⟩ ⟨?_,f',fun T z=>q2 T (tt T z),g,st'⟩ fun b ob hb e=>?_
  ·rw [sb.2 S hSI];exact q1
  ·rw [sb.2 b (fun z=>hb (by simp [z]))];exact e
 done:=fun s Q E st hQ=>by
  obtain ⟨q1,f,q2,q3,q4⟩:=st
  exact zl9 hh q1 hd hf q3 q4 fun h' eb=>hQ h' s.toks fun b ob hb e=>eb b ob (fun z=>hb (by simp [z])) e
 self:=fun i s Q E st hQ=>by
  obtain ⟨q1,f,q2,q3,q4⟩:=st
  have hT:s.TypeIs (.ref I) "set_iterator":=⟨_,q3,rfl⟩
  refine wpAny_pyIter_slot hT z2C (wpAny_call_entry z2C hT z4e ?_ (z4y _))
  show wpAny _ _ (ret (.ref I)) _ _ s
  exact wpAny_pure ⟨_,rfl,"set_iterator",_,hT,slot_si_next.lookup,hQ⟩
section
variable {P:Program}{w:World}{A:Around}{E:Value->Shared->Prop}{s:Shared}{S:Addr}{es:Array (Int×Value)}{ep:Nat}{t:SetTable}{o:Obj}
theorem z9M {Q:Value->Shared->Prop}(ho:s.heap.get? S=some o) (hc:o.ExactSet) (hd:o.data=.set es ep t) (hf:t.fits es.size=true) (hr:Rise t.place) (hb:es.size<scanBound) (hl:t.led=true∨w.params.followText "set-order" = true)
 (hQ:∀ (h':Heap) (d':Drawn) (I:Addr) (f:Value) (ord:List (Int×Value)) (tl:List Addr),(∀ b ob,s.heap.get? b=some ob->h'.get? b=some ob)->s.heap.objs.size≤I->h'.get? I=some (z5q f 0 S es.size ep)->(∀ T,f=.ref T->T∈tl)->(∀ T∈tl,s.heap.objs.size≤T/\T<h'.objs.size/\T≠I)->Stand w S es ep t h' 0 f ord->Q (.ref I) { s with heap:=h',drawn:=d' }) :
 wpAny (model P w) A (pyIter (.ref S)) Q E s:=by
 have hT:s.TypeIs (.ref S) "set":=⟨o,ho,hc.1⟩
 refine wpAny_pyIter_slot hT F.slot_set_iter (wpAny_call_entry F.slot_set_iter hT z5f ?_ (z5S _))
 unfold Builtin.«frozenset.__iter__» Builtin.Frozenset.slot0 slotArgs
 simp only [List.isEmpty_nil,Bool.not_true,Bool.false_eq_true,↓reduceIte,bind_assoc,List.length_nil,bne_self_eq_false]
 unfold Builtin.Frozenset.addrOf Builtin.Frozenset.sizeOf
 refine wpAny_bind (wpAny_pure ?_)
 try dsimp only
 refine wpAny_bind (wpAny_pure ?_)
 refine wpAny_bind (wpAny_bind (wpAny_setEntries_of ho hd hf (wpAny_pure ?_)))
 unfold setDrawn setsByText
 refine wpAny_bind (wpAny_bind (wpAny_setState_of ho hd hf (wpAny_bind (wpAny_bind (wpAny_askSetting (wpAny_pure (wpAny_pure ?_)))))))
 dsimp only
 have tailW:∀ (h0:Heap) (d0:Drawn) (first:Value) (ord:List (Int×Value)) (tl:List Addr),(∀ b ob,s.heap.get? b=some ob->h0.get? b=some ob)->s.heap.objs.size≤h0.objs.size->(∀ T,first=.ref T->T∈tl)->(∀ T∈tl,s.heap.objs.size≤T/\T<h0.objs.size) ->
  (∀ h',(∀ b ob,h0.get? b=some ob->h'.get? b=some ob)->Stand w S es ep t h' 0 first ord) ->
  wpAny (model P w) A.in1 (setEpoch S >>= fun e=>newFields "set_iterator" [first,rawInt 0,.ref S,rawInt es.size,rawInt e] >>= fun v=>ret v) (fun fin s'=>∃ v,fin=.done (.ret v)/\∃ T' r,s'.TypeIs v T'/\typeLookup (Value.type T') (Str.ofString "__next__")=pure (some r)/\Q v s') E { s with heap:=h0,drawn:=d0 }:=fun h0 d0 first ord tl k1 k2 k3 k4 k5=>by
  refine wpAny_bind (wpAny_setEpoch_of (s:={ s with heap:=h0,drawn:=d0 }) (k1 S o ho) hd hf ?_)
  refine wpAny_bind (wpAny_newObj_type (wpAny_pure ⟨_,rfl,"set_iterator",_,⟨_,Heap.get?_push_size _ rfl,rfl⟩,slot_si_next.lookup,?_⟩))
  refine hQ _ d0 h0.objs.size first ord tl (fun b ob e=>Heap.get?_push_of_some _ (k1 b ob e)) k2 (Heap.get?_push_size _ rfl) k3 (fun T hT=>?_) (k5 _ fun b ob e=>Heap.get?_push_of_some _ e)
  obtain ⟨z1,z2⟩:=k4 T hT
  exact ⟨z1,by rw [Heap.size_push];exact Nat.lt_succ_of_lt z2,Nat.ne_of_lt z2⟩
 cases hb':w.params.followText "set-order" with
 | true =>
  rw [show (model P w).w.params.followText "set-order" = true from hb',if_neg (by simp)]
  refine wpAny_bind (wpAny_pure ?_)
  exact tailW s.heap s.drawn (rawInt 0) _ [] (fun _ _ e=>e) (Nat.le_refl _) (fun T z=>by cases z) (fun T z=>by cases z) fun h' _=>.txt hb'
 | false =>
  rw [show (model P w).w.params.followText "set-order" = false from hb']
  have led:t.led=true:=by
   rcases hl with hl | hl
   ·exact hl
   ·rw [hb'] at hl;cases hl
  show wpAny _ _ (if (!false && (!t.plain && decide (es.size > 1)))=true then _ else _) _ _ _
  rw [Bool.not_false,Bool.true_and]
  cases hdr:(!t.plain && decide (es.size > 1)) with
  | false =>
   rw [if_neg (by decide)]
   refine wpAny_bind (wpAny_pure ?_)
   exact tailW s.heap s.drawn (rawInt 0) _ [] (fun _ _ e=>e) (Nat.le_refl _) (fun T z=>by cases z) (fun T z=>by cases z) fun h' _=>.slo 0 hb' hdr led (z72 hr)
  | true =>
   rw [if_pos rfl]
   refine wpAny_bind (z3z es.size (List.range es.size) s _ (by simp) fun ys d' pm=>?_)
   have ly:(ys.map fun (i:Nat)=>rawInt i).length≤sizeLine:=by
    rw [List.length_map,pm.length_eq,List.length_range]
    exact fits_of_scanBound hb
   refine wpAny_bind (wpAny_newTuple ?_ ly)
   refine tailW (s.heap.push { cls:=.type "tuple",data:=.seq (ys.map fun (i:Nat)=>rawInt i).toArray }) d' (.ref s.heap.objs.size) _ [s.heap.objs.size] (fun b ob e=>Heap.get?_push_of_some _ e) (by rw [Heap.size_push];exact Nat.le_succ _)
    (fun T z=>by cases z;exact List.mem_singleton.mpr rfl) (fun T z=>?_) fun h' k=>.drw s.heap.objs.size ys hb' ⟨_,_,k _ _ (Heap.get?_push_size _ rfl),rfl⟩ pm
   have:=List.mem_singleton.mp z
   subst this
   exact ⟨Nat.le_refl _,by rw [Heap.size_push];exact Nat.lt_succ_self _⟩
theorem z5B {Q:List Value->Shared->Prop}(hh:A.handled=none) (ho:s.heap.get? S=some o) (hc:o.ExactSet) (hd:o.data=.set es ep t) (hf:t.fits es.size=true) (hr:Rise t.place) (hb:es.size<scanBound) (hl:t.led=true∨w.params.followText "set-order" = true)
 (hQ:∀ (h':Heap) (d':Drawn) (tk:Nat) (ord:List (Int×Value)),(∀ b ob,s.heap.get? b=some ob->h'.get? b=some ob)->s.heap.objs.size≤h'.objs.size->ord.Perm es.toList->Q (ord.map (·.2)) { s with heap:=h',drawn:=d',toks:=tk }) :
 wpAny (model P w) A (collect (.ref S)) Q E s:=by
 have hS:S<s.heap.objs.size:=Heap.lt_size ho
 unfold collect
 refine wpAny_bind (wpAny_runValue (codeAny_builtin F.entry_proto_collect ?_))
 rw [Around.under_plainId F.plain_proto_collect _]
 show wpAny _ A.in1 (newList [] >>= fun l=>again (.builtin "list.__iadd__" ⟨[l,.ref S],[]⟩)) _ _ s
 refine wpAny_bind (wpAny_newObj_type (wpAny_pure ⟨plainId_quiet F.plain_list_iadd _,codeAny_builtin F.entry_list_iadd ?_⟩))
 rw [Around.under_plainId F.plain_list_iadd _]
 show wpAny _ A.in1 (Builtin.List.listExtendWith (.ref s.heap.objs.size) (.ref S) (.ref s.heap.objs.size)) _ _ _
 unfold Builtin.List.listExtendWith
 have g1:(s.heap.push { cls:=.type "list",data:=.seq ([]:List Value).toArray }).get? S=some o:=Heap.get?_push_of_some _ ho
 have tS:Shared.TypeIs { s with heap:=s.heap.push { cls:=.type "list",data:=.seq ([]:List Value).toArray } } (.ref S) "set":=⟨o,g1,hc.1⟩
 refine wpAny_bind (wpAny_typeOf tS ?_)
 have n1:Builtin.List.listSameRef (.ref s.heap.objs.size) (.ref S)=false:=by
  simp only [Builtin.List.listSameRef]
  exact beq_eq_false_iff_ne.mpr (Nat.ne_of_gt hS)
 rw [if_neg (by rw [n1];decide)]
 refine wpAny_bind (z9M (s:={ s with heap:=s.heap.push { cls:=.type "list",data:=.seq ([]:List Value).toArray } }) g1 hc hd hf hr hb hl fun h1 d1 I f ord tl k1 k2 k3 k4 k5 st=>?_)
 have g2:h1.get? S=some o:=k1 S o g1
 have gL:h1.get? s.heap.objs.size=some { cls:=.type "list",data:=.seq ([]:List Value).toArray }:=k1 _ _ (Heap.get?_push_size _ rfl)
 have tS2:Shared.TypeIs { s with heap:=h1,drawn:=d1 } (.ref S) "set":=⟨o,g2,hc.1⟩
 refine wpAny_bind (wpAny_holding ?_)
 unfold Builtin.List.listLengthHint
 refine wpAny_bind (wpAny_specialOf tS2 F.slot_set_len.lookup ?_)
 have sp:splitId "set.__len__" = some ("set","__len__"):=by decide +kernel
 dsimp only
 rw [sp]
 dsimp only
 refine wpAny_bind (wpAny_isInstance (b:=true) tS2 (by rw [isSubtype_type];kernel_rfl) ?_)
 rw [if_neg (by decide),if_pos (by decide +kernel)]
 refine wpAny_bind (wpAny_typeOf tS2 (wpAny_pure ?_))
 rw [if_pos (by decide +kernel)]
 have u1:=get?_update_seq (c:="list") (xs:=([]:List Value).toArray) (n:=0) gL (·.push .none)
 have u2:=get?_update_seq u1 (·.pop)
 refine wpAny_bind (wpAny_rule ?_)
 unfold Builtin.List.listTouch
 refine wpAny_bind (wpAny_bind (listUpdate_at (s:={ s with heap:=h1,drawn:=d1 }) gL rfl (listUpdate_at (s:={ s with heap:=h1.update s.heap.objs.size (Obj.mapSeq (·.push .none)),drawn:=d1 }) u1 rfl ?_)))
 generalize hh2:(h1.update s.heap.objs.size (Obj.mapSeq (·.push .none))).update s.heap.objs.size (Obj.mapSeq (·.pop))=h2 at u2 ⊢
 have keep2:∀ b ob,b≠s.heap.objs.size->h1.get? b=some ob->h2.get? b=some ob:=fun b ob hb e=>by
  rw [← hh2,Heap.get?_update_other _ _ (Ne.symm hb),Heap.get?_update_other _ _ (Ne.symm hb)]
  exact e
 have hIs:s.heap.objs.size+1≤I:=by rw [Heap.size_push] at k2;exact k2
 have hSI:S≠I:=Nat.ne_of_lt (Nat.lt_of_lt_of_le hS (Nat.le_of_succ_le hIs))
 have lo:ord.length=es.size:=by rw [st.perm.length_eq,Array.length_toList]
 have W:=zd2 (P:=P) (w:=w) (A:=A.in1) (S:=S) (I:=I) (ord:=ord) (o:=o) (tl:=tl) (by simp [hh]) hd hf hr hSI lo (fun z=>(k5 I z).2.2 rfl)
 have hLf:s.heap.objs.size∉I :: S :: tl:=by
  simp only [List.mem_cons,not_or]
  refine ⟨Nat.ne_of_lt hIs,Nat.ne_of_gt hS,fun z=>?_⟩
  have:=(k5 _ z).1
  rw [Heap.size_push] at this
  exact Nat.lt_irrefl _ this
 have st0:(fun i (h:Heap)=>h.get? S=some o/\∃ f,(∀ T,f=.ref T->T∈tl)/\h.get? I=some (z5q f i S es.size ep)/\Stand w S es ep t h i f ord) 0 h2:=by
  refine ⟨keep2 S o (Nat.ne_of_lt hS) g2,f,k4,keep2 I _ (Nat.ne_of_gt hIs) k3,?_⟩
  cases st with
  | txt b=>exact .txt b
  | slo sl b c l e2=>exact .slo sl b c l e2
  | drw T pl b hT hp =>
   obtain ⟨oT,nT,gT,dT⟩:=hT
   refine .drw T pl b ⟨oT,nT,keep2 T oT (fun z=>?_) gT,dT⟩ hp
   have:=(k5 T (k4 T rfl)).1
   rw [Heap.size_push,z] at this
   exact Nat.lt_irrefl _ this
 refine wpAny_pure ⟨plainId_quiet F.plain_extend_loop _,codeAny_extend_loopS W.toS (fits_of_scanBound hb) s.heap.objs.size hLf _ es.size 0 { s with heap:=h2,drawn:=d1 } #[] 2 (by omega) (Nat.zero_le _) st0 (by simpa [seqObj] using u2) (ItemsOf.nil _) fun s' acc c' hm gS' hacc=>?_⟩
 show wpAny _ A (load s.heap.objs.size >>= _) _ _ s'
 refine wpAny_bind (wpAny_load gS' (wpAny_pure ?_))
 have ea:acc.toList=ord.map (·.2):=by
  refine List.ext_getElem? fun j=>?_
  rw [List.getElem?_map,Array.getElem?_toList]
  cases hj:acc[j]? with
  | none =>
   have h1:=Array.getElem?_eq_none_iff.mp hj
   rw [hacc.1] at h1
   rw [List.getElem?_eq_none (by omega)]
   rfl
  | some v =>
   obtain ⟨e,h1,h2⟩:=hacc.2 j v hj
   rw [h1,h2]
   rfl
 rw [ea]
 obtain ⟨h',g',d',tk',os'⟩:=s'
 have e1:g'=s.gens:=hm.gens
 have e2:d'=d1:=hm.drawn
 have e3:os'=s.os:=hm.os
 subst e1;subst e2;subst e3
 refine hQ h' d' tk' ord (fun b ob e=>?_) ?_ st.perm
 ·have hb2:b≠s.heap.objs.size:=Nat.ne_of_lt (Heap.lt_size e)
  refine hm.heap b ob ?_ (keep2 b ob hb2 (k1 b ob (Heap.get?_push_of_some _ e)))
  simp only [List.mem_cons,List.mem_singleton,List.not_mem_nil,or_false,not_or]
  exact ⟨hb2,Nat.ne_of_lt (Nat.lt_of_lt_of_le (Heap.lt_size e) (Nat.le_of_succ_le hIs))⟩
 ·exact Nat.le_of_lt (Heap.lt_size gS')
end
theorem zk9 {k:Key}{u:Value}(r:RelV (kV k) u):z10 k u=true:=by
 cases k with
 | inl i=>obtain ⟨t,rfl⟩:=r;exact z57 i t
 | inr x=>obtain ⟨t,rfl⟩:=r;exact z56 x t
theorem z5b:∀ {ks:List Key}{us:List Value},Vals (ks.map kV) us->∀ (i:Nat) u,us[i]?=some u->∃ k,ks[i]?=some k/\z10 k u=true
 | [],_,h,i,u,e=>by cases h;simp at e
 | k :: ks,_,.cons h1 h2,0,u,e=>by simp at e;subst e;exact ⟨k,rfl,zk9 h1⟩
 | k :: ks,_,.cons h1 h2,i+1,u,e=>by
  obtain ⟨k',q1,q2⟩:=z5b h2 i u (by simpa using e)
  exact ⟨k',by simpa using q1,q2⟩
theorem z7l (ks:List Key):(List.range ks.length).map (fun i=>(ks[i]?).getD (.inl 0))=ks:=by
 refine List.ext_getElem? fun i=>?_
 rw [List.getElem?_map]
 by_cases h:i<ks.length
 ·rw [List.getElem?_range h,List.getElem?_eq_getElem h]
  simp [List.getElem?_eq_getElem h]
 ·rw [List.getElem?_eq_none (by simpa using h),List.getElem?_eq_none (by omega)]
  rfl
section
variable {X:Cx}
theorem z83 (hc:X.calm=true):z1y X (.type "set") (fun xs H Q=>∃ l ks,xs=[.ref l]/\(SqL X.K H l (ks.map kV)∨SqT X.K H l (ks.map kV))/\ks.length+1<scanBound/\∀ q,H q=none->Q (.ref q) (upd H q (.set (dedK ks)))):=by
 intro pins s σ H xs us Q I r h
 obtain ⟨l,ks,rfl,hq,hb,q⟩:=h
 obtain ⟨u,rfl,ru⟩:=vals1 r
 cases ru
 have hh:=I.ok.hd hc
 have go:∀ {its:List Value} {T:String},T = "list"∨T = "tuple"->Vals (ks.map kV) its->(∃ o,s.heap.get? l=some o/\o.cls=.type T/\∃ n,o.data=.seq its.toArray n)->wpAny (model X.prog X.w) X.A (call (.type "set") [.ref l]) (EP X pins σ Q) X.xe s:=fun {its T} hT rv hl=>by
  have le:its.length=ks.length:=by rw [← rv.length,List.length_map]
  refine z8e (key:=fun i=>(ks[i]?).getD (.inl 0)) hT hh hl (fun i v e=>?_) (by rw [List.size_toArray,le];exact hb) fun h' tk S2 kp=>?_
  ·obtain ⟨k,e1,e2⟩:=z5b rv i v (by simpa using e)
   rw [e1]
   exact e2
  ·rw [show its.toArray.size=ks.length by rw [List.size_toArray,le],z7l] at S2
   exact ⟨.ref s.heap.objs.size,_,I.laid (t':=tk) (o:=.set (dedK ks)) kp (Nat.le_refl _) S2,rfl,q _ I.fresh⟩
 rcases hq with hq | hq
 ·obtain ⟨its,r',pl,hz⟩:=I.list hq
  exact go (.inl rfl) r' pl.isList
 ·obtain ⟨its,r',pl,hz⟩:=I.tuple hq
  exact go (.inr rfl) r' pl
theorem zr2 {pins:List (Addr×Obj)}{σ:L2.St}{H:Hp}{s:Shared}{a:Addr}{ks:List Key}(I:L2.Inv X pins σ H s) (h:H a=some (.set ks)):SetAt X.w s.heap a ks:=I.hok a _ h
theorem z7D:∀ {ns:List Int}{l:List (Int×Value)}{w:World}{ks:List Key},ks=ns.map Sum.inl->Paired (KE w) ks l->IntsAre (l.map (·.2)) ns
 | [],l,w,ks,e,h=>by subst e;cases h;exact .nil
 | n :: ns,l,w,ks,e,h=>by
  subst e
  cases h with
  | cons h1 h2 =>
   rcases j6 h1.1 with ⟨i,t,e1,e2⟩ | ⟨x,t,e1,e2⟩
   ·cases e1
    rw [List.map_cons,e2]
    exact .cons _ t (z7D rfl h2)
   ·cases e1
theorem z9V {ns:List Int}:∀ {ks:List Key},ks.Perm (ns.map Sum.inl)->∃ ms:List Int,ks=ms.map Sum.inl/\ms.Perm ns:=fun {ks} p=>by
 have:∀ k∈ks,∃ i:Int,k=Sum.inl i:=fun k hk=>by
  obtain ⟨i,_,e⟩:=List.mem_map.mp (p.mem_iff.mp hk)
  exact ⟨i,e.symm⟩
 have e:ks=(ks.filterMap fun k=>match k with | .inl i=>some i | .inr _=>none).map Sum.inl:=by
  clear p
  induction ks with
  | nil=>rfl
  | cons k ks ih =>
   obtain ⟨i,rfl⟩:=this k List.mem_cons_self
   rw [List.filterMap_cons]
   dsimp only
   rw [List.map_cons,← ih fun k hk=>this k (List.mem_cons_of_mem _ hk)]
 refine ⟨_,e,?_⟩
 have q:=p.filterMap fun k=>match k with | .inl i=>some i | .inr _=>none
 refine q.trans ?_
 rw [List.filterMap_map]
 have:(List.filterMap ((fun k:Key=>match k with | .inl i=>some i | .inr _=>none) ∘ Sum.inl) ns)=ns:=by
  induction ns with
  | nil=>rfl
  | cons n ns ih=>simp [Function.comp_def]
 rw [this]
theorem z5l (hc:X.calm=true):z1y X (.builtin "sorted") (fun xs H Q=>∃ a ns,xs=[.ref a]/\H a=some (.set (ns.map Sum.inl))/\ns.length<64/\∀ q,H q=none->Q (.ref q) (upd H q (.lst ((sortI ns).map V.int)))):=by
 intro pins s σ H xs us Q I r h
 obtain ⟨a,ns,rfl,hH,h64,q⟩:=h
 obtain ⟨u,rfl,ru⟩:=vals1 r
 cases ru
 obtain ⟨o,es,ep,t,ks',h1,h2,h3,h4,h5,h6,h7,h8,h9,h0⟩:=zr2 I hH
 refine Calls.call_function_entry kind_sorted plain_sorted entry_sorted (args_sorted1 _) ?_
 unfold Builtin.«sorted»
 refine wpAny_bind (m:=checkCount "sorted" 1 1 _) (wpAny_pure ?_)
 refine wpAny_bind (z5B (by simp [I.ok.hd hc]) h1 h2 h3 h8 h9 h7 h0 fun h' d' tk ord kp sz pm=>?_)
 obtain ⟨k2,p1,p2⟩:=z1K pm h4
 obtain ⟨ms,rfl,pm2⟩:=z9V (p1.trans h5)
 have ia:=z7D rfl p2
 have l1:(ord.map (·.2)).length=ns.length:=by rw [← pm2.length_eq,List.length_map,← Paired.length p2,List.length_map]
 refine wpAny_bind (wpAny_newList ?_ (by rw [l1];exact Nat.le_of_lt (Nat.lt_of_lt_of_le h64 (by decide))))
 have gL:(h'.push (seqObj "list" (ord.map (·.2)).toArray 0)).get? h'.objs.size=some (seqObj "list" (ord.map (·.2)).toArray 0):=Heap.get?_push_size _ rfl
 refine wpAny_bind (wpAny_holding (wpAny_call_entry slot_list_sort ⟨_,gL,rfl⟩ entry_list_sort (list_sort_tree gL ia (by rw [l1];exact h64) fun out ns' a1 a2 a3=>⟨_,rfl,?_⟩) (args_list_sort _)))
 refine wpAny_pure ⟨_,rfl,?_⟩
 obtain ⟨e,ge⟩:=sortedHeap_at (out:=out) gL
 have es':ns'=sortI ns:=z40 (a2.trans pm2) a3
 subst es'
 have un:∀ b ob,s.heap.get? b=some ob->(sortedHeap (h'.push (seqObj "list" (ord.map (·.2)).toArray 0)) h'.objs.size (ord.map (·.2)) out).get? b=some ob:=fun b ob eb=>by
  have lt:=Heap.lt_size (kp b ob eb)
  rw [sortedHeap_old (Nat.ne_of_lt lt) (by rw [Heap.size_push];exact Nat.lt_succ_of_lt lt)]
  exact Heap.get?_push_of_some _ (kp b ob eb)
 have ho:=I.hok.laid (a:=h'.objs.size) (o:=.lst ((sortI ns).map V.int)) un sz ⟨by rw [List.length_map,(sortI_perm ns).length_eq];exact Nat.le_of_lt (Nat.lt_of_lt_of_le h64 (by decide)),out.toList,e,z3U a1,ge⟩
 exact ⟨.ref h'.objs.size,_,I.call' (s':={ s with heap:=_,drawn:=d',toks:=tk }) (ch:=[]) rfl (Un.laid un sz (I.hok.fresh sz)) ho I.bare (fun b z=>absurd z (by simp)),rfl,q _ (I.hok.fresh sz)⟩
end
section
variable {P:Program}{w:World}{A:Around}{E:Value->Shared->Prop}{s:Shared}
end
def keyD:D->Option Key
 | .int i=>some (.inl i)
 | .str x=>some (.inr x)
 | _=>none
def z4d:List D->Option (List Key)
 | []=>some []
 | d :: r=>match keyD d,z4d r with
  | some k,some ks=>some (k :: ks)
  | _,_=>none
theorem zo1 {K:PySem.W.Frag}{ρ:List Addr}{H:Hp}{d:D}{k:Key}{v:V}(e:keyD d=some k) (r:RD K ρ H d v):v=kV k:=by
 cases d<;>first | (simp only [keyD] at e;cases e;done) | skip
 ·simp only [keyD,Option.some.injEq] at e;subst e;simp only [RD] at r;exact r
 ·simp only [keyD,Option.some.injEq] at e;subst e;simp only [RD] at r;exact r
theorem z6E {K:PySem.W.Frag}{ρ:List Addr}{H:Hp}:∀ {ds:List D}{ks:List Key}{vs:List V},z4d ds=some ks->RDs K ρ H ds vs->vs=ks.map kV
 | [],ks,vs,e,r=>by simp only [RDs] at r;cases e;subst r;rfl
 | d :: ds,ks,vs,e,r=>by
  simp only [RDs] at r
  obtain ⟨v,r2,rfl,h1,h2⟩:=r
  rw [z4d] at e
  cases e1:keyD d with
  | none=>rw [e1] at e;cases e
  | some k =>
   rw [e1] at e
   cases e2:z4d ds with
   | none=>rw [e2] at e;cases e
   | some ks' =>
    rw [e2] at e
    cases e
    rw [zo1 e1 h1,z6E e2 h2]
    rfl
def getS (n:Nat):M (List Key):=fun h=>match h[n]? with
 | some (.set ks)=>.ok ks h
 | _=>.bad
def newSet (ks:List Key):M D:=fun h=>.ok (.ref h.length) (h++[.set ks])
def z0I:List D->M D
 | [x]=>do
  let xs ← seqD x
  match z4d xs with
  | some ks=>if ks.length+1<4096 then newSet (dedK ks) else bad
  | none=>bad
 | _=>bad
def z4S:List Key->Option (List Int)
 | []=>some []
 | .inl i :: r=>(z4S r).map (i :: ·)
 | .inr _ :: _=>none
theorem z6r:∀ {ks:List Key}{ns:List Int},z4S ks=some ns->ks=ns.map Sum.inl
 | [],ns,e=>by cases e;rfl
 | .inl i :: r,ns,e=>by
  rw [z4S] at e
  obtain ⟨ms,e1,rfl⟩:=Option.map_eq_some_iff.mp e
  rw [z6r e1]
  rfl
 | .inr _ :: _,ns,e=>by rw [z4S] at e;cases e
def Y8:List D->M D
 | [.ref n]=>do
  let ks ← getS n
  match z4S ks with
  | some ns=>if ns.length<64 then newL ((sortI ns).map .int) else bad
  | none=>bad
 | _=>bad
def zP9:D->M Nat
 | .ref n=>fun h=>match h[n]? with
  | some (.set _)=>.ok n h
  | _=>.bad
 | _=>bad
def eMS (f:Nat->D->M D) (mo ma:G->M D):G->M D:=fun γ=>do
 let o ← mo γ
 let n ← zP9 o
 let v ← ma γ
 f n v
section
variable {X:Cx}{EX:XX}{a o:Expr}{p pos apos cpos:Pos}{ma mo:G->M D}{mr:G->M (List D)}
theorem zd4 {K:PySem.W.Frag}{ρ:List Addr}{h:AH}{H:Hp}{n:Nat}{q:Addr}{Z:List Key->List Addr->AH->Hp->Prop}(r:RH K ρ h H) (hq:ρ[n]?=some q) (f:Fin K EX ρ H Z (getS n h)):∃ ks,H q=some (.set ks)/\Z ks ρ h H:=by
 unfold getS at f
 cases e:h[n]? with
 | none=>rw [e] at f;exact f.elim
 | some ob =>
  cases ob with
  | lst xs=>rw [e] at f;exact f.elim
  | dct=>rw [e] at f;exact f.elim
  | dK kvs=>rw [e] at f;exact f.elim
  | dF kvs=>rw [e] at f;exact f.elim
  | exc c=>rw [e] at f;exact f.elim
  | set ks =>
   rw [e] at f
   obtain ⟨a1,n1,o1⟩:=r.at e
   rw [hq] at n1;cases n1
   exact ⟨ks,o1,f ρ H (Pre.refl _) (Ext.refl _ _) r⟩
theorem z7k {K:PySem.W.Frag}{ρ:List Addr}{h:AH}{H:Hp}{ks:List Key}{Q:VK}{q:Addr}(r:RH K ρ h H) (hq:H q=none) (f:FE K EX ρ H Q (newSet ks h)):Q (.ref q) (upd H q (.set ks)):=by
 refine f (ρ++[q]) _ (Pre.app _ _) (Ext.upd (.inl hq)) (r.pushS hq) (.ref q) ?_
 simp only [RD]
 exact ⟨q,rfl,by rw [← r.len];simp⟩
theorem zA3:AR X.K EX (fun xs H Q=>∃ l ks,xs=[.ref l]/\(SqL X.K H l (ks.map kV)∨SqT X.K H l (ks.map kV))/\ks.length+1<scanBound/\∀ q,H q=none->Q (.ref q) (upd H q (.set (dedK ks)))) z0I:=by
 intro ρ h H ds vs Q r rd fin
 unfold z0I at fin
 split at fin
 ·rename_i x
  obtain ⟨v,rfl,rv⟩:=rds1 rd
  have f1:=Fin.bind fin
  cases e:seqD x h with
  | bad=>rw [e] at f1;exact f1.elim
  | err z hz=>exact (z2j e).elim
  | ok ys h1 =>
   obtain ⟨rfl,p,xs,rfl,hs,hd⟩:=z1q r rv e
   rw [e] at f1
   have f2:=f1 ρ H (Pre.refl _) (Ext.refl _ _) r
   dsimp only at f2
   cases e2:z4d ys with
   | none=>rw [e2] at f2;exact f2.elim
   | some ks =>
    rw [e2] at f2
    dsimp only at f2
    split at f2
    ·rename_i hl
     have ek:=z6E e2 hd
     subst ek
     exact ⟨p,ks,rfl,hs,hl,fun q hq=>z7k r hq f2⟩
    ·exact f2.elim
 ·exact fin.elim
theorem z1V (hc:X.calm=true) (hg:Gl X "set") (hm:X.mg "set" = none) (ha:SA X EX [a] mr) (he:starEach [a] X.env=[(false,eval a X.env)]:=by rfl):SE X EX (.Call (.Name "set" p) [a] [] pos) (Z5 z0I mr) :=
 z0L (z0z (z83 hc) hg hm (by decide +kernel) ha.h (by decide) (by decide) he rfl) zA3
theorem z76:AR X.K EX (fun xs H Q=>∃ a ns,xs=[.ref a]/\H a=some (.set (ns.map Sum.inl))/\ns.length<64/\∀ q,H q=none->Q (.ref q) (upd H q (.lst ((sortI ns).map V.int)))) Y8:=by
 intro ρ h H ds vs Q r rd fin
 unfold Y8 at fin
 split at fin
 ·rename_i n
  obtain ⟨v,rfl,rv⟩:=rds1 rd
  simp only [RD] at rv
  obtain ⟨q,rfl,hq⟩:=rv
  obtain ⟨ks,h1,f2⟩:=zd4 r hq (Fin.bind fin)
  cases e:z4S ks with
  | none=>rw [e] at f2;exact f2.elim
  | some ns =>
   rw [e] at f2
   dsimp only at f2
   split at f2
   ·rename_i hl
    refine ⟨q,ns,rfl,by rw [h1,z6r e],hl,fun l hl2=>?_⟩
    unfold newL at f2
    split at f2
    ·refine f2 (ρ++[l]) _ (Pre.app _ _) (Ext.upd (.inl hl2)) (r.push hl2 ?_) (.ref l) ?_
     ·have:∀ ms:List Int,RDs X.K ρ H (ms.map D.int) (ms.map V.int):=fun ms=>by
       induction ms with
       | nil=>exact RDs.nil
       | cons m ms ih=>exact RDs.cons (by simp [RD]) ih
      exact this _
     ·simp only [RD]
      exact ⟨l,rfl,by rw [← r.len];simp⟩
    ·exact f2.elim
   ·exact f2.elim
 ·exact fin.elim
theorem z0X (hc:X.calm=true) (hg:Gl X "sorted") (hm:X.mg "sorted" = none) (ha:SA X EX [a] mr) (he:starEach [a] X.env=[(false,eval a X.env)]:=by rfl):SE X EX (.Call (.Name "sorted" p) [a] [] pos) (Z5 Y8 mr) :=
 z0L (z0F (z5l hc) hg hm boot_sorted ha.h (by decide) (by decide) he rfl) z76
end
theorem zI4 {P:Program}{w:World}{K:PySem.W.Frag}{mg:Str->Option Value}{base:Heap}{x:Str}{st:Stmt}{f:Addr}{fd:FuncData}{N ps:List Str}{k n:Nat}{mb:G->M Out}(F:Fun K x x st f fd) (S:FnScope N ps (j8 st)) (hb:Binds K fd ps []) (mx:mg x=some (.ref f)) (hn:ps.length=n)
 (body:∀ (cdv:Value) (A:Around) (outer:List Env) (s:Shared) (H:Hp) (E:XK),PySem.W.codeIn K cdv x=true->Room k (A.deeper (envOfC x (j8 st) s.heap.objs.size f cdv)) ->
  SB (cxOf CX0 P w K mg base N x (j8 st) f cdv A outer s H E).nox EX0 (z0h st) mb):Fn P w K mg base (k+1) x n (runF N.length mb):=by
 refine ⟨f,fd,ps,?_,hb,F.kp,mx⟩
 obtain ⟨oc,od,kV,doc,pm,an,cdv,ct,osl,rfl,lk,hcd⟩:=F.ex
 refine zF8 lk hcd S (fun vs H Q E h=>h.1.trans hn.symm) fun A outer s H vs Q E hr h=>?_
 obtain ⟨hl,ρ,ds,h,rh,rd,fin⟩:=h
 refine ⟨_,(body cdv A outer s H E hcd hr).h.nox,ρ,z1c N.length ds,h,⟨z4I rd,rh⟩,?_⟩
 refine (Fin.bind fin).mono fun o ρ1 h1 H1 p1 e1 r1 f1=>?_
 cases o with
 | nx γ=>exact fun σ _=>FE.here (d:=.non) (h:=h1) f1 r1 (by simp [RD])
 | rt d=>exact fun v rv=>f1 ρ1 H1 (Pre.refl _) (Ext.refl _ _) r1 v rv
 | bk γ=>exact (show False from f1).elim
 | ct γ=>exact (show False from f1).elim
section
variable {X:Cx}
end
section
variable {X:Cx}{EX:XX}
end
theorem z7E (t:Addr) (items:Array Value) :
 Meets (Builtin.«enumerate.__new__» ⟨[.type "enumerate",.ref t],[]⟩) (fun _ R s=>s.heap.IsTuple t items /\
  R (.ok (.ret (.ref (s.heap.push { cls:=.type "tuple_iterator",data:=.fields #[.ref t,.int 0 0] }).objs.size)))
   { s with heap:=(s.heap.push { cls:=.type "tuple_iterator",data:=.fields #[.ref t,.int 0 0] }).push { cls:=.type "enumerate",data:=.fields #[.none,.bool false,.ref s.heap.objs.size,rawInt 0,.none,.none] } }) :=
 .of_wp fun prog w A R s h=>by
  obtain ⟨hp,g,d,tk,os⟩:=s
  obtain ⟨q1,h⟩:=h
  have hsub:=sub_enumerate
  have L1:Heap.IsTuple (Shared.heap ⟨hp,g,d,tk,os⟩) t items:=q1
  wp_walk
  refine wpAny_stack_any fun st=>wpAny_pure ?_
  split
  ·rename_i c _ _ _ _ _
   cases (c == Value.type "enumerate")
   ·wp_walk using wpAny_pyIter_tuple L1
    exact ⟨_,rfl,h⟩
   ·wp_walk using wpAny_pyIter_tuple L1
    exact ⟨_,rfl,h⟩
  ·wp_walk using wpAny_pyIter_tuple L1
   exact ⟨_,rfl,h⟩
theorem zi7 {P:Program}{w:World}{A:Around}(hh:A.handled=none) (it t:Addr) (hne:t≠it) (items:Array Value) :
 Draws P w A it [it,t] items.size (fun i v=>items[i]?=some v) (fun i h=>h.IsTupleIter it t i/\h.IsTuple t items) where
 live:=fun _ _ st=>let ⟨o,ho,_⟩:=st.1;⟨o,ho⟩
 frame:=fun _ _ _ st hk=>⟨st.1.at fun o e=>hk it (by simp) o e,st.2.at fun o e=>hk t (by simp) o e⟩
 item:=fun i s Q E hi st hQ=>zs3 st.1 st.2 (x:=items[i]) (by simp [hi]) fun h' hit sb=>hQ _ h' s.toks (by simp [hi]) ⟨hit,st.2.extBut sb.extBut hne⟩ sb
 done:=fun s Q E st hE=>zF0 hh st.1 st.2 (by simp) hE
def Ite (K:PySem.W.Frag) (t:Addr):It :=
 ⟨fun i H=>∃ xs x,SqT K H t xs/\xs[i]?=some x,
  fun i H v H'=>∃ T x,H T=none/\v=.ref T/\(∀ xs,SqT K H t xs->xs[i]?=some x)/\H'=upd H T (.tup [.int i,x]),
  fun i H=>∃ xs,SqT K H t xs/\xs.length=i⟩
theorem z7H {P:Program}{w:World}{K:PySem.W.Frag}{elts:List Expr}{kk:Nat}{pos:Pos}{e it t:Addr}(d1:e≠it) (d2:t≠it) (d3:e≠t) :
 Turn P w K (.Tuple elts kk pos) (Ite K t) [e,it] e (fun i h=>(∃ old,IsEnum h e it i old)/\h.IsTupleIter it t i) where
 mem:=by simp
 obj:=fun i h st b hb=>by
  obtain ⟨⟨old,ee⟩,o,ei,_,di⟩:=st
  simp at hb
  rcases hb with rfl | rfl
  ·exact ⟨_,ee,fun v q=>by cases q⟩
  ·exact ⟨_,ei,fun v q=>by rw [di] at q;cases q⟩
 keep:=fun i h h' st k=>by
  obtain ⟨⟨old,ee⟩,g⟩:=st
  exact ⟨⟨old,k e (by simp) _ ee⟩,g.at fun o q=>k it (by simp) o q⟩
 item:=by
  intro X hP hw hK hc i pins s σ H E I hf st hg
  subst hP hw hK
  obtain ⟨xs,x,q1,hx⟩:=hg
  obtain ⟨its,rv,pl,hz⟩:=I.tuple q1
  obtain ⟨u,hu,ru⟩:=rv.get hx
  obtain ⟨⟨old,ee⟩,g⟩:=st
  have hi:i<its.toArray.size:=by
   have:=(List.getElem?_eq_some_iff.mp hu).1
   simpa using this
  have pT:s.heap.IsTuple t its.toArray:=pl
  refine wpAny_pyNext_enum_itemD (zi7 (by simp [I.ok.hd hc]) it t d2 its.toArray) ee ⟨g,pT⟩ hi d1 (by simp [d1,d3]) fun y h' tk hy eo st' gT sz kp=>?_
  have ey:y=u:=by
   have:its.toArray[i]?=some u:=by simpa using hu
   rw [hy] at this
   exact Option.some.inj this
  subst ey
  refine ⟨_,rfl,wpAny_letOwnedTupleGo_enum eo fun h2 eo2 sb=>?_⟩
  have elt:e<s.heap.objs.size:=Heap.lt_size ee
  have ilt:it<s.heap.objs.size:=by obtain ⟨o,q,_⟩:=g;exact Heap.lt_size q
  have hT:IsTup0 h2 s.heap.objs.size [Value.int i tk,y].toArray:=⟨_,(sb.2 _ (Nat.ne_of_gt elt)).trans gT,⟨rfl,rfl⟩,_,rfl⟩
  have J:=zy1 (t:=tk+1) (ch:=[e,it]) (T:=s.heap.objs.size) (vs:=[.int i,x]) (its:=[.int i tk,y]) (h2:=h2) I hf
   (fun b o hb q=>by simp at hb;exact (sb.2 b hb.1).trans (kp b o hb.1 hb.2 q)) (Nat.le_refl _) hT (.cons ⟨tk,rfl⟩ (.cons ru .nil)) (by show 2≤sizeLine;decide)
  refine ⟨.ref s.heap.objs.size,_,J,rfl,⟨_,x,I.hok.fresh (Nat.le_refl _),rfl,fun xs' h'=>by rw [I.tuple_inj h' q1];exact hx,rfl⟩,?_,fun b hb=>?_⟩
  ·exact ⟨⟨_,by simpa using eo2⟩,st'.1.at fun o q=>(sb.2 _ (Ne.symm d1)).trans q⟩
  ·have:b<s.heap.objs.size:=by
    simp at hb
    rcases hb with rfl | rfl
    ·exact elt
    ·exact ilt
   rw [y6 (Nat.ne_of_lt this)]
   exact (hf b hb).1
 done:=by
  intro X hP hw hK hc i pins s σ H E I hf st hg
  subst hP hw hK
  obtain ⟨xs,q1,hl⟩:=hg
  obtain ⟨its,rv,pl,hz⟩:=I.tuple q1
  obtain ⟨⟨old,ee⟩,g⟩:=st
  have l1:=rv.length
  have pT:s.heap.IsTuple t its.toArray:=pl
  have en:i=its.toArray.size:=by simp;omega
  refine wpAny_pyNext_enum_endD (zi7 (by simp [I.ok.hd hc]) it t d2 its.toArray) ee ⟨by rw [← en];exact g,pT⟩ fun h' eb=>⟨rfl,?_⟩
  have hf':∀ b∈[it],FpOk X pins H b:=fun b hb=>hf b (by simp at hb;simp [hb])
  refine I.step (g':=s.gens) (t':=s.toks) (d':=s.drawn) (ch:=[it]) (fun b hb=>⟨(hf' b hb).2.2.2.1,(hf' b hb).2.1,(hf' b hb).2.2.2.2.1,(hf' b hb).2.2.2.2.2⟩) (fun b o _ _ hc e _=>?_) (fun b o _ _ hc e _=>⟨o.slots,?_⟩)
   (fun _ _ _ _ n=>n) (fun b o hc e=>⟨o,?_⟩) (fun _ _ e=>e) (fun _ _ _ e=>e) (fun b ps e=>⟨#[],by rw [e];simp⟩) (fun m hm=>?_) (fun b u e=>?_) I.bare
  ·simp at hc;exact eb b o hc e
  ·simp at hc;exact eb b o hc e
  ·simp at hc;exact eb b o hc e
  ·obtain ⟨o,es,ep,q,r⟩:=hm
   exact ⟨o,es,ep,eb _ o (fun y=>(hf' it (by simp)).2.1 y.symm) q,r⟩
  ·refine (I.hok b u e).stay (fun c v hc q=>?_) (fun _ q=>q) fun _ _ q=>q
   refine eb c v (fun y=>?_) q
   subst y
   rcases hc with y | y
   ·rw [← y,(hf' c (by simp)).1] at e;cases e
   ·rw [(hf' c (by simp)).1] at y;cases y
 self:=fun _ _ _ _ _ st h=>by
  obtain ⟨⟨old,ee⟩,g⟩:=st
  exact wpAny_pyIter_enum ee h
section
variable {X:Cx}{EX:XX}{a:Expr}{elts:List Expr}{kk:Nat}{p pos pt:Pos}{ma:G->M D}
def zD6 (K:PySem.W.Frag) (ta:TA):TI:=fun σ H R=>ta σ H fun vs H2=>∃ t xs,vs=[.ref t]/\SqT K H2 t xs/\R (Ite K t) H2
theorem zl0 {ta:TA}(hg:Gl X "enumerate") (hm:X.mg "enumerate" = none) (ha:PA X [a] ta) (hs:starEach [a] X.env=[(false,eval a X.env)]:=by rfl):PI X (.Tuple elts kk pt) (.Call (.Name "enumerate" p) [a] [] pos) (zD6 X.K ta):=by
 intro pins s σ H R I h
 refine Call_ (z3C I hg hm boot_enumerate (PyProof.Rows.callWith_type1 (thn (ha pos pins s σ H _ I h) fun us s1 ⟨vs,H1,I1,r1,q1⟩=>?_) (by rw [hs];rfl) rfl))
 obtain ⟨t,xs,e,q2,q⟩:=q1
 subst e
 obtain ⟨u,rfl,ru⟩:=vals1 r1
 cases ru
 obtain ⟨its,rv,pl,hz⟩:=I1.tuple q2
 have pT:s1.heap.IsTuple t its.toArray:=pl
 have lt:t<s1.heap.objs.size:=by obtain ⟨o,e,_⟩:=pl;exact Heap.lt_size e
 refine callType_new PySem.F.called_enumerate (by decide) (PySem.F.typeCall_enumerate_1 _) (PySem.F.newCall_enumerate_1 _) (fun obj=>PySem.F.args_object_init_2 obj _) PySem.F.entry_enumerate_new (z7E t its.toArray) ⟨pT,?_⟩
 have y1:(s1.heap.push { cls:=.type "tuple_iterator",data:=.fields #[.ref t,.int 0 0] }).objs.size=s1.heap.objs.size+1:=Heap.size_push ..
 have x2:((s1.heap.push { cls:=.type "tuple_iterator",data:=.fields #[.ref t,.int 0 0] }).push { cls:=.type "enumerate",data:=.fields #[.none,.bool false,.ref s1.heap.objs.size,rawInt 0,.none,.none] }).get? (s1.heap.objs.size+1)=some { cls:=.type "enumerate",data:=.fields #[.none,.bool false,.ref s1.heap.objs.size,rawInt 0,.none,.none] }:=by rw [← y1];exact Heap.get?_push_size _ rfl
 have x1:((s1.heap.push { cls:=.type "tuple_iterator",data:=.fields #[.ref t,.int 0 0] }).push { cls:=.type "enumerate",data:=.fields #[.none,.bool false,.ref s1.heap.objs.size,rawInt 0,.none,.none] }).get? s1.heap.objs.size=some { cls:=.type "tuple_iterator",data:=.fields #[.ref t,.int 0 0] }:=Heap.get?_push_of_some _ (Heap.get?_push_size _ rfl)
 show _/\_
 rw [y1]
 refine ⟨⟨_,x2,rfl⟩,wpAny_pyIter_enum (e:=s1.heap.objs.size+1) (it:=s1.heap.objs.size) (i:=0) (old:=.none) x2 ?_⟩
 refine ⟨s1.heap.objs.size+1,_,_,_,H1,rfl,I1.kept (t':=s1.toks) (fun c o q=>Heap.get?_push_of_some _ (Heap.get?_push_of_some _ q)),z7H (it:=s1.heap.objs.size) (t:=t) (Nat.ne_of_gt (Nat.lt_succ_self _)) (Nat.ne_of_lt lt) (Nat.ne_of_gt (Nat.lt_succ_of_lt lt)),⟨⟨_,x2⟩,⟨_,x1,rfl,rfl⟩⟩,fun b hb=>?_,q⟩
 have hb':s1.heap.objs.size≤b:=by
  simp at hb
  rcases hb with rfl | rfl
  ·exact Nat.le_succ _
  ·exact Nat.le_refl _
 exact I1.fpOk hb' (I1.hok.fresh hb')
def z2q (xs:List D):List D:=(List.range xs.length).map fun (i:Nat)=>.tup [.int i,(xs[i]?).getD .non]
def zn0 (ma:G->M D):G->M Src:=fun γ=>do
 let l ← z8 ma aNil γ
 match l with
 | [.tup xs]=>pure (.con (z2q xs))
 | _=>bad
theorem z7S {xs:List D}{i:Nat}{d:D}(h:(z2q xs)[i]?=some d):∃ x,xs[i]?=some x/\d=.tup [.int i,x]:=by
 unfold z2q at h
 rw [List.getElem?_map] at h
 obtain ⟨j,e1,e2⟩:=Option.map_eq_some_iff.mp h
 obtain ⟨h1,h2⟩:=List.getElem?_eq_some_iff.mp e1
 simp at h1 h2
 subst h2
 rw [List.getElem?_eq_getElem h1] at e2
 exact ⟨_,List.getElem?_eq_getElem h1,e2.symm⟩
theorem z8l (hc:X.calm=true) (hg:Gl X "enumerate") (hm:X.mg "enumerate" = none) (ha:SE X EX a ma) (hs:starEach [a] X.env=[(false,eval a X.env)]:=by rfl):SI X EX (.Tuple elts kk pt) (.Call (.Name "enumerate" p) [a] [] pos) (zn0 ma) :=
 ⟨PI.imp (zl0 hg hm (z6 ha Z0 hs).h hs) fun σ H R ⟨ρ,γ,h,rel,fin⟩=>⟨ρ,γ,h,rel,(Fin.bind fin).mono fun l ρ1 h1 H1 p1 e1 r1 f1 vs rv=>by
  split at f1
  ·rename_i xs
   simp only [RDs,RD] at rv
   obtain ⟨_,_,rfl,⟨t,us,rfl,q1,d1⟩,rfl⟩:=rv
   refine ⟨t,us,rfl,q1,f1 ρ1 H1 (Pre.refl _) (Ext.refl _ _) r1 _ fun i ρ2 h4 H2 p2 e2 r2 _=>⟨fun d hd=>?_,fun hi=>?_⟩⟩
   ·have hd':(z2q xs)[i]?=some d:=hd
    obtain ⟨x,g1,rfl⟩:=z7S hd'
    obtain ⟨v1,a1,b1⟩:=(d1.mono p2 e2).get g1
    refine ⟨⟨us,v1,e2.t _ _ q1,a1⟩,fun v H3 ⟨T,x',n1,n2,n3,n5⟩=>?_⟩
    have m1:=n3 us (e2.t _ _ q1)
    rw [a1] at m1;cases m1
    subst n2;subst n5
    have ext:Ext X.K H2 (L2.upd H2 T (.tup [.int i,v1])):=Ext.upd (.inl n1)
    refine ⟨?_,r2.other n1,ext⟩
    simp only [RD]
    exact ⟨T,_,rfl,SqT.of y0,RDs.cons (by simp [RD]) (RDs.cons (b1.mono (Pre.refl _) ext) RDs.nil)⟩
   ·have hi':(z2q xs).length=i:=hi
    unfold z2q at hi'
    rw [List.length_map,List.length_range] at hi'
    have l1:=d1.length
    exact ⟨us,e2.t _ _ q1,by omega⟩
  ·exact (show False from f1).elim⟩⟩
end
end FT
namespace L2
open PySem PySem.Spec PyProof.Rows
section
variable {prog:Program}{w:World}{A:Around}{R:Result->Shared->Prop}{s:Shared}{elt tg iter tg1 iter1:Expr}{ifs ifs1:List Expr}{scope:Scope}{pos:Pos}{it acc:Value}{env:Env}
theorem z9N:compTurn (.ListComp elt [⟨tg,iter,ifs,0⟩,⟨tg1,iter1,ifs1,0⟩] scope pos) 1 it acc env=(do
 standAt iter1.pos
 match ← pyNext it with
 | none=>pure (.done .next)
 | some v =>
  letOwnedTupleGo tg1 it v
  assign tg1 env v
  let ok ← z0R ifs1 env
  if ok then
   (do let _ ← call (.builtin "list.append") [acc,← eval elt env])
  again (.compLoop (.ListComp elt [⟨tg,iter,ifs,0⟩,⟨tg1,iter1,ifs1,0⟩] scope pos) 1 it acc env)):=by rfl
theorem z7J:compTurn (.ListComp elt [⟨tg,iter,ifs,0⟩,⟨tg1,iter1,ifs1,0⟩] scope pos) 0 it acc env=(do
 standAt iter.pos
 match ← pyNext it with
 | none=>pure (.done .next)
 | some v =>
  letOwnedTupleGo tg it v
  assign tg env v
  let ok ← z0R ifs env
  if ok then
   let x ← eval iter1 env
   standAt iter1.pos
   let x ← foldedSetIterable iter1 env x
   let _ ← runOwn (.compStart (.ListComp elt [⟨tg,iter,ifs,0⟩,⟨tg1,iter1,ifs1,0⟩] scope pos) 1 (← holding [x] (pyIter x)) acc env) env
  again (.compLoop (.ListComp elt [⟨tg,iter,ifs,0⟩,⟨tg1,iter1,ifs1,0⟩] scope pos) 0 it acc env)):=by rfl
abbrev two (elt tg iter tg1 iter1:Expr) (ifs ifs1:List Expr) (scope:Scope) (pos:Pos):Expr:=.ListComp elt [⟨tg,iter,ifs,0⟩,⟨tg1,iter1,ifs1,0⟩] scope pos
theorem z9Z (I:Nat->Shared->Prop)
 (turn:∀ n s,I n s->wpAny (model prog w) A (pyNext it) (fun r s1=>match r with
  | none=>R (.ok .next) s1
  | some v=>wpAny (model prog w) A (letOwnedTupleGo tg1 it v) (fun _ s2 =>
   wpAny (model prog w) A (assign tg1 env v) (fun _ s3 =>
    wpAny (model prog w) A (z0R ifs1 env) (fun ok s4 =>
     if ok=true then wpAny (model prog w) A (eval elt env) (fun x s5 =>
      wpAny (model prog w) A (call (.builtin "list.append") [acc,x]) (fun _ s6=>∃ m,m<n/\I m s6)
       (notedBy (model prog w) A env fun e s'=>R (.error e) s') s5)
       (notedBy (model prog w) A env fun e s'=>R (.error e) s') s4
     else ∃ m,m<n/\I m s4)
     (notedBy (model prog w) A env fun e s'=>R (.error e) s') s3)
    (notedBy (model prog w) A env fun e s'=>R (.error e) s') s2)
   (notedBy (model prog w) A env fun e s'=>R (.error e) s') s1)
  (notedBy (model prog w) A env fun e s'=>R (.error e) s') s)
 (n:Nat) (h:I n s) :
 codeAny (model prog w) A (.compLoop (two elt tg iter tg1 iter1 ifs ifs1 scope pos) 1 it acc env) R s:=by
 refine codeAny_loop rfl I (fun n s hI=>?_) n h
 show wpAny _ A ((compTurn (two elt tg iter tg1 iter1 ifs ifs1 scope pos) 1 it acc env).onRaise
  (fun x=>do noteFrame x env;theTreesLotGoes x)) _ _ s
 refine wpAny_noted ?_
 rw [z9N]
 refine wpAny_bind (wpAny_standAt (wpAny_bind (wpAny_mono (turn n s hI) (fun r s1 h1=>?_) fun _ _ z=>z)))
 cases r with
 | none=>exact wpAny_pure h1
 | some v =>
  refine wpAny_bind (wpAny_mono h1 (fun _ s2 h2=>?_) fun _ _ z=>z)
  refine wpAny_bind (wpAny_mono h2 (fun _ s3 h3=>wpAny_bind (wpAny_mono h3 (fun ok s4 h4=>?_) fun _ _ z=>z)) fun _ _ z=>z)
  cases ok with
  | false=>exact wpAny_pure ⟨rfl,h4⟩
  | true =>
   refine wpAny_bind (wpAny_bind (wpAny_mono h4 (fun x s5 h5=>wpAny_bind (wpAny_mono h5 (fun _ s6 h6=>?_) fun _ _ z=>z)) fun _ _ z=>z))
   exact wpAny_pure (wpAny_pure ⟨rfl,h6⟩)
theorem z8q (I:Nat->Shared->Prop) (hs:∀ x,foldedSetIterable iter1 env x=pure x)
 (turn:∀ n s,I n s->wpAny (model prog w) A (pyNext it) (fun r s1=>match r with
  | none=>R (.ok .next) s1
  | some v=>wpAny (model prog w) A (letOwnedTupleGo tg it v) (fun _ s2 =>
   wpAny (model prog w) A (assign tg env v) (fun _ s3 =>
    wpAny (model prog w) A (z0R ifs env) (fun ok s4 =>
     if ok=true then wpAny (model prog w) A (eval iter1 env) (fun x s5=>wpAny (model prog w) A (pyIter x) (fun it1 s6 =>
      codeAny (model prog w) A (.compStart (two elt tg iter tg1 iter1 ifs ifs1 scope pos) 1 it1 acc env) (fun r s'=>match r with
       | .ok _=>∃ m,m<n/\I m s'
       | .error e=>cameBackBy (model prog w) A env (notedBy (model prog w) A env fun e s'=>R (.error e) s') e s') s6)
       (notedBy (model prog w) A env fun e s'=>R (.error e) s') s5)
       (notedBy (model prog w) A env fun e s'=>R (.error e) s') s4
     else ∃ m,m<n/\I m s4)
     (notedBy (model prog w) A env fun e s'=>R (.error e) s') s3)
    (notedBy (model prog w) A env fun e s'=>R (.error e) s') s2)
   (notedBy (model prog w) A env fun e s'=>R (.error e) s') s1)
  (notedBy (model prog w) A env fun e s'=>R (.error e) s') s)
 (n:Nat) (h:I n s) :
 codeAny (model prog w) A (.compLoop (two elt tg iter tg1 iter1 ifs ifs1 scope pos) 0 it acc env) R s:=by
 refine codeAny_loop rfl I (fun n s hI=>?_) n h
 show wpAny _ A ((compTurn (two elt tg iter tg1 iter1 ifs ifs1 scope pos) 0 it acc env).onRaise
  (fun x=>do noteFrame x env;theTreesLotGoes x)) _ _ s
 refine wpAny_noted ?_
 rw [z7J]
 refine wpAny_bind (wpAny_standAt (wpAny_bind (wpAny_mono (turn n s hI) (fun r s1 h1=>?_) fun _ _ z=>z)))
 cases r with
 | none=>exact wpAny_pure h1
 | some v =>
  refine wpAny_bind (wpAny_mono h1 (fun _ s2 h2=>?_) fun _ _ z=>z)
  refine wpAny_bind (wpAny_mono h2 (fun _ s3 h3=>wpAny_bind (wpAny_mono h3 (fun ok s4 h4=>?_) fun _ _ z=>z)) fun _ _ z=>z)
  cases ok with
  | false=>exact wpAny_pure ⟨rfl,h4⟩
  | true =>
   refine wpAny_bind (wpAny_mono h4 (fun x s5 h5=>?_) fun _ _ z=>z)
   refine wpAny_bind (wpAny_standAt (wpAny_bind (wpAny_of_eq (hs x) (wpAny_bind (wpAny_holding (wpAny_mono h5 (fun it1 s6 h6=>?_) fun _ _ z=>z))))))
   refine wpAny_bind (wpAny_runOwn (codeAny_mono h6 fun r s' hr=>?_))
   cases r with
   | ok f=>exact wpAny_pure ⟨rfl,hr⟩
   | error e=>exact hr
theorem zC8 {elt:Expr}(h0:codeAny (model prog w) A (.compLoop (two elt tg iter tg1 iter1 ifs ifs1 scope pos) 1 it acc env) R s)
 (h:wpAny (model prog w) A (pyIter it) (fun it' s'=>codeAny (model prog w) A (.compLoop (two elt tg iter tg1 iter1 ifs ifs1 scope pos) 1 it' acc env) R s')
  (notedBy (model prog w) A env fun x s'=>R (.error x) s') s) :
 codeAny (model prog w) A (.compStart (two elt tg iter tg1 iter1 ifs ifs1 scope pos) 1 it acc env) R s:=by
 refine codeAny_of_tree ?_
 show wpAny _ _ ((compStart (two elt tg iter tg1 iter1 ifs ifs1 scope pos) 1 it acc env).onRaise (fun x=>do noteFrame x env;standAt theWindowsPlace)) _ _ s
 refine wpAny_notedAt ?_
 unfold compStart
 show wpAny _ _ (ask >>= _) _ _ s
 refine wpAny_bind (wpAny_askSetting (wpAny_ite ?_))
 split
 ·first
   | exact wpAny_bind (wpAny_pure (wpAny_pure (And.intro rfl h0)))
   | exact wpAny_pure (And.intro rfl h0)
 ·first
   | exact wpAny_bind (wpAny_rule (wpAny_bind (wpAny_standAt (wpAny_bind (wpAny_mono h (fun it' s' h'=>wpAny_pure (And.intro rfl h')) fun _ _ x=>x)))))
   | (refine wpAny_bind (wpAny_rule ?_);show wpAny _ _ (standAt iter1.pos >>= _) _ _ s;exact wpAny_bind (wpAny_standAt (wpAny_bind (wpAny_mono h (fun it' s' h'=>wpAny_pure (And.intro rfl h')) fun _ _ x=>x))))
end
def compIn (g:TG) (ti:TT) (te:TE) (σ0:St) (J:It) (D:Addr) (Q:Hp->Prop) (H:Hp):Prop :=
 ∃ W:Nat->Nat->Hp->Prop,(∃ m,W 0 m H)/\∀ i m H,W i m H ->
  (J.stop i H/\Q H)∨(J.go i H/\∀ x H1,J.yld i H x H1->g x σ0 H1 fun σ2 H2=>(∀ (j:Nat) v,σ0[j]?=some (some v)->σ2[j]?=some (some v)) /\
   ti σ2 H2 fun ok H3=>if ok=true then te σ2 H3 fun v H4=>∃ acc,H4 D=some (.lst acc)/\acc.length<sizeLine/\∃ m',m'<m/\W (i+1) m' (upd H4 D (.lst (acc++[v])))
    else ∃ m',m'<m/\W (i+1) m' H3)
def z3Z (cap:List (Option Nat)) (g:TG) (wi:TI) (g1:TG) (ti:TT) (te:TE) (σ:St) (J:It) (D:Addr) (Q:Hp->Prop) (H:Hp):Prop :=
 ∃ W:Nat->Nat->Hp->Prop,(∃ m,W 0 m H)/\∀ i m H,W i m H ->
  (J.stop i H/\Q H)∨(J.go i H/\∀ x H1,J.yld i H x H1->g x (Y1 cap σ) H1 fun σ2 H2=>(∀ (j:Nat) v,(Y1 cap σ)[j]?=some (some v)->σ2[j]?=some (some v)) /\
   wi σ2 H2 fun J1 H3=>compIn g1 ti te σ2 J1 D (fun H4=>∃ m',m'<m/\W (i+1) m' H4) H3)
section
variable {X:Cx}{elt tg iter tg1 iter1:Expr}{ifs1:List Expr}{sc:Scope}{pos:Pos}{N':List Str}{cap:List (Option Nat)}{g g1:TG}{wi1:TI}{ti:TT}{te:TE}
theorem zk1 {pins:List (Addr×Obj)}{σ0:St}{H2:Hp}{s2:Shared}{it:Addr}{fp:List Addr}{tn:Nat->Heap->Prop}{J:It}{D:Addr}{R:Result->Shared->Prop}{Q:Hp->Prop}
 (hc:X.calm=true) (hg:PG (X.wish (notedBy (model X.prog X.w) X.A X.env fun e s'=>R (.error e) s')) tg1 g1) (ht:PTs (X.wish (notedBy (model X.prog X.w) X.A X.env fun e s'=>R (.error e) s')) ifs1 ti)
 (he:PE (X.wish (notedBy (model X.prog X.w) X.A X.env fun e s'=>R (.error e) s')) elt te)
 (I2:Inv X pins σ0 H2 s2) (T:Turn X.prog X.w X.K tg1 J fp it tn) (st2:tn 0 s2.heap) (f2:∀ b∈fp,FpOk X pins H2 b)
 (hq:compIn g1 ti te σ0 J D Q H2) (hR:∀ s' H',Inv X pins σ0 H' s'->Q H'->R (.ok .next) s') :
 codeAny (model X.prog X.w) X.A (.compStart (two elt tg iter tg1 iter1 [] ifs1 sc pos) 1 (.ref it) (.ref D) X.env) R s2:=by
 let xe:Value->Shared->Prop:=notedBy (model X.prog X.w) X.A X.env fun e s'=>R (.error e) s'
 have stat:∀ {H':Hp},(∀ b∈fp,H' b=none)->∀ b∈fp,FpOk X pins H' b:=fun hn b hb=>⟨hn b hb,(f2 b hb).2⟩
 obtain ⟨W,⟨m0,w0⟩,turn⟩:=hq
 have loop:codeAny (model X.prog X.w) X.A (.compLoop (two elt tg iter tg1 iter1 [] ifs1 sc pos) 1 (.ref it) (.ref D) X.env) R s2:=by
  refine z9Z (fun n s'=>∃ i H',Inv X pins σ0 H' s'/\tn i s'.heap/\(∀ b∈fp,H' b=none)/\W i n H') ?_ m0 ⟨0,H2,I2,st2,fun b hb=>(f2 b hb).1,w0⟩
  rintro n s5 ⟨i,H5,I5,st5,fr5,w5⟩
  rcases turn i n H5 w5 with ⟨stop,qn⟩ | ⟨go,step⟩
  ·refine thn (T.done X rfl rfl rfl hc i pins s5 _ H5 xe I5 (stat fr5) st5 stop) fun r s6 ⟨hr,I6⟩=>?_
   subst hr
   exact hR s6 H5 I6 qn
  ·refine thn (T.item X rfl rfl rfl hc i pins s5 _ H5 xe I5 (stat fr5) st5 go) fun r s6 ⟨u,hr,h6⟩=>?_
   subst hr
   refine thn h6 fun _ s7 ⟨x,H7,I7,r7,y7,st7,fr7⟩=>?_
   have I7':=I7.pinned (stat fr7) (T.obj _ _ st7)
   refine thn (hg _ s7 _ H7 x u _ (I7'.wish _) r7 (step x H7 y7)) fun _ s8 ⟨σ8,H8,I8,k8,q8⟩=>?_
   refine thn (ht _ s8 σ8 H8 _ I8 q8) fun ok s9 ⟨H9,I9,q9⟩=>?_
   have again:∀ {σa:St} {Ha:Hp} {sa:Shared},Inv (X.wish xe) (pins++z1G fp s7.heap) σa Ha sa->(∀ (j:Nat) v,σ0[j]?=some (some v)->σa[j]?=some (some v)) ->
    Inv X pins σ0 Ha sa/\tn (i+1) sa.heap/\∀ b∈fp,Ha b=none:=fun {σa Ha sa} Iw ka=>by
    have Ia:=Iw.unwish
    refine ⟨Ia.unpinned.weak (I5.len.trans Ia.len.symm) ka,T.keep _ _ _ st7 fun b hb o e=>(Ia.pin (b,o) (List.mem_append_right _ (List.mem_append_right _ (k9 hb e)))).1,fun b hb=>?_⟩
    obtain ⟨o,e,d⟩:=T.obj _ _ st7 b hb
    exact (Ia.pin (b,o) (List.mem_append_right _ (List.mem_append_right _ (k9 hb e)))).2.1
   cases ok with
   | false =>
    have q9':∃ m',m'<n/\W (i+1) m' H9:=by simpa using q9
    obtain ⟨m',hm,w9⟩:=q9'
    obtain ⟨a1,a2,a3⟩:=again I9 k8
    exact ⟨m',hm,i+1,H9,a1,a2,a3,w9⟩
   | true =>
    rw [if_pos rfl] at q9
    refine thn (he _ s9 σ8 H9 _ I9 q9) fun v sa ⟨y,Ha,Ia,ra,acc,ea,za,m',hm,wa⟩=>?_
    refine thn (z3k (X:=X.wish xe) _ sa σ8 Ha (.ref D) [y] (.ref D) [v] (fun _ H'=>H'=upd Ha D (.lst (acc++[y]))) Ia rfl (.cons ra .nil) ⟨D,acc,y,rfl,rfl,ea,za,rfl⟩) fun _ sb ⟨_,Hb,Ib,_,eb⟩=>?_
    subst eb
    obtain ⟨a1,a2,a3⟩:=again Ib k8
    exact ⟨m',hm,i+1,_,a1,a2,a3,wa⟩
 exact zC8 loop (T.self _ 0 _ _ _ st2 loop)
theorem zM9 {pins:List (Addr×Obj)}{σ:St}{H2:Hp}{s2:Shared}{it:Addr}{fp:List Addr}{tn:Nat->Heap->Prop}{J:It}{E:Value->Shared->Prop}{RR:Value->Addr->Result->Shared->Prop}{Q:Addr->Hp->Prop}
 (hc:X.calm=true) (S:CS X sc N' cap) (hg:∀ s H fp xe,PG (X.comp N' sc s H fp xe) tg g) (hi1:∀ s H fp xe,PI (X.comp N' sc s H fp xe) tg1 iter1 wi1) (hg1:∀ s H fp xe,PG (X.comp N' sc s H fp xe) tg1 g1) (ht:∀ s H fp xe,PTs (X.comp N' sc s H fp xe) ifs1 ti) (he:∀ s H fp xe,PE (X.comp N' sc s H fp xe) elt te)
 (hs1:∀ env x,foldedSetIterable iter1 env x=pure x)
 (I2:Inv X pins σ H2 s2) (T:Turn X.prog X.w X.K tg J fp it tn) (st2:tn 0 s2.heap) (f2:∀ b∈fp,FpOk X pins H2 b)
 (hq:∀ D,H2 D=none->z3Z cap g wi1 g1 ti te σ J D (Q D) (upd H2 D (.lst [])))
 (hRR:∀ (D:Addr) (s3:Shared) (H3:Hp) (xe:Value->Shared->Prop) (H':Hp) (pins':List (Addr×Obj)) (σ':St) (s':Shared),Inv X pins σ H3 s3->(∀ b∈fp,FpOk X pins H3 b)->Inv (X.comp N' sc s3 H3 fp xe) pins' σ' H' s'->Q D H'->RR (.ref D) s3.heap.objs.size (.ok .next) s') :
 wpAny (model X.prog X.w) X.A (newList []) (fun acc s3=>wpAny (model X.prog X.w) X.A (newFunctionEnv sc X.env.globals (y4 X.env sc.names []) [] X.env.qual none .none (some X.env)) (fun cenv s4 =>
  codeAny (model X.prog X.w) X.A (.compStart (two elt tg iter tg1 iter1 [] ifs1 sc pos) 0 (.ref it) acc { cenv with scope:=relabel sc X.env }) (RR acc cenv.locals) s4) E s3) E s2:=by
 refine wpAny_newObj_type ?_
 have I3:=I2.lnew (ys:=[]) (its:=[]) (t':=s2.toks) .nil (Nat.zero_le _)
 have hfr:H2 s2.heap.objs.size=none:=I2.fresh
 have lt2:∀ b∈fp,b<s2.heap.objs.size:=fun b hb=>by
  obtain ⟨o,e,_⟩:=T.obj _ _ st2 b hb
  exact Heap.lt_size e
 generalize hD:s2.heap.objs.size=D at I3 hfr lt2 ⊢
 have r0:=hq D hfr
 generalize hs3:({ s2 with heap:=s2.heap.push { cls:=.type "list",data:=.seq ([]:List Value).toArray },toks:=s2.toks }:Shared)=s3 at I3
 have f3:∀ b∈fp,FpOk X pins (upd H2 D (.lst [])) b:=fun b hb=>⟨by rw [y6 (Nat.ne_of_lt (lt2 b hb))];exact (f2 b hb).1,(f2 b hb).2⟩
 have kp3:∀ b o,s2.heap.get? b=some o->s3.heap.get? b=some o:=fun b o e=>by rw [← hs3];exact Heap.get?_push_of_some _ e
 have st3:tn 0 s3.heap:=T.keep _ _ _ st2 fun b hb o e=>kp3 b o e
 have lt3:∀ b∈fp,b<s3.heap.objs.size:=fun b hb=>by
  obtain ⟨o,e,_⟩:=T.obj _ _ st3 b hb
  exact Heap.lt_size e
 generalize upd H2 D (.lst [])=H3 at I3 r0 f3
 refine wpAny_newFunctionEnv S.nocell (fun x hx=>absurd hx (by simp)) (fun h1 hns hsb=>?_) S.kind
 have kp4:∀ b o,s3.heap.get? b=some o->h1.get? b=some o:=fun b o e=>by
  rw [hsb.2 b (Nat.ne_of_lt (Heap.lt_size e))]
  exact Heap.get?_push_of_some _ e
 have hns':h1.Ns s3.heap.objs.size fun _=>none:=hns
 have st4:tn 0 h1:=T.keep _ _ _ st3 fun b hb o e=>kp4 b o e
 have frees:∀ b∈fp,H3 b=none:=fun b hb=>(f3 b hb).1
 have loop:codeAny (model X.prog X.w) X.A (.compLoop (two elt tg iter tg1 iter1 [] ifs1 sc pos) 0 (.ref it) (.ref D) (compEnvC sc (y4 X.env sc.names []) s3.heap.objs.size X.env))
  (RR (.ref D) s3.heap.objs.size) { s3 with heap:=h1,toks:=s3.toks+([]:List (Str×Value)).length }:=by
  let xe:Value->Shared->Prop:=notedBy (model X.prog X.w) X.A (compEnvC sc (y4 X.env sc.names []) s3.heap.objs.size X.env) fun e s'=>RR (.ref D) s3.heap.objs.size (.error e) s'
  have I4:Inv (X.comp N' sc s3 H3 fp xe) [] (Y1 cap σ) H3 { s3 with heap:=h1,toks:=s3.toks+([]:List (Str×Value)).length }:=I3.compIn S f3 lt3 hns' kp4
  have stat:∀ {H':Hp},(∀ b∈fp,H' b=none)->∀ b∈fp,FpOk (X.comp N' sc s3 H3 fp xe) [] H' b:=fun hn b hb=>by
   obtain ⟨q1,q2⟩:=I4.ok.exf b hb
   exact ⟨hn b hb,q1,I4.ok.exfs b hb,.inl hb,q2,fun p hp=>absurd (show p∈([]:List (Addr×Obj)) from hp) (by simp)⟩
  obtain ⟨W,⟨m0,w0⟩,turn⟩:=r0
  refine z8q (fun n s'=>∃ i H',Inv (X.comp N' sc s3 H3 fp xe) [] (Y1 cap σ) H' s'/\tn i s'.heap/\(∀ b∈fp,H' b=none)/\W i n H') (hs1 _) ?_ m0 ⟨0,H3,I4,st4,frees,w0⟩
  rintro n s5 ⟨i,H5,I5,st5,fr5,w5⟩
  rcases turn i n H5 w5 with ⟨stop,qn⟩ | ⟨go,step⟩
  ·refine thn (T.done (X.comp N' sc s3 H3 fp xe) rfl rfl rfl hc i [] s5 _ H5 xe I5 (stat fr5) st5 stop) fun r s6 ⟨hr,I6⟩=>?_
   subst hr
   exact hRR D s3 H3 xe H5 [] _ s6 I3 f3 I6 qn
  ·refine thn (T.item (X.comp N' sc s3 H3 fp xe) rfl rfl rfl hc i [] s5 _ H5 xe I5 (stat fr5) st5 go) fun r s6 ⟨u,hr,h6⟩=>?_
   subst hr
   refine thn h6 fun _ s7 ⟨x,H7,I7,r7,y7,st7,fr7⟩=>?_
   have I7':=I7.pinned (stat fr7) (T.obj _ _ st7)
   refine thn (hg s3 H3 fp xe _ s7 _ H7 x u _ I7' r7 (step x H7 y7)) fun _ s8 ⟨σ8,H8,I8,k8,q8⟩=>?_
   have again:∀ {σa:St} {Ha:Hp} {sa:Shared},Inv (X.comp N' sc s3 H3 fp xe) ([]++z1G fp s7.heap) σa Ha sa->(∀ (j:Nat) v,(Y1 cap σ)[j]?=some (some v)->σa[j]?=some (some v)) ->
    Inv (X.comp N' sc s3 H3 fp xe) [] (Y1 cap σ) Ha sa/\tn (i+1) sa.heap/\∀ b∈fp,Ha b=none:=fun {σa Ha sa} Ia ka=>by
    refine ⟨Ia.unpinned.weak (I5.len.trans Ia.len.symm) ka,T.keep _ _ _ st7 fun b hb o e=>(Ia.pin (b,o) (List.mem_append_right _ (List.mem_append_right _ (k9 hb e)))).1,fun b hb=>?_⟩
    obtain ⟨o,e,d⟩:=T.obj _ _ st7 b hb
    exact (Ia.pin (b,o) (List.mem_append_right _ (List.mem_append_right _ (k9 hb e)))).2.1
   refine wpAny_pure ?_
   show (if true=true then _ else _)
   rw [if_pos rfl]
   refine thn (hi1 s3 H3 fp xe _ s8 σ8 H8 _ I8 q8) fun v9 s9 h9=>thn h9 fun itv sa ha=>?_
   obtain ⟨it1,fp1,tn1,J1,Ha,e,Ia,T1,sta,fa,rq⟩:=ha
   subst e
   refine zk1 (X:=X.comp N' sc s3 H3 fp xe) hc (hg1 s3 H3 fp _) (ht s3 H3 fp _) (he s3 H3 fp _) Ia T1 sta fa rq fun sb Hb Ib qb=>?_
   obtain ⟨m',hm,wb⟩:=qb
   obtain ⟨a1,a2,a3⟩:=again Ib k8
   exact ⟨m',hm,i+1,Hb,a1,a2,a3,wb⟩
 exact codeAny_compStart_list loop (T.self _ 0 _ _ _ st4 loop)
end
end L2
namespace FT
open PySem PySem.Spec PyProof.Rows L2
noncomputable def z1z (src:Src) (g:D->G->M G) (mi:G->M Src) (g1:D->G->M G) (k:G->M Bool) (me:G->M D) (n0:Nat) (γ:G):List D->M Unit
 | []=>do
  let _ ← src.chk
  pure ()
 | d :: r=>do
  let _ ← src.chk
  let γ1 ← g d γ
  let s1 ← mi γ1
  let _ ← z0S s1 g1 k me n0 γ1 s1.items
  z1z src g mi g1 k me n0 γ r
noncomputable def z8w (cap:List (Option Nat)) (mi:G->M Src) (g:D->G->M G) (mi1:G->M Src) (g1:D->G->M G) (k:G->M Bool) (me:G->M D):G->M D:=fun γ=>do
 let src ← mi γ
 let n0 ← (fun h=>.ok h.length (h++[.lst []]):M Nat)
 let _ ← z1z src g mi1 g1 k me n0 (capG cap γ) src.items
 pure (.ref n0)
section
variable {X:Cx}{EX:XX}{elt tg iter tg1 iter1:Expr}{ifs1:List Expr}{sc:Scope}{pos:Pos}{N':List Str}{cap:List (Option Nat)}{own own1:List Nat}{mi mi1:G->M Src}{g g1:D->G->M G}{k:G->M Bool}{me:G->M D}
theorem zm4 {σ0:L2.St}{H0:Hp}{ρ0:List Addr}{h0:AH}{γ:G}{src:Src}{J:It}{Dd:Addr}{n0:Nat}{P:Hp->Prop}(r0:RH X.K ρ0 h0 H0) (rg:RG X.K ρ0 H0 γ σ0) (hJ:JOK X.K src ρ0 H0 J) (hD:ρ0[n0]?=some Dd) (hown:∀ j∈own1,∀ v,σ0[j]?≠some (some v))
 (fin:Fin X.K EX ρ0 H0 (fun _ ρ' h' H'=>RH X.K ρ' h' H'->Ext X.K H0 H'->Pre ρ0 ρ'->P H') (z0S src g1 k me n0 γ src.items h0)) :
 compIn (tGk X.K EX own1 g1) (tT X.K EX k) (tE X.K EX me) σ0 J Dd P H0:=by
 refine ⟨fun i m H=>m+i=src.items.length/\∃ ρ h,Pre ρ0 ρ/\Ext X.K H0 H/\RH X.K ρ h H /\
  Fin X.K EX ρ H (fun _ ρ' h' H'=>RH X.K ρ' h' H'->Ext X.K H0 H'->Pre ρ0 ρ'->P H') (z0S src g1 k me n0 γ (src.items.drop i) h),
  ⟨src.items.length,rfl,_,_,Pre.refl _,Ext.refl _ _,r0,fin⟩,?_⟩
 rintro i m H1 ⟨hm,ρ1,h1,p1,e1,r1,f1⟩
 by_cases hi:i<src.items.length
 ·rw [show src.items.drop i=src.items[i] :: src.items.drop (i+1) from List.drop_eq_getElem_cons hi] at f1
  unfold z0S at f1
  obtain ⟨good,f2⟩:=z0J f1 r1
  obtain ⟨j1,j2⟩:=hJ i ρ1 h1 H1 p1 e1 r1 good
  obtain ⟨go,yld⟩:=j1 src.items[i] (List.getElem?_eq_getElem hi)
  refine .inr ⟨go,fun x H2 y=>?_⟩
  obtain ⟨rd,rh,ext⟩:=yld x H2 y
  refine ⟨ρ1,_,h1,_,⟨rg.mono p1 (e1.trans ext),rh⟩,rd,(Fin.bind (Fin.up (Pre.refl _) ext f2)).mono fun γ2 ρ3 h3 H3 p3 e3 r3 f3 σ3 g3 k3=>⟨fun j v hv=>?_,ρ3,γ2,h3,⟨g3,r3⟩,(Fin.bind f3).mono fun t ρ4 h4 H4 p4 e4 r4 f4=>?_⟩⟩
  ·rw [k3 j fun hj=>hown j hj v hv]
   exact hv
  ·have pp:Pre ρ0 ρ4:=(p1.trans p3).trans p4
   have ee:Ext X.K H0 H4:=((e1.trans ext).trans e3).trans e4
   cases t with
   | false =>
    rw [if_neg (by decide)] at f4
    dsimp only
    rw [if_neg (by decide)]
    exact ⟨m - 1,by omega,by omega,ρ4,h4,pp,ee,r4,f4⟩
   | true =>
    rw [if_pos rfl] at f4
    dsimp only
    rw [if_pos rfl]
    refine ⟨ρ4,γ2,h4,⟨g3.mono p4 e4,r4⟩,(Fin.bind f4).mono fun d ρ5 h5 H5 p5 e5 r5 f5 v rv=>?_⟩
    have hq:ρ5[n0]?=some Dd:=(pp.trans p5) _ _ hD
    have f6:=Fin.bind f5
    unfold y8 updL at f6
    cases e7:h5[n0]? with
    | none=>rw [e7] at f6;exact f6.elim
    | some ob =>
     cases ob with
     | set ks=>rw [e7] at f6;exact f6.elim
     | dct=>rw [e7] at f6;exact f6.elim
     | dK kvs=>rw [e7] at f6;exact f6.elim
     | dF kvs=>rw [e7] at f6;exact f6.elim
     | exc c=>rw [e7] at f6;exact f6.elim
     | lst xs =>
      rw [e7] at f6
      dsimp only at f6
      split at f6
      ·rename_i hl
       obtain ⟨a1,n1,vs,o1,d1⟩:=r5.at e7
       rw [hq] at n1;cases n1
       have dd:=d1.append (RDs.cons rv RDs.nil)
       have ext2:Ext X.K H5 (upd H5 Dd (.lst (vs++[v]))):=Ext.upd (.inr ⟨_,o1,trivial⟩)
       have r6:=r5.set e7 hq dd
       rw [List.length_append,List.length_singleton] at hl
       have hl2:=d1.length
       exact ⟨vs,o1,by omega,m - 1,by omega,by omega,ρ5,_,pp.trans p5,(ee.trans e5).trans ext2,r6,f6 ρ5 _ (Pre.refl _) ext2 r6⟩
      ·exact f6.elim
 ·rw [show src.items.drop i=[] from List.drop_eq_nil_of_le (by omega)] at f1
  unfold z0S at f1
  obtain ⟨good,f2⟩:=z0J f1 r1
  obtain ⟨j1,j2⟩:=hJ i ρ1 h1 H1 p1 e1 r1 good
  exact .inl ⟨j2 (by omega),f2 ρ1 H1 (Pre.refl _) (Ext.refl _ _) r1 r1 e1 p1⟩
theorem z9d {σ:L2.St}{H0:Hp}{ρ0:List Addr}{h0:AH}{γ:G}{src:Src}{J:It}{Dd:Addr}{P:Hp->Prop}(r0:RH X.K ρ0 h0 H0) (rg:RG X.K ρ0 H0 γ σ) (hJ:JOK X.K src ρ0 H0 J) (hD:H0 Dd=none) (hown:∀ j∈own,cap[j]?=some none) (hown1:∀ j∈own1,cap[j]?=some none/\j∉own)
 (fin:Fin X.K EX (ρ0++[Dd]) (upd H0 Dd (.lst [])) (fun _ ρ' h' H'=>ρ'[h0.length]?=some Dd->RH X.K ρ' h' H'->Ext X.K (upd H0 Dd (.lst [])) H'->Pre (ρ0++[Dd]) ρ'->P H') (z1z src g mi1 g1 k me h0.length (capG cap γ) src.items (h0++[.lst []]))) :
 z3Z cap (tGk X.K EX own g) (tI X.K EX mi1) (tGk X.K EX own1 g1) (tT X.K EX k) (tE X.K EX me) σ J Dd P (upd H0 Dd (.lst [])):=by
 have rP:=r0.push hD (RDs.nil (K:=X.K) (ρ:=ρ0) (H:=H0))
 have eP:Ext X.K H0 (upd H0 Dd (.lst [])):=Ext.upd (.inl hD)
 have at0:(ρ0++[Dd])[h0.length]?=some Dd:=by rw [← r0.len];simp
 refine ⟨fun i m H=>m+i=src.items.length/\∃ ρ h,Pre (ρ0++[Dd]) ρ/\Ext X.K (upd H0 Dd (.lst [])) H/\RH X.K ρ h H /\
  Fin X.K EX ρ H (fun _ ρ' h' H'=>ρ'[h0.length]?=some Dd->RH X.K ρ' h' H'->Ext X.K (upd H0 Dd (.lst [])) H'->Pre (ρ0++[Dd]) ρ'->P H') (z1z src g mi1 g1 k me h0.length (capG cap γ) (src.items.drop i) h),
  ⟨src.items.length,rfl,_,_,Pre.refl _,Ext.refl _ _,rP,fin⟩,?_⟩
 rintro i m H1 ⟨hm,ρ1,h1,p1,e1,r1,f1⟩
 have p01:Pre ρ0 ρ1:=(Pre.app _ _).trans p1
 have e01:Ext X.K H0 H1:=eP.trans e1
 by_cases hi:i<src.items.length
 ·rw [show src.items.drop i=src.items[i] :: src.items.drop (i+1) from List.drop_eq_getElem_cons hi] at f1
  unfold z1z at f1
  obtain ⟨good,f2⟩:=z0J f1 r1
  obtain ⟨j1,j2⟩:=hJ i ρ1 h1 H1 p01 e01 r1 good
  obtain ⟨go,yld⟩:=j1 src.items[i] (List.getElem?_eq_getElem hi)
  refine .inr ⟨go,fun x H2 y=>?_⟩
  obtain ⟨rd,rh,ext⟩:=yld x H2 y
  have rgc:RG X.K ρ1 H2 (capG cap γ) (Y1 cap σ):=(z4g cap rg).mono p01 (e01.trans ext)
  have non:∀ {j:Nat} {v:V},cap[j]?=some none->(Y1 cap σ)[j]?≠some (some v):=fun {j v} z hv=>by
   unfold Y1 at hv
   rw [List.getElem?_map,z] at hv
   simp at hv
  refine ⟨ρ1,_,h1,_,⟨rgc,rh⟩,rd,(Fin.bind (Fin.up (Pre.refl _) ext f2)).mono fun γ2 ρ3 h3 H3 p3 e3 r3 f3 σ3 g3 k3=>⟨fun j v hv=>?_,ρ3,γ2,h3,⟨g3,r3⟩,(Fin.bind f3).mono fun s1 ρ4 h4 H4 p4 e4 r4 f4 J1 hJ1=>?_⟩⟩
  ·rw [k3 j fun hj=>non (hown j hj) hv]
   exact hv
  ·have pp:Pre (ρ0++[Dd]) ρ4:=(p1.trans p3).trans p4
   have ee:Ext X.K (upd H0 Dd (.lst [])) H4:=((e1.trans ext).trans e3).trans e4
   refine zm4 r4 (g3.mono p4 e4) hJ1 (pp _ _ at0) (fun j hj v hv=>?_) ((Fin.bind f4).mono fun _ ρ5 h5 H5 p5 e5 r5 f5 rr ex pr=>?_)
   ·rw [k3 j (hown1 j hj).2] at hv
    exact non (hown1 j hj).1 hv
   ·exact ⟨m - 1,by omega,by omega,ρ5,h5,pp.trans pr,ee.trans ex,rr,f5⟩
 ·rw [show src.items.drop i=[] from List.drop_eq_nil_of_le (by omega)] at f1
  unfold z1z at f1
  obtain ⟨good,f2⟩:=z0J f1 r1
  obtain ⟨j1,j2⟩:=hJ i ρ1 h1 H1 p01 e01 r1 good
  exact .inl ⟨j2 (by omega),f2 ρ1 H1 (Pre.refl _) (Ext.refl _ _) r1 (p1 _ _ at0) r1 e1 p1⟩
end
end FT
namespace L2
open PySem PySem.Spec PyProof.Rows
theorem range_all {α:Type}(r:List α):(List.range r.length).filterMap (fun m=>r[m]?)=r:=by
 have:=pick_run r.toArray 0 r.length
 rw [List.filterMap_map] at this
 have e:((fun x=>r.toArray[x]?) ∘ fun x=>0+x)=fun m=>r[m]?:=by funext m;simp
 rw [e] at this
 rw [this]
 simp
section
variable {prog:Program}{w:World}{A:Around}{E:Value->Shared->Prop}{s:Shared}
end
section
variable {X:Cx}{e st:Expr}{te ts:TE}{pos p2:Pos}
end
end L2
namespace FT
open PySem PySem.Spec PyProof.Rows L2
theorem rds2 {K:PySem.W.Frag}{ρ:List Addr}{H:Hp}{d d':D}{vs:List V}(h:RDs K ρ H [d,d'] vs):∃ v v',vs=[v,v']/\RD K ρ H d v/\RD K ρ H d' v':=by
 simp only [RDs] at h
 obtain ⟨x,r,rfl,h2,y,q,rfl,h3,rfl⟩:=h
 exact ⟨x,y,rfl,h2,h3⟩
section
variable {X:Cx}{EX:XX}{a b st:Expr}{pos p p2:Pos}{ma ms:G->M D}{mr:G->M (List D)}
end
end FT
namespace L2
open PySem PySem.Spec PyProof.Rows
structure Fly (base:Heap) (l:List Env) (e T:Addr) (cls:Value) (h:Heap):Prop where
 stays:base.StaysIn h
 ne:base.get? e=none
 nT:base.get? T=none
 fr:h.FunFrames base l
 tr:∃ a0 oe vs oT ts,h.get? e=some oe/\(oe.cls=cls/\vs[0]?=some a0)/\oe.data=.fields vs/\vs[1]?=some (.ref T)/\T≠e/\h.get? T=some oT/\oT.data=.fields ts/\ts[3]?=some .none
structure Kept (l:List Env) (e T:Addr) (h h':Heap):Prop where
 keep:∀ b o,h.get? b=some o->b∉frs l->b≠e->b≠T->h'.get? b=some o
 slot:∀ b o,h.get? b=some o->b∈frs l->∃ sl,h'.get? b=some { o with slots:=sl }
section
variable {M:Model}{A:Around}{E:Value->Shared->Prop}{s:Shared}{base:Heap}{env:Env}{outer:List Env}{L e T:Addr}{cls:Value}{Q:Unit->Shared->Prop}
end
section
variable {X:Cx}{pins:List (Addr×Obj)}{σ:List (Option V)}{H H':Hp}{s:Shared}{h':Heap}
end
def CXE (P:Program) (w:World) (base:Heap):CXT:=fun outer H s E e s'=>∃ a T C H',e=.ref a/\Fly base outer a T (.ref C) s'.heap/\s.heap.get? a=none/\s.heap.get? T=none/\H' a=none/\H' T=none/\s'.os=s.os/\AllBare s'.gens /\
 Un (frs outer) [] H H' s.heap s'.heap/\HOk P w H' s'.heap/\E (.ref C) none H'
section
variable {M:Model}{A:Around}{E:Value->Shared->Prop}{h:Heap}{g:Array GenState}{d:Drawn}{t:Nat}{os:OsState}{C Ch e:Addr}{oe:Obj}{b:Bool}{Q:Bool->Shared->Prop}
 {nm q:Str} {N:Addr} {bs bm:List Value} {hdct:Bool} {sn:List Str} {sub:List Value} {ab:Bool} {col:Option Bool} {dd:Option Addr} {k0 k1 k2 k3 k5:Option Value} {newId:String}
 {nm' q':Str} {N':Addr} {bs' bm':List Value} {hdct':Bool} {sn':List Str} {sub':List Value} {ab':Bool} {col':Option Bool} {dd':Option Addr} {k0' k1' k2' k3' k5':Option Value} {newId':String}
end
section
variable {X:Cx}{pins:List (Addr×Obj)}{σ:St}{H:Hp}{s:Shared}{e:Value}
end
section
variable {X:Cx}{pins:List (Addr×Obj)}{σ:St}{H1:Hp}{s1 s':Shared}{e:Value}{E:XK}{cn n:Str}{Ch:Addr}{bmH:List Value}{np hpos:Pos}{b₀:Stmt}{suite:List Stmt}{EE:Value->Shared->Prop}{D:Ends}{ts:TS}
theorem back {u:Value}(I1:Inv X pins σ H1 s1) (c:CXE X.prog X.w X.base X.stack H1 s1 E u s'):∃ a T C H',u=.ref a/\Fly X.base X.stack a T (.ref C) s'.heap/\s1.heap.get? a=none/\s1.heap.get? T=none/\H' a=none/\H' T=none/\Inv X pins σ H' s'/\E (.ref C) none H':=by
 obtain ⟨a,T,C,H',rfl,F,n1,n2,u1,u2,os,bare,un,hok,hE⟩:=c
 obtain ⟨hh,g,d,t,os'⟩:=s'
 obtain rfl:os'=s1.os:=os
 exact ⟨a,T,C,H',rfl,F,n1,n2,u1,u2,I1.call (h':=hh) (g':=g) (d':=d) (t':=t) (ch:=[]) un hok bare (fun b z=>absurd z (by simp)),hE⟩
end
section
variable {M:Model}{A:Around}{E:Value->Shared->Prop}{h:Heap}{g:Array GenState}{d:Drawn}{t:Nat}{os:OsState}
end
section
variable {prog:Program}{w:World}{A:Around}{E:Value->Shared->Prop}{h:Heap}{g:Array GenState}{d:Drawn}{t:Nat}{os:OsState}{a C:Addr}{o:Obj}
end
section
variable {X:Cx}{x:Str}{C:Addr}{bm:List Value}{B newId initId:String}{e₀:Expr}{rest:List Expr}{t:TA}{np cpos pos:Pos}{R:Hp->Prop}
end
section
variable {X:Cx}{CX:CXT}{k:Nat}{f:Addr}{fd:FuncData}{ps:List Str}{sp:Sp}{E:XK}{x:Str}{p pos:Pos}{e:Expr}{es:List Expr}{t:TA}{EE:Value->Shared->Prop}{Q:VK}{pins:List (Addr×Obj)}{σ:St}{H:Hp}{s:Shared}
end
section
variable {X:Cx}{k:Nat}{f Ch:Addr}{fd:FuncData}{ps:List Str}{sp:Sp}{x cn y:Str}{i:Nat}{p pos pos1 pos2 py np hpos:Pos}{e:Expr}{es:List Expr}{t:TA}{bmH:List Value}{b₀:Stmt}{suite:List Stmt}{ts:TS}
end
section
variable {X:Cx}{pins:List (Addr×Obj)}{σ:St}{H:Hp}{s:Shared}
end
section
variable {X:Cx}{pins:List (Addr×Obj)}{σ:St}{H1:Hp}{s1 s':Shared}{e:Value}{E:XK}{cn n:Str}{i:Nat}{Ch:Addr}{bmH:List Value}{np hpos:Pos}{b₀:Stmt}{suite:List Stmt}{EE:Value->Shared->Prop}{D:Ends}{ts:TS}
end
section
variable {X:Cx}{k:Nat}{f Ch:Addr}{fd:FuncData}{ps:List Str}{sp:Sp}{x cn n:Str}{i:Nat}{p pos pos1 pos2 np hpos:Pos}{e:Expr}{es:List Expr}{t:TA}{bmH:List Value}{b₀:Stmt}{suite:List Stmt}{ts:TS}
end
end L2
namespace FT
open PySem PySem.Spec PyProof.Rows L2
section
variable {X:Cx}{EX:XX}{e c:Expr}{es:List Expr}{st:Stmt}{sts:List Stmt}{me:G->M D}{k:G->M Bool}{mr:G->M (List D)}{ms:G->M Out}
end
section
variable {P:Program}{w:World}{K:PySem.W.Frag}{mg:Str->Option Value}{base:Heap}{N:List Str}{qual c:Str}{scope:Scope}{f C:Addr}{cd:Value}{A:Around}{outer:List Env}{s:Shared}{H:Hp}{E:XK}{bm:List Value}
 {e₀:Expr} {rest:List Expr} {mr:G->M (List D)} {np cpos pos:Pos}
end
section
variable {X:Cx}{k n i:Nat}{x cn y:Str}{Ch:Addr}{bmH:List Value}{mf:List D->M D}{mr:G->M (List D)}{ok:Str->Bool}{ms:G->M Out}{e:Expr}{es:List Expr}{b₀:Stmt}{suite:List Stmt}{p pos pos1 pos2 py np hpos:Pos}
end
end FT
namespace L2
open PySem PySem.Spec PyProof.Rows
section
variable {X:Cx}
end
section
variable {X:Cx}
end
end L2
namespace FT
open PySem PySem.Spec PyProof.Rows L2
def fInT (neg:Bool):D->D->M D
 | .str i,.str j=>pure (.bl ((!(Builtin.Str.occurrences j i 0 j.length 1).isEmpty) != neg))
 | _,_=>bad
section
variable {X:Cx}{EX:XX}{a:Expr}{p p2 pos:Pos}{ma:G->M D}{k:Str->Option Bool}
theorem zr3 {K:PySem.W.Frag}:BR K EX (fun x y H Q=>∃ i j,x=.str i/\y=.str j/\Q (.bl (!(!(Builtin.Str.occurrences j i 0 j.length 1).isEmpty))) H) (fInT true):=by
 intro ρ h H x y v u Q r rx ry fin
 unfold fInT at fin
 split at fin
 ·rename_i i j
  simp only [RD] at rx ry;subst rx;subst ry
  refine ⟨i,j,rfl,rfl,FE.here fin r ?_⟩
  cases (Builtin.Str.occurrences j i 0 j.length 1).isEmpty<;>simp [RD]
 ·exact fin.elim
theorem zq4:CO X EX .NotIn (fInT true):=⟨_,z4N,zr3⟩
end
section
variable {X:Cx}{EX:XX}
end
section
variable {X:Cx}{EX:XX}{a:Expr}{p p2 pos:Pos}{ma:G->M D}{k:Str->Option Bool}
end
end FT
set_option maxHeartbeats 2000000
namespace FT
open PySem PySem.Spec PyProof.Rows L2
variable {α β:Type}
def W (m:M α) (h:AH) (Q:α->AH->Prop):Prop:=∃ a h',m h=.ok a h'/\Q a h'
theorem Z8 {m:M α}{f:α->M β}{h:AH}{Q:β->AH->Prop}:W (m >>= f) h Q↔W m h fun a h1=>W (f a) h1 Q:=by
 constructor
 ·rintro ⟨b,h2,e,q⟩
  rw [bindM] at e
  cases em:m h with
  | ok a h1=>rw [em] at e;exact ⟨a,h1,em,b,h2,e,q⟩
  | err x h1=>rw [em] at e;cases e
  | bad=>rw [em] at e;cases e
 ·rintro ⟨a,h1,e,b,h2,e',q⟩
  exact ⟨b,h2,by rw [M.bind_ok e,e'],q⟩
theorem W_pure {a:α}{h:AH}{Q:α->AH->Prop}:W (Pure.pure a:M α) h Q↔Q a h:=by
 constructor
 ·rintro ⟨b,h2,e,q⟩;cases e;exact q
 ·exact fun q=>⟨a,h,rfl,q⟩
theorem z5O {h:AH}{Q:α->AH->Prop}:W (bad:M α) h Q↔False:=by
 constructor
 ·rintro ⟨b,h2,e,q⟩;cases e
 ·exact False.elim
theorem z4U {c:Prop} [Decidable c] {m n:M α}{h:AH}{Q:α->AH->Prop}:W (if c then m else n) h Q↔if c then W m h Q else W n h Q:=by
 split<;>exact Iff.rfl
theorem W.mono {m:M α}{h:AH}{Q Q':α->AH->Prop}(z:W m h Q) (f:∀ a h',Q a h'->Q' a h'):W m h Q':=let ⟨a,h',e,q⟩:=z;⟨a,h',e,f a h' q⟩
theorem W.of {m:M α}{h h':AH}{a:α}{Q:α->AH->Prop}(e:m h=.ok a h') (q:Q a h'):W m h Q:=⟨a,h',e,q⟩
theorem z5V {γ:G}{h:AH}{Q:Out->AH->Prop}:W (bNil γ) h Q↔Q (.nx γ) h:=W_pure
def zq3 (mt:G->M Out) (Q:Out->AH->Prop):Out->AH->Prop:=fun o h=>match o with
 | .nx γ=>W (mt γ) h Q
 | o=>Q o h
theorem Y7 {mt:G->M Out}{Q:Out->AH->Prop}{γ:G}{h:AH}:zq3 mt Q (.nx γ) h↔W (mt γ) h Q:=Iff.rfl
theorem z1w {mt:G->M Out}{Q:Out->AH->Prop}{d:D}{h:AH}:zq3 mt Q (.rt d) h↔Q (.rt d) h:=Iff.rfl
theorem w_cons {ms mt:G->M Out}{γ:G}{h:AH}{Q:Out->AH->Prop}:W (z9 ms mt γ) h Q↔W (ms γ) h (zq3 mt Q):=by
 unfold z9
 rw [Z8]
 constructor
 ·rintro ⟨o,h1,e,q⟩
  refine ⟨o,h1,e,?_⟩
  cases o with
  | nx γ=>exact q
  | rt d=>exact (W_pure (a:=Out.rt d) (Q:=Q)).mp q
  | bk d=>exact (W_pure (a:=Out.bk d) (Q:=Q)).mp q
  | ct d=>exact (W_pure (a:=Out.ct d) (Q:=Q)).mp q
 ·rintro ⟨o,h1,e,q⟩
  refine ⟨o,h1,e,?_⟩
  cases o with
  | nx γ=>exact q
  | rt d=>exact W_pure.mpr q
  | bk d=>exact W_pure.mpr q
  | ct d=>exact W_pure.mpr q
def runW (Q:D->AH->Prop):Out->AH->Prop:=fun o h=>match o with
 | .nx _=>Q .non h
 | .rt d=>Q d h
 | _=>False
theorem z5U {n:Nat}{mb:G->M Out}{ds:List D}{h:AH}{Q:D->AH->Prop}(z:W (mb (z1c n ds)) h (runW Q)):W (runF n mb ds) h Q:=by
 unfold runF
 rw [Z8]
 refine z.mono fun o h1 q=>?_
 cases o with
 | nx γ=>exact W_pure.mpr q
 | rt d=>exact W_pure.mpr q
 | bk d=>exact q.elim
 | ct d=>exact q.elim
theorem zi5 {i j:Int}:fAdd (.int i) (.int j)=pure (.int (i+j)):=rfl
theorem zz3 {i j:Int}:fSub (.int i) (.int j)=pure (.int (i - j)):=rfl
theorem zv0 {i j:Int}:fGt (.int i) (.int j)=pure (.bl (decide (j<i))):=rfl
theorem zG8 {i j:Int}:fGe (.int i) (.int j)=pure (.bl (decide (j≤i))):=rfl
theorem z9s {i j:Int}:fLt (.int i) (.int j)=pure (.bl (decide (i<j))):=rfl
theorem zv2 {i j:Int}:fLe (.int i) (.int j)=pure (.bl (decide (i≤j))):=rfl
theorem zw2 {i j:Int}{b:Bool}:fEq b (.int i) (.int j)=pure (.bl (decide (i=j) != b)):=rfl
theorem z1E {b:Bool}:asB (.bl b)=pure b:=rfl
theorem zm0 {b:Bool}:truD (.bl b)=pure b:=rfl
theorem z5H {n:Nat}{h:AH}{Q:Nat->AH->Prop}:W (z1J (.ref n)) h Q↔W (getL n) h fun _ h1=>Q n h1:=by
 unfold W z1J getL
 dsimp only
 cases e:h[n]? with
 | none=>exact ⟨fun ⟨_,_,z,_⟩=>(by cases z),fun ⟨_,_,z,_⟩=>(by cases z)⟩
 | some o =>
  cases o with
  | set ks=>exact ⟨fun ⟨_,_,z,_⟩=>(by cases z),fun ⟨_,_,z,_⟩=>(by cases z)⟩
  | dct=>exact ⟨fun ⟨_,_,z,_⟩=>(by cases z),fun ⟨_,_,z,_⟩=>(by cases z)⟩
  | dK kvs=>exact ⟨fun ⟨_,_,z,_⟩=>(by cases z),fun ⟨_,_,z,_⟩=>(by cases z)⟩
  | dF kvs=>exact ⟨fun ⟨_,_,z,_⟩=>(by cases z),fun ⟨_,_,z,_⟩=>(by cases z)⟩
  | exc c=>exact ⟨fun ⟨_,_,z,_⟩=>(by cases z),fun ⟨_,_,z,_⟩=>(by cases z)⟩
  | lst xs=>exact ⟨fun ⟨_,_,z,q⟩=>(by cases z;exact ⟨xs,h,rfl,q⟩),fun ⟨_,_,z,q⟩=>(by cases z;exact ⟨n,h,rfl,q⟩)⟩
theorem zE3 {b:Bool}{t:String}:fIsi t (.bl b)=pure (.bl (subT "bool" t)):=rfl
theorem z8H {b:Int}{t:String}:fIsi t (.int b)=pure (.bl (subT "int" t)):=rfl
theorem zl5 {b:Str}{t:String}:fIsi t (.str b)=pure (.bl (subT "str" t)):=rfl
theorem z7y {b:List D}{t:String}:fIsi t (.tup b)=pure (.bl (subT "tuple" t)):=rfl
def forW (J:G->AH->Prop) (R:D->AH->Prop):Out->AH->Prop:=fun o h=>match o with
 | .nx γ=>J γ h
 | .ct γ=>J γ h
 | .bk _=>False
 | .rt d=>R d h
def endW (J:G->AH->Prop) (R:D->AH->Prop):Out->AH->Prop:=fun o h=>match o with
 | .nx γ=>J γ h
 | .ct _=>False
 | .bk _=>False
 | .rt d=>R d h
theorem z5Q {src:Src}{g:D->G->M G}{body:G->M Out}(I:Nat->G->AH->Prop) (R:D->AH->Prop) (good:∀ i γ h,I i γ h->src.good h):∀ (items:List D) (n:Nat) (γ:G) (h:AH),
 (∀ i d γ h,items[i]?=some d->I (n+i) γ h->W (g d γ) h fun γ1 h1=>W (body γ1) h1 (forW (I (n+i+1)) R))->I n γ h ->
 W (forR src g body items γ) h (endW (I (n+items.length)) R)
 | [],n,γ,h,_,q=>⟨.nx γ,h,by unfold forR Src.chk;simp [good _ _ _ q],q⟩
 | d :: r,n,γ,h,z,q=>by
  unfold forR
  rw [Z8]
  refine W.of (a:=()) (h':=h) (by unfold Src.chk;simp [good _ _ _ q]) ?_
  rw [Z8]
  refine (z 0 d γ h rfl q).mono fun γ1 h1 q1=>?_
  rw [Z8]
  refine q1.mono fun o h2 q2=>?_
  have step:∀ γ2,I (n+0+1) γ2 h2->W (forR src g body r γ2) h2 (endW (I (n+(d :: r).length)) R):=fun γ2 w=>by
   have:=z5Q (src:=src) I R good r (n+1) γ2 h2 (fun i d γ h e q=>by
    have:=z (i+1) d γ h (by simpa using e) (by rw [show n+(i+1)=n+1+i by omega];exact q)
    rw [show n+(i+1)+1=n+1+i+1 by omega] at this
    exact this) (by simpa using w)
   rw [show n+1+r.length=n+(d :: r).length by simp;omega] at this
   exact this
  cases o with
  | nx γ2=>exact step γ2 q2
  | ct γ2=>exact step γ2 q2
  | bk γ2=>exact q2.elim
  | rt v=>exact W_pure.mpr q2
theorem zF7 {ms mt:G->M Out}{γ:G}{h:AH}{Q:Out->AH->Prop}(J:G->AH->Prop) (z:W (ms γ) h (endW J fun d h=>Q (.rt d) h)) (k:∀ γ h,J γ h->W (mt γ) h Q):W (z9 ms mt γ) h Q:=by
 rw [w_cons]
 refine z.mono fun o h1 q=>?_
 cases o with
 | nx γ=>exact k γ h1 q
 | rt d=>exact q
 | bk d=>exact q.elim
 | ct d=>exact q.elim
theorem z7K {n i:Nat}{d:D}(e:(z0B n)[i]?=some d):d=.int i/\i<n:=by
 unfold z0B at e
 rw [List.getElem?_map] at e
 obtain ⟨j,e1,e2⟩:=Option.map_eq_some_iff.mp e
 obtain ⟨h1,h2⟩:=List.getElem?_eq_some_iff.mp e1
 simp at h1 h2
 subst h2
 exact ⟨e2.symm,h1⟩
theorem z1e {ma:G->M D}{i:Nat}{body:G->M Out}{γ:G}{h:AH}(I:Nat->G->AH->Prop) (R:D->AH->Prop) {Q:Out->AH->Prop}
 (hs:W (ma γ) h fun d h1=>∃ n:Nat,d=.int n/\n<4611686018427387904/\I 0 γ h1/\(∀ k γ h,k<n->I k γ h->W (body (γ.set i (some (.int k)))) h (forW (I (k+1)) R))/\(∀ γ h',I n γ h'->Q (.nx γ) h')/\∀ d h',R d h'->Q (.rt d) h') :
 W (sFor (z02 ma) (gN i) body γ) h Q:=by
 unfold sFor z02
 rw [Z8,Z8]
 refine hs.mono fun d h1 ⟨n,e,hn,i0,st,fin⟩=>?_
 subst e
 dsimp only
 rw [if_pos (by omega),W_pure]
 have:=z5Q (src:=.con (z0B (n:Int).toNat)) (g:=gN i) (body:=body) I R (fun _ _ _ _=>trivial) (z0B (n:Int).toNat) 0 γ h1 (fun k d γ h e q=>by
  obtain ⟨rfl,hk⟩:=z7K e
  rw [Nat.zero_add] at q ⊢
  exact W_pure.mpr (st k γ h (by simpa using hk) q)) i0
 rw [show 0+(z0B (n:Int).toNat).length=n by unfold z0B;simp] at this
 refine this.mono fun o h' q=>?_
 cases o with
 | nx γ=>exact fin.1 γ h' q
 | rt d=>exact fin.2 d h' q
 | bk d=>exact q.elim
 | ct d=>exact q.elim
theorem z5P {mi:G->M Src}{g:D->G->M G}{body:G->M Out}{γ:G}{h:AH}(I:Nat->G->AH->Prop) (R:D->AH->Prop) {Q:Out->AH->Prop}
 (hs:W (mi γ) h fun src h1=>I 0 γ h1/\(∀ i γ h,I i γ h->src.good h)/\(∀ i d γ h,src.items[i]?=some d->I i γ h->W (g d γ) h fun γ1 h1=>W (body γ1) h1 (forW (I (i+1)) R))/\(∀ γ h',I src.items.length γ h'->Q (.nx γ) h')/\∀ d h',R d h'->Q (.rt d) h') :
 W (sFor mi g body γ) h Q:=by
 unfold sFor
 rw [Z8]
 refine hs.mono fun src h1 ⟨i0,good,st,fin⟩=>?_
 have:=z5Q (src:=src) (g:=g) (body:=body) I R good src.items 0 γ h1 (fun k d γ h e q=>by
  rw [Nat.zero_add] at q ⊢
  exact st k d γ h e q) i0
 rw [Nat.zero_add] at this
 refine this.mono fun o h' q=>?_
 cases o with
 | nx γ=>exact fin.1 γ h' q
 | rt d=>exact fin.2 d h' q
 | bk d=>exact q.elim
 | ct d=>exact q.elim
theorem zB8 {ma:G->M D}{γ:G}{h h1:AH}{n:Nat}(e:ma γ h=.ok (.int n) h1) (hn:n<4611686018427387904):z02 ma γ h=.ok (.con (z0B n)) h1:=by
 unfold z02
 rw [M.bind_ok e]
 dsimp only
 rw [if_pos (by omega)]
 rfl
theorem z3g {k:G->M Bool}{body:G->M Out}(I:Nat->G->AH->Prop) (E:G->AH->Prop) (R:D->AH->Prop)
 (z:∀ m γ h,I m γ h->W (k γ) h fun b h1=>if b=true then ∃ m',m=m'+1/\W (body γ) h1 (forW (fun γ h=>∃ i,i≤m'/\I i γ h) R) else E γ h1):∀ (n m:Nat) (γ:G) (h:AH),m<n->I m γ h ->
 W (z1F k body n γ) h (endW E R)
 | 0,m,γ,h,hm,_=>by omega
 | n+1,m,γ,h,hm,q=>by
  unfold z1F
  rw [Z8]
  refine (z m γ h q).mono fun b h1 q1=>?_
  cases b with
  | false =>
   rw [if_neg (by decide)] at q1 ⊢
   exact W_pure.mpr q1
  | true =>
   rw [if_pos rfl] at q1 ⊢
   obtain ⟨m',rfl,q2⟩:=q1
   rw [Z8]
   refine q2.mono fun o h2 q3=>?_
   cases o with
   | nx γ2=>obtain ⟨i,hi,q4⟩:=q3;exact z3g I E R z n i γ2 h2 (by omega) q4
   | ct γ2=>obtain ⟨i,hi,q4⟩:=q3;exact z3g I E R z n i γ2 h2 (by omega) q4
   | bk γ2=>exact q3.elim
   | rt v=>exact W_pure.mpr q3
theorem z2S {g:D->G->M G}{k:G->M Bool}{me:G->M D}{γ:G}{p:D->Bool}{f:D->D}(src:Src) (h0:AH) (hg:∀ j,src.good (h0++j)):∀ (items:List D) (acc:List D),acc.length+items.length≤1000000 ->
 (∀ d∈items,∃ γ1,(∀ h,g d γ h=.ok γ1 h)/\(∀ j,k γ1 (h0++j)=.ok (p d) (h0++j))/\(p d=true->∀ j,me γ1 (h0++j)=.ok (f d) (h0++j))) ->
 z0S src g k me h0.length γ items (h0++[.lst acc])=.ok () (h0++[.lst (acc++(items.filter p).map f)])
 | [],acc,hl,hd=>by unfold z0S Src.chk;simp [hg]
 | d :: r,acc,hl,hd=>by
  obtain ⟨γ1,e1,e2,e3⟩:=hd d List.mem_cons_self
  unfold z0S
  have chk:src.chk (h0++[.lst acc])=.ok () (h0++[.lst acc]):=by unfold Src.chk;simp [hg]
  rw [M.bind_ok chk,M.bind_ok (e1 _),M.bind_ok (e2 _)]
  simp only [List.length_cons] at hl
  have hr:∀ d∈r,∃ γ1,(∀ h,g d γ h=.ok γ1 h)/\(∀ j,k γ1 (h0++j)=.ok (p d) (h0++j))/\(p d=true->∀ j,me γ1 (h0++j)=.ok (f d) (h0++j)):=fun x hx=>hd x (List.mem_cons_of_mem _ hx)
  cases hp:p d with
  | false =>
   rw [if_neg (by decide),z2S src h0 hg r acc (by omega) hr,List.filter_cons,hp]
   rfl
  | true =>
   rw [if_pos rfl,M.bind_ok (e3 hp _)]
   have ap:y8 h0.length (f d) (h0++[.lst acc])=.ok .non (h0++[.lst (acc++[f d])]):=by
    unfold y8 updL
    have g1:(h0++[O.lst acc])[h0.length]?=some (.lst acc):=by simp
    rw [g1]
    dsimp only
    have hs:(acc++[f d]).length≤sizeLine:=by
     rw [List.length_append,List.length_singleton]
     exact Nat.le_trans (show acc.length+1≤1000000 by omega) (by decide)
    rw [if_pos hs]
    simp
   rw [M.bind_ok ap,z2S src h0 hg r (acc++[f d]) (by simp;omega) hr,List.filter_cons,hp]
   simp
theorem z2r {cap:List (Option Nat)}{mi:G->M Src}{g:D->G->M G}{k:G->M Bool}{me:G->M D}{γ:G}{src:Src}{h:AH}(p:D->Bool) (f:D->D) (hi:mi γ h=.ok src h) (hg:∀ j,src.good (h++j)) (hl:src.items.length≤1000000)
 (hd:∀ d∈src.items,∃ γ1,(∀ h,g d (capG cap γ) h=.ok γ1 h)/\(∀ j,k γ1 (h++j)=.ok (p d) (h++j))/\(p d=true->∀ j,me γ1 (h++j)=.ok (f d) (h++j))) :
 x5 cap mi g k me γ h=.ok (.ref h.length) (h++[.lst ((src.items.filter p).map f)]):=by
 have e:=z2S (g:=g) (k:=k) (me:=me) (γ:=capG cap γ) (p:=p) (f:=f) src h hg src.items [] (by simpa using hl) hd
 show (mi γ >>= _) h=_
 rw [M.bind_ok hi]
 rw [M.bind_ok (m:=(fun h=>Res.ok (List.length h) (h++[O.lst []]):M Nat)) (h:=h) rfl]
 rw [M.bind_ok (by simpa using e)]
 rfl
end FT
namespace FT
open PySem PySem.Spec PyProof.Rows L2
theorem z7O {src:Src}{g:D->G->M G}{k:G->M Bool}{me:G->M D}{n0:Nat}{γ:G}(I:Nat->AH->Prop) (good:∀ i h,I i h->src.good h):∀ (items:List D) (n:Nat) (h:AH),
 (∀ i d h,items[i]?=some d->I (n+i) h->W (g d γ) h fun γ1 h1=>W (k γ1) h1 fun t h2=>if t=true then W (me γ1) h2 fun v h3=>W (y8 n0 v) h3 fun _ h4=>I (n+i+1) h4 else I (n+i+1) h2)->I n h ->
 W (z0S src g k me n0 γ items) h fun _ h'=>I (n+items.length) h'
 | [],n,h,_,q=>⟨(),h,by unfold z0S Src.chk;simp [good _ _ q],q⟩
 | d :: r,n,h,z,q=>by
  have more:∀ h2,I (n+0+1) h2->W (z0S src g k me n0 γ r) h2 fun _ h'=>I (n+(d :: r).length) h':=fun h2 q2=>by
   have:=z7O (src:=src) (g:=g) (k:=k) (me:=me) (n0:=n0) (γ:=γ) I good r (n+1) h2 (fun i d h e q=>by
    have:=z (i+1) d h (by simpa using e) (by rw [show n+(i+1)=n+1+i by omega];exact q)
    rw [show n+(i+1)+1=n+1+i+1 by omega] at this
    exact this) (by simpa using q2)
   rw [show n+1+r.length=n+(d :: r).length by simp;omega] at this
   exact this
  unfold z0S
  rw [Z8]
  refine W.of (a:=()) (h':=h) (by unfold Src.chk;simp [good _ _ q]) ?_
  rw [Z8]
  refine (z 0 d h rfl q).mono fun γ1 h1 q1=>?_
  rw [Z8]
  refine q1.mono fun t h2 q2=>?_
  cases t with
  | false=>rw [if_neg (by decide)] at q2 ⊢;exact more h2 q2
  | true =>
   rw [if_pos rfl] at q2 ⊢
   rw [Z8]
   refine q2.mono fun v h3 q3=>?_
   rw [Z8]
   exact q3.mono fun _ h4 q4=>more h4 q4
theorem zz6 {cap:List (Option Nat)}{mi:G->M Src}{g:D->G->M G}{k:G->M Bool}{me:G->M D}{γ:G}{h:AH}{Q:D->AH->Prop}
 (hs:W (mi γ) h fun src h1=>∃ I:Nat->AH->Prop,I 0 (h1++[.lst []])/\(∀ i h,I i h->src.good h) /\
  (∀ i d h,src.items[i]?=some d->I i h->W (g d (capG cap γ)) h fun γ1 h1'=>W (k γ1) h1' fun t h2=>if t=true then W (me γ1) h2 fun v h3=>W (y8 h1.length v) h3 fun _ h4=>I (i+1) h4 else I (i+1) h2) /\
  ∀ h',I src.items.length h'->Q (.ref h1.length) h'):W (x5 cap mi g k me γ) h Q:=by
 unfold x5
 rw [Z8]
 refine hs.mono fun src h1 ⟨I,i0,good,st,fin⟩=>?_
 rw [Z8]
 refine W.of (a:=h1.length) (h':=h1++[.lst []]) rfl ?_
 rw [Z8]
 have:=z7O (src:=src) (g:=g) (k:=k) (me:=me) (n0:=h1.length) (γ:=capG cap γ) I good src.items 0 (h1++[.lst []]) (fun i d h e q=>by
  rw [Nat.zero_add] at q ⊢
  exact st i d h e q) i0
 rw [Nat.zero_add] at this
 refine this.mono fun _ h' q=>?_
 rw [W_pure]
 exact fin h' q
class Grow (I:AH->Prop):Prop where
 app:∀ h j,I h->I (h++j)
section
variable {I:AH->Prop} [Grow I]
end
section
variable {I:AH->Prop} [Grow I] {J J':G->Prop}
end
def Pool (gr sm:List Int) (s c:Int) (r:AH):AH:=.lst (gr.map .int) :: .lst (sm.map .int) :: .lst [.ref 0,.ref 1,.int s,.int c] :: r
def PS (h:AH) (k:Int) (r:AH):Prop:=∃ gr sm s c,h=Pool gr sm s c r/\0≤s/\s<2147483647/\0≤c/\c≤k/\gr.length≤63/\sm.length≤63
theorem PS.up {h:AH}{k k':Int}{r:AH}(p:PS h k r) (hk:k≤k'):PS h k' r:=by
 obtain ⟨gr,sm,s,c,e,h1,h2,h3,h4,h5,h6⟩:=p
 exact ⟨gr,sm,s,c,e,h1,h2,h3,by omega,h5,h6⟩
theorem PS.app {h:AH}{k:Int}{r:AH}(p:PS h k r) (j:AH):PS (h++j) k (r++j):=by
 obtain ⟨gr,sm,s,c,e,q⟩:=p
 exact ⟨gr,sm,s,c,by rw [e];rfl,q⟩
theorem PS.get {h:AH}{k:Int}{r:AH}(p:PS h k r) (n:Nat):h[n+3]?=r[n]?:=by
 obtain ⟨gr,sm,s,c,e,q⟩:=p
 rw [e];rfl
theorem PS.len {h:AH}{k:Int}{r:AH}(p:PS h k r):h.length=r.length+3:=by
 obtain ⟨gr,sm,s,c,e,q⟩:=p
 rw [e];rfl
theorem PS.set {h:AH}{k:Int}{r:AH}(p:PS h k r) (n:Nat) (o:O):PS (h.set (n+3) o) k (r.set n o):=by
 obtain ⟨gr,sm,s,c,e,q⟩:=p
 exact ⟨gr,sm,s,c,by rw [e];rfl,q⟩
theorem z4t {h:AH}{k:Int}{r:AH}{n:Nat}{xs:List D}{Q:List D->AH->Prop}(p:PS h k r) (e:r[n]?=some (.lst xs)) (q:Q xs h):W (getL (n+3)) h Q :=
 ⟨xs,h,by unfold getL;rw [p.get,e],q⟩
theorem z6t {h:AH}{k:Int}{r:AH}{xs:List D}{Q:D->AH->Prop}(p:PS h k r) (hl:xs.length≤1000000) (z:∀ h',PS h' k (r++[.lst xs])->Q (.ref (r.length+3)) h'):W (newL xs) h Q :=
 ⟨.ref (r.length+3),h++[.lst xs],by unfold newL;rw [if_pos (Nat.le_trans hl (by decide)),p.len],z _ (p.app _)⟩
theorem z5Y {h:AH}{k:Int}{r:AH}{n:Nat}{xs:List D}{v:D}{Q:D->AH->Prop}(p:PS h k r) (e:r[n]?=some (.lst xs)) (hl:xs.length<1000000) (z:∀ h',PS h' k (r.set n (.lst (xs++[v])))->Q .non h'):W (y8 (n+3) v) h Q :=
 ⟨.non,h.set (n+3) (.lst (xs++[v])),by
  unfold y8 updL
  rw [p.get,e]
  dsimp only
  rw [if_pos (Nat.le_trans (by simp;omega:(xs++[v]).length≤1000000) (by decide))],z _ (p.set _ _)⟩
theorem z3a {r j:AH}{n:Nat}{o:O}(e:r[n]?=some o):(r++j)[n]?=some o:=by
 rw [List.getElem?_append_left (List.getElem?_eq_some_iff.mp e).1,e]
theorem z3H {r:AH}{o:O}:(r++[o])[r.length]?=some o:=by simp
def z8o (x:Str):Prop:=1≤x.length/\x.length≤8/\(∀ c∈x.cps.toList,97≤c/\c≤122) /\
 x∉(["yes","no","not","and","or","step","some","all","next","once","ever","until","unless"]:List Str)
theorem len_str (x:Str):x.length=x.cps.toList.length:=by simp [Str.length]
theorem z48 (a:Str):∀ l:List Str,((l.map D.str).any fun z=>eqF z (.str a))=decide (a∈l)
 | []=>by simp
 | b :: l=>by
  rw [List.map_cons,List.any_cons,z48 a l]
  simp only [eqF]
  rw [Bool.eq_iff_iff]
  simp only [Bool.or_eq_true,beq_iff_eq,decide_eq_true_eq,List.mem_cons]
  constructor
  ·rintro (h | h)
   ·exact .inl h.symm
   ·exact .inr h
  ·rintro (h | h)
   ·exact .inl h.symm
   ·exact .inr h
theorem z1R:∀ l:List Str,(l.map D.str).all z0k=true
 | []=>rfl
 | _ :: l=>by rw [List.map_cons,List.all_cons,z1R l];rfl
def low (x:Str):Prop:=∀ c∈x.cps.toList,97≤c/\c≤122
def abc:Str:="abcdefghijklmnopqrstuvwxyz"
theorem zs2:abc.cps.toList=(List.range 26).map (·+97):=by decide +kernel
theorem zj2:abc.length=26:=by decide +kernel
theorem zC3 {d:Int}(h0:0≤d) (h1:d<26):fIx (.str abc) (.int d)=pure (.str ⟨#[d.toNat+97]⟩):=by
 unfold fIx
 dsimp only
 rw [if_pos (by rw [zj2];decide),zs2]
 obtain ⟨n,rfl⟩:=Int.eq_ofNat_of_zero_le h0
 have hn:n<26:=by omega
 rw [z3Y (v:=n+97) (by simp [hn])]
 simp
theorem z4h (x y:Str):(x++y).cps.toList=x.cps.toList++y.cps.toList:=Array.toList_append
theorem len_app (x y:Str):(x++y).length=x.length+y.length:=by rw [len_str,z4h,List.length_append,← len_str,← len_str]
theorem zy8 {x y:Str}(h:x.length+y.length≤1000):fAdd (.str x) (.str y)=pure (.str (x++y)):=by
 show (if x.length+y.length≤sizeLine then _ else _)=_
 rw [if_pos (Nat.le_trans h (by decide))]
theorem z3c (c:Nat):Str.length ⟨#[c]⟩=1:=rfl
theorem z5r {x:Str}{c:Nat}(h:low x) (h1:97≤c) (h2:c≤122):low (x++⟨#[c]⟩):=by
 intro d hd
 rw [z4h] at hd
 rcases List.mem_append.mp hd with q | q
 ·exact h d q
 ·simp at q;omega
theorem z41 {x:Str}{h:AH}{k d:Int}{r:AH}{Q:D->AH->Prop}(h0:0≤d) (h1:d<26) (hx:x.length≤100) (q:Q (.str (x++⟨#[d.toNat+97]⟩)) h):W (fIx (.str abc) (.int d)) h fun a h1=>W (fAdd (.str x) a) h1 Q:=by
 rw [zC3 h0 h1,W_pure,zy8 (by rw [z3c];omega),W_pure]
 exact q
def words:List Str:=["yes","no","not","and","or","step","some","all","next","once","ever","until","unless"]
def cand (x:Str) (l:Int) (i:Nat):Str:=x++⟨#[((l+i) % 26).toNat+97]⟩
theorem z9C {x:Str}{l:Int}(h0:0≤l) {i j:Nat}(hi:i<26) (hj:j<26) (e:cand x l i=cand x l j):i=j:=by
 have e2:(cand x l i).cps.toList=(cand x l j).cps.toList:=by rw [e]
 unfold cand at e2
 rw [z4h,z4h] at e2
 have:=List.append_cancel_left e2
 simp at this
 omega
theorem zA1 {x:Str}{l:Int}(h0:0≤l) {ns:List Str}(hn:ns.length≤7) (h:∀ i:Nat,i<26->cand x l i∈words∨cand x l i∈ns):False:=by
 have nd:((List.range 26).map (cand x l)).Nodup:=by
  rw [List.nodup_iff_pairwise_ne,List.pairwise_map]
  refine List.Pairwise.imp_of_mem ?_ List.nodup_range
  intro a b ha hb hne e
  exact hne (z9C h0 (by simpa using ha) (by simpa using hb) e)
 have sub:((List.range 26).map (cand x l)) ⊆ words++ns:=by
  intro y hy
  obtain ⟨i,hi,rfl⟩:=List.mem_map.mp hy
  exact List.mem_append.mpr (h i (by simpa using hi))
 have:=nd.length_le_of_subset sub
 rw [List.length_map,List.length_range,List.length_append] at this
 have w:words.length=13:=rfl
 omega
theorem zh1 {h:AH}{k:Int}{r:AH}{n:Nat}{ns:List Str}{x:Str}{neg:Bool}(p:PS h k r) (e:r[n]?=some (.lst (ns.map .str))):fIn neg (.str x) (.ref (n+3)) h=.ok (.bl (decide (x∈ns) != neg)) h:=by
 have g:getL (n+3) h=.ok (ns.map .str) h:=by unfold getL;rw [p.get,e]
 unfold fIn seqD
 rw [M.bind_ok g,z48,z1R]
 rfl
theorem zO6 {h:AH}{k:Int}{r:AH}{n:Nat}{xs:List D}{i:Int}{d:D}{Q:D->AH->Prop}(p:PS h k r) (e:r[n]?=some (.lst xs)) (a:atI xs i=some d) (q:Q d h):W (fIx (.ref (n+3)) (.int i)) h Q:=by
 show W (getL (n+3) >>= fun xs=>match atI xs i with | some d=>pure d | none=>bad) h Q
 rw [Z8]
 refine z4t p e ?_
 rw [a]
 exact W_pure.mpr q
theorem zH6 {h:AH}{k:Int}{r:AH}{n:Nat}{xs:List D}{Q:D->AH->Prop}(p:PS h k r) (e:r[n]?=some (.lst xs)) (q:Q (.int xs.length) h):W (fLen [.ref (n+3)]) h Q:=by
 show W (getL (n+3) >>= fun xs=>pure (.int xs.length)) h Q
 rw [Z8]
 refine z4t p e ?_
 exact W_pure.mpr q
theorem zn3:low "":=by
 intro c hc
 have:(Str.ofString "").cps.toList=[]:=by decide +kernel
 rw [this] at hc
 cases hc
theorem zk7:Str.length "" = 0:=by decide +kernel
def NS (ns:List Str):Prop:=ns.Nodup/\∀ x∈ns,z8o x
def stD (l:List Nat):List D:=l.map fun (i:Nat)=>.int i
structure MK (l:List Str):Prop where
 len:l.length≤8
 good:∀ x∈l,z8o x
 rise:l.Pairwise fun a b=>a.cps.toList<b.cps.toList
structure MA (st:List (List Nat)) (mk:List (List Str)):Prop where
 l1:1≤st.length
 l2:st.length≤40
 l3:mk.length=st.length
 s1:∀ l∈st,l.Pairwise (·<·)
 s2:∀ l∈st,∀ x∈l,x<st.length
 m1:∀ l∈mk,MK l
def stsD (st:List (List Nat)):List D:=st.map fun l=>.tup (stD l)
def mksD (mk:List (List Str)):List D:=mk.map fun l=>.tup (l.map .str)
def maD (st:List (List Nat)) (mk:List (List Str)):D:=.tup [.tup (stsD st),.tup (mksD mk)]
def bear (x:Str) (mk:List (List Str)) (i:Nat):Bool:=decide (x = "") || decide (x∈(mk[i]?).getD [])
theorem zA0 {mk:List (List Str)}{i:Nat}(hi:i<mk.length):atI (mksD mk) (i:Int)=some (.tup (((mk[i]?).getD []).map .str)):=by
 refine z3Y ?_
 unfold mksD
 rw [List.getElem?_map,List.getElem?_eq_getElem hi]
 rfl
theorem z3D (a b:Str):leS a b=true↔a.cps.toList≤b.cps.toList:=by
 unfold leS
 simp [List.not_lt]
theorem zv7 {l:List Str}(h:l.Nodup):(z1i l).Pairwise fun a b=>a.cps.toList<b.cps.toList:=by
 have s:(z1i l).Pairwise fun a b=>leS a b=true:=List.pairwise_mergeSort (fun a b c h1 h2=>(z3D a c).mpr (List.le_trans ((z3D a b).mp h1) ((z3D b c).mp h2)))
  (fun a b=>by
   rw [Bool.or_eq_true,z3D,z3D]
   exact List.le_total _ _) l
 have n:(z1i l).Nodup:=(List.mergeSort_perm l leS).nodup_iff.mpr h
 refine (List.Pairwise.and s n).imp fun {a b} q=>?_
 obtain ⟨q1,q2⟩:=q
 have q3:=(z3D a b).mp q1
 by_cases lt:a.cps.toList<b.cps.toList
 ·exact lt
 ·exact absurd (z9k (List.le_antisymm q3 (List.not_lt.mp lt))) q2
theorem zz0 {l:List Str}{x:Str}:x∈z1i l↔x∈l:=(List.mergeSort_perm l leS).mem_iff
theorem z53 (l:List Str):(z1i l).length=l.length:=(List.mergeSort_perm l leS).length_eq
theorem strs_map:∀ l:List Str,z2J (l.map .str)=some l
 | []=>rfl
 | a :: l=>by simp [z2J,strs_map l]
def AM (st:List (List Nat)) (mk:List (List Str)) (n:Nat):Prop:=(∀ l∈st,l.Pairwise (·<·))/\(∀ l∈st,∀ x∈l,x<n)/\∀ l∈mk,MK l
theorem z1H (ns:List Int) (p:D->Bool):((ns.map D.int).filter p).map (fun d=>d)=(ns.filter fun i=>p (.int i)).map D.int:=by
 rw [List.map_id',List.filter_map]
 rfl
theorem zA7:fPow (.int 10) (.int 18)=pure (.int 1000000000000000000):=rfl
theorem z5R (xs:List D):fLen [.tup xs]=pure (.int xs.length):=rfl
theorem ix_tup {xs:List D}{i:Int}{d:D}(a:atI xs i=some d):fIx (.tup xs) (.int i)=pure d:=by
 have:fIx (.tup xs) (.int i)=(pure xs >>= fun xs=>match atI xs i with | some d=>pure d | none=>bad):=rfl
 rw [this]
 show (match atI xs i with | some d=>pure d | none=>bad)=_
 rw [a]
theorem zT2 {l:List Nat}{c:Nat}(hc:c<l.length):atI (stD l) (c:Int)=some (.int ((l[c]?).getD 0:Nat)):=by
 refine z3Y ?_
 unfold stD
 rw [List.getElem?_map,List.getElem?_eq_getElem hc]
 rfl
section
variable {P:Program}{w:World}{K:PySem.W.Frag}{mg:Str->Option Value}{base:Heap}
theorem zT3 {x:Str}{st:Stmt}{f:Addr}{fd:FuncData}{N ps:List Str}{k n:Nat}{mb:G->M Out}(F:Fun K x x st f fd) (S:FnScope N ps (j8 st)) (hn:ps.length=n)
 (body:∀ (cdv:Value) (A:Around) (outer:List Env) (s:Shared) (H:Hp) (E:XK),Room k (A.deeper (envOfC x (j8 st) s.heap.objs.size f cdv)) ->
  SB (cxOf CX0 P w K mg base N x (j8 st) f cdv A outer s H E).nox EX0 (z0h st) mb):FnOk P w K mg base CX0 (k+1) f fd ps (spB K (runF N.length mb) n):=by
 refine F.ok S (fun vs H Q E h=>h.1.trans hn.symm) (fun cdv A outer s H vs Q E hr h=>?_)
 obtain ⟨hl,ρ,ds,h,rh,rd,fin⟩:=h
 refine ⟨_,(body cdv A outer s H E hr).h,ρ,z1c N.length ds,h,⟨z4I rd,rh⟩,?_⟩
 refine (Fin.bind fin).mono fun o ρ1 h1 H1 p1 e1 r1 f1=>?_
 cases o with
 | nx γ=>exact fun σ _=>FE.here (d:=.non) (h:=h1) f1 r1 (by simp [RD])
 | rt d=>exact fun v rv=>f1 ρ1 H1 (Pre.refl _) (Ext.refl _ _) r1 v rv
 | bk γ=>exact (show False from f1).elim
 | ct γ=>exact (show False from f1).elim
theorem zI6 {x p:Str}{st:Stmt}{f:Addr}{fd:FuncData}(F:Fun K x x st f fd)
 (h:∀ (kV doc pm:Value) (an:Option Addr) (cdv ct u:Value),bindArgs (PySem.W.fnOf x x (z1O st) (z0h st) (j8 st) .none kV doc pm an cdv ct) ⟨[u],[]⟩=pure [(p,u)]):∀ (s:Shared) (u:Value),BindsTo s fd ⟨[u],[]⟩ [(p,u)]:=by
 obtain ⟨oc,od,kV,doc,pm,an,cdv,ct,osl,rfl,lk,hcd⟩:=F.ex
 exact fun s u=>.of_eq (h kV doc pm an cdv ct u)
end
theorem zJ2 {l:PySem.W.OpenLaw}{q:Program}{loose:List Str}{XP:(Str->Option Value)->Heap->Prop}{YP:World->Heap->Prop}{d:DefRec}{K:Params->PySem.W.Frag}{m:List D->M D}{p:Str}{lev:Nat}(hn:l.most=some 63) (hdf:d.params.defaults=[]) (hr:Room lev callerA)
 (hY:∀ (w:World) (h:Heap),YP w h->(K w.params).In h)
 (F:∀ (w:World) (mg:Str->Option Value) (fa:Addr) (h:Heap),(K w.params).In h->h.Ns mainGlobals mg->mg d.name=some (.ref fa) ->
  ∃ fd:FuncData,(∀ (s:Shared) (u:Value),BindsTo s fd ⟨[u],[]⟩ [(p,u)])/\∀ base:Heap,(K w.params).In base->base.Ns mainGlobals mg->FnOk l.prog w (K w.params) mg base CX0 lev fa fd [p] (spB (K w.params) m 1))
 (math:∀ ns:List Int,ns.length≤63->∃ h',m [.fl (ns.map .int)] []=.ok (.bl true) h') :
 PySem.W.WalkO q loose XP YP l.row.toRowW d [] (fun f vs=>PySem.call f vs):=by
 refine L2.walk_of (n:=63) (k:=lev) (x:=p) (CX:=fun _=>CX0) (sp:=fun w=>spB (K w.params) m 1) hn (by decide) hdf hr hY F (fun w H a ns hl hO hS=>?_) fun _ _ _ _ _ z=>z
 obtain ⟨h',e⟩:=math ns hl
 have sq:SqLP (K w.params) H a (ns.map V.int):=by
  rcases hS with (h | ⟨o,h⟩) | h
  ·rcases hO a with z | ⟨ob,xs,z⟩<;>rw [h] at z<;>cases z
  ·exact .inl ⟨o,h⟩
  ·exact .inr h
 refine ⟨rfl,[],[.fl (ns.map .int)],[],⟨rfl,fun i j a h=>by simp at h,fun n o a h=>by simp at h⟩,RDs.cons ?_ RDs.nil,?_⟩
 ·simp only [RD]
  exact ⟨a,_,rfl,sq,z2O ns⟩
 ·rw [e]
  exact fun ρ' H' _ _ _ v rv=>by simpa [RD] using rv
mutual
def J7 (n:Nat):D->Bool
 | .ref i=>decide (i<n)
 | .tup xs=>w6 n xs
 | .fl xs=>w6 n xs
 | _=>true
def w6 (n:Nat):List D->Bool
 | []=>true
 | d :: r=>J7 n d && w6 n r
end
def refO (n:Nat):O->Bool
 | .lst xs=>w6 n xs
 | .dK kvs=>w6 n (kvs.map (·.2))
 | .dF kvs=>w6 n (kvs.map (·.2))
 | _=>true
def Kept (h h1:AH):Prop:=∀ (i:Nat) (o:O),i<h.length->h1[i]?=some o->h[i]?=some o∨refO h.length o=true
section
variable {K:PySem.W.Frag}{ρ ρ':List Addr}{H:Hp}
theorem z3R {ρ:List Addr}{n i:Nat}(h:i<n):(ρ.take n)[i]?=ρ[i]?:=by rw [List.getElem?_take,if_pos h]
mutual
theorem RD.cut {n:Nat}:∀ {d:D}{v:V},J7 n d=true->RD K ρ H d v->RD K (ρ.take n) H d v
 | .non,v,_,h=>by simpa [RD] using h
 | .bl b,v,_,h=>by simpa [RD] using h
 | .int b,v,_,h=>by simpa [RD] using h
 | .str b,v,_,h=>by simpa [RD] using h
 | .tup ds,v,c,h=>by
  simp only [RD,J7] at h c ⊢
  obtain ⟨a,xs,h1,h2,h3⟩:=h
  exact ⟨a,xs,h1,h2,RDs.cut c h3⟩
 | .fl ds,v,c,h=>by
  simp only [RD,J7] at h c ⊢
  obtain ⟨a,xs,h1,h2,h3⟩:=h
  exact ⟨a,xs,h1,h2,RDs.cut c h3⟩
 | .ref i,v,c,h=>by
  simp only [RD,J7,decide_eq_true_eq] at h c ⊢
  obtain ⟨a,h1,h2⟩:=h
  exact ⟨a,h1,by rw [z3R c];exact h2⟩
theorem RDs.cut {n:Nat}:∀ {ds:List D}{xs:List V},w6 n ds=true->RDs K ρ H ds xs->RDs K (ρ.take n) H ds xs
 | [],xs,_,h=>by simpa [RDs] using h
 | d :: ds,xs,c,h=>by
  simp only [RDs,w6,Bool.and_eq_true] at h c ⊢
  obtain ⟨x,r,h1,h2,h3⟩:=h
  exact ⟨x,r,h1,RD.cut c.1 h2,RDs.cut c.2 h3⟩
end
mutual
theorem RD.low:∀ {d:D}{v:V},RD K ρ H d v->J7 ρ.length d=true
 | .non,v,h=>rfl
 | .bl b,v,h=>rfl
 | .int b,v,h=>rfl
 | .str b,v,h=>rfl
 | .tup ds,v,h=>by
  simp only [RD,J7] at h ⊢
  obtain ⟨a,xs,h1,h2,h3⟩:=h
  exact RDs.low h3
 | .fl ds,v,h=>by
  simp only [RD,J7] at h ⊢
  obtain ⟨a,xs,h1,h2,h3⟩:=h
  exact RDs.low h3
 | .ref i,v,h=>by
  simp only [RD,J7,decide_eq_true_eq] at h ⊢
  obtain ⟨a,h1,h2⟩:=h
  exact (List.getElem?_eq_some_iff.mp h2).1
theorem RDs.low:∀ {ds:List D}{xs:List V},RDs K ρ H ds xs->w6 ρ.length ds=true
 | [],xs,h=>rfl
 | d :: ds,xs,h=>by
  simp only [RDs,w6,Bool.and_eq_true] at h ⊢
  obtain ⟨x,r,h1,h2,h3⟩:=h
  exact ⟨RD.low h2,RDs.low h3⟩
end
theorem RK.cut {n:Nat}:∀ {kvs:List (Key×D)}{vs:List (Key×V)},w6 n (kvs.map (·.2))=true->RK K ρ H kvs vs->RK K (ρ.take n) H kvs vs
 | _,_,_,.nil=>.nil
 | _,_,c,.cons a b=>by
  simp only [List.map_cons,w6,Bool.and_eq_true] at c
  exact .cons ⟨a.1,a.2.cut c.1⟩ (RK.cut c.2 b)
theorem RK.low:∀ {kvs:List (Key×D)}{vs:List (Key×V)},RK K ρ H kvs vs->w6 ρ.length (kvs.map (·.2))=true
 | _,_,.nil=>rfl
 | _,_,.cons a b=>by
  simp only [List.map_cons,w6,Bool.and_eq_true]
  exact ⟨a.2.low,RK.low b⟩
theorem RO.cut {n:Nat}{o:O}{a:Addr}(c:refO n o=true) (h:RO K ρ H o a):RO K (ρ.take n) H o a:=by
 cases o with
 | lst ds=>obtain ⟨xs,h1,h2⟩:=h;exact ⟨xs,h1,h2.cut c⟩
 | set ks=>exact h
 | dct=>exact h
 | dK kvs=>obtain ⟨vs,h1,h2⟩:=h;exact ⟨vs,h1,h2.cut c⟩
 | dF kvs=>obtain ⟨ob,vs,h1,h2⟩:=h;exact ⟨ob,vs,h1,h2.cut c⟩
 | exc c=>exact h
theorem RO.low {o:O}{a:Addr}(h:RO K ρ H o a):refO ρ.length o=true:=by
 cases o with
 | lst ds=>obtain ⟨xs,h1,h2⟩:=h;exact h2.low
 | set ks=>rfl
 | dct=>rfl
 | dK kvs=>obtain ⟨vs,h1,h2⟩:=h;exact h2.low
 | dF kvs=>obtain ⟨ob,vs,h1,h2⟩:=h;exact h2.low
 | exc c=>rfl
theorem RH.cut {h:AH}{n:Nat}(r:RH K ρ h H) (c:∀ o∈h.take n,refO n o=true):RH K (ρ.take n) (h.take n) H:=by
 refine ⟨by simp [r.len],fun i j a h1 h2=>?_,fun m o a h1 h2=>?_⟩
 ·rw [List.getElem?_take] at h1 h2
  split at h1
  ·split at h2
   ·exact r.nd i j a h1 h2
   ·cases h2
  ·cases h1
 ·have hm:=List.mem_of_getElem? h1
  rw [List.getElem?_take] at h1 h2
  split at h1
  ·rename_i q
   rw [if_pos q] at h2
   exact (r.obj m o a h1 h2).cut (c o hm)
  ·cases h1
theorem RH.cut1 {h:AH}{n i:Nat}{o:O}(r:RH K ρ h H) (c:∀ o∈h.take n,refO n o=true) (hn:n≤h.length) (hi:n≤i) (e:h[i]?=some o) (co:refO n o=true):∃ a,ρ[i]?=some a/\RH K (ρ.take n++[a]) (h.take n++[o]) H:=by
 obtain ⟨a,ea,ra⟩:=r.at e
 have r1:=r.cut c
 have ln:(ρ.take n).length=n:=by rw [List.length_take,r.len];omega
 have lh:(h.take n).length=n:=by rw [List.length_take];omega
 have ne:∀ {m:Nat} {b:Addr},(ρ.take n)[m]?=some b->b≠a:=fun {m b} q z=>by
  have hm:=(List.getElem?_eq_some_iff.mp q).1
  rw [ln] at hm
  rw [z3R hm,z] at q
  have:=r.nd m i a q ea
  omega
 refine ⟨a,ea,by simp [r1.len],fun i j b h1 h2=>?_,fun m u b h1 h2=>?_⟩
 ·rw [List.getElem?_append] at h1 h2
  split at h1<;>split at h2
  ·exact r1.nd i j b h1 h2
  ·rename_i q1 q2
   rw [List.getElem?_singleton] at h2
   split at h2
   ·cases h2;exact absurd rfl (ne h1)
   ·cases h2
  ·rename_i q1 q2
   rw [List.getElem?_singleton] at h1
   split at h1
   ·cases h1;exact absurd rfl (ne h2)
   ·cases h1
  ·rw [List.getElem?_singleton] at h1 h2
   split at h1
   ·split at h2
    ·omega
    ·cases h2
   ·cases h1
 ·rw [List.getElem?_append] at h1 h2
  rw [ln] at h2
  rw [lh] at h1
  split at h1
  ·rename_i q
   rw [if_pos q] at h2
   exact (r1.obj m u b h1 h2).mono (Pre.app _ _) (Ext.refl _ _) rfl
  ·rename_i q
   rw [if_neg q] at h2
   rw [List.getElem?_singleton] at h1 h2
   split at h1
   ·rename_i q0
    rw [if_pos q0] at h2
    cases h1;cases h2
    exact (ra.cut co).mono (Pre.app _ _) (Ext.refl _ _) rfl
   ·cases h1
end
theorem z9i {K:PySem.W.Frag}{ρ:List Addr}{h h1:AH}{H:Hp}(r:RH K ρ h H) (c:Kept h h1):∀ o∈h1.take h.length,refO h.length o=true:=fun o ho=>by
 obtain ⟨i,hi⟩:=List.getElem?_of_mem ho
 rw [List.getElem?_take] at hi
 split at hi
 ·rename_i li
  rcases c i o li hi with q | q
  ·obtain ⟨a,_,ra⟩:=r.at q
   rw [← r.len]
   exact ra.low
  ·exact q
 ·cases hi
theorem z6v (h j:AH):Kept h (h++j):=fun i o li e=>.inl (by rw [List.getElem?_append_left li] at e;exact e)
open Classical in
noncomputable def cln (m:M D):M D:=fun h=>match m h with
 | .ok d h1=>if h.length≤h1.length/\Kept h h1 then
  (if J7 h.length d=true then .ok d (h1.take h.length) else match d with
   | .ref i=>(match h1[i]? with
    | some o=>if refO h.length o=true then .ok (.ref h.length) (h1.take h.length++[o]) else .ok d h1
    | none=>.ok d h1)
   | d=>.ok d h1)
  else .ok d h1
 | .err x h1=>.err x h1
 | .bad=>.bad
theorem FE.cln {K:PySem.W.Frag}{EX:XX}{ρ:List Addr}{h:AH}{H:Hp}{Q:VK}{m:M D}(r:RH K ρ h H) (f:FE K EX ρ H Q (cln m h)):FE K EX ρ H Q (m h):=by
 unfold FT.cln at f
 cases e:m h with
 | bad=>rw [e] at f;exact f
 | err x h1=>rw [e] at f;exact f
 | ok d h1 =>
  rw [e] at f
  dsimp only at f
  split at f
  ·rename_i c
   obtain ⟨hl,c⟩:=c
   have cl:=z9i r c
   have pre:∀ {ρ1:List Addr},Pre ρ ρ1->Pre ρ (ρ1.take h.length):=fun {ρ1} p i a q=>by
    have:=(List.getElem?_eq_some_iff.mp q).1
    rw [r.len] at this
    rw [z3R this]
    exact p i a q
   split at f
   ·rename_i cd
    exact fun ρ1 H1 p1 e1 r1 v rv=>f _ H1 (pre p1) e1 (r1.cut cl) v (rv.cut cd)
   ·rename_i nd
    split at f
    ·rename_i i
     split at f
     ·rename_i o eo
      split at f
      ·rename_i co
       intro ρ1 H1 p1 e1 r1 v rv
       have hi:h.length≤i:=by
        simp only [J7,decide_eq_true_eq] at nd
        omega
       obtain ⟨a,ea,r2⟩:=r1.cut1 cl hl hi eo co
       refine f _ H1 ((pre p1).trans (Pre.app _ _)) e1 r2 v ?_
       simp only [RD] at rv ⊢
       obtain ⟨b,h2,h3⟩:=rv
       rw [ea] at h3;cases h3
       refine ⟨a,h2,?_⟩
       have ln:(ρ1.take h.length).length=h.length:=by rw [List.length_take,r1.len];omega
       rw [List.getElem?_append_right (by omega),ln]
       simp
      ·exact f
     ·exact f
    ·exact f
  ·exact f
noncomputable def clE (m:G->M D):G->M D:=fun γ=>cln (m γ)
theorem z0x {X:Cx}{EX:XX}{e:Expr}{m:G->M D}(h:SE X EX e m):SE X EX e (clE m) :=
 ⟨PE.imp h.h fun σ H Q ⟨ρ,γ,h,rel,fin⟩=>⟨ρ,γ,h,rel,FE.cln rel.h fin⟩⟩
open Classical in
noncomputable def clT (m:G->M Bool):G->M Bool:=fun γ h=>match m γ h with
 | .ok d h1=>if h.length≤h1.length/\Kept h h1 then .ok d (h1.take h.length) else .ok d h1
 | .err x h1=>.err x h1
 | .bad=>.bad
theorem RH.cut2 {K:PySem.W.Frag}{ρ ρ1:List Addr}{h h1:AH}{H H1:Hp}(r:RH K ρ h H) (p1:Pre ρ ρ1) (r1:RH K ρ1 h1 H1) (c:Kept h h1):RH K (ρ1.take h.length) (h1.take h.length) H1/\Pre ρ (ρ1.take h.length):=by
 refine ⟨r1.cut (z9i r c),fun i a q=>?_⟩
 have:=(List.getElem?_eq_some_iff.mp q).1
 rw [r.len] at this
 rw [z3R this]
 exact p1 i a q
theorem zg3 {X:Cx}{EX:XX}{e:Expr}{m:G->M Bool}(h:SC X EX e m):SC X EX e (clT m) :=
 ⟨PT.imp h.h fun σ H Q ⟨ρ,γ,h,rel,fin⟩=>⟨ρ,γ,h,rel,by
  unfold clT at fin
  cases e:m γ h with
  | bad=>rw [e] at fin;exact fin
  | err x h1=>rw [e] at fin;exact fin
  | ok d h1 =>
   rw [e] at fin
   dsimp only at fin
   split at fin
   ·rename_i c
    exact fun ρ1 H1 p1 e1 r1=>let ⟨r2,p2⟩:=rel.h.cut2 p1 r1 c.2;fin _ H1 p2 e1 r2
   ·exact fin⟩⟩
theorem Fn.cln {P:Program}{w:World}{K:PySem.W.Frag}{mg:Str->Option Value}{base:Heap}{k:Nat}{x:Str}{n:Nat}{mf:List D->M D}(F:Fn P w K mg base k x n mf):Fn P w K mg base k x n (fun ds=>cln (mf ds)):=by
 obtain ⟨f,fd,ps,h1,h2,h3,h4⟩:=F.ex
 exact ⟨f,fd,ps,h1.imp fun vs H Q E ⟨hl,ρ,ds,h,rh,rd,fin⟩=>⟨hl,ρ,ds,h,rh,rd,FE.cln rh fin⟩,h2,h3,h4⟩
end FT
namespace L2
open PySem PySem.Spec PyProof.Rows PySem.Builtin
theorem z2K:fillsNumberSlot (.type "tuple") "mul" = pure false :=
 PySem.fillsNumberSlot_seq (id:="tuple.__mul__") (r:=some (.builtin "tuple.__rmul__")) PySem.F.slot_tuple_mul.lookup (by decide +kernel) PySem.F.slot_tuple_rmul.lookup (by decide +kernel)
theorem z4J:seqRepeat? (.type "tuple")=pure (some (.builtin "tuple.__mul__")):=by
 unfold seqRepeat?
 rw [PySem.seqSlot_of (T:="tuple") (name:="__mul__") (id:="tuple.__mul__") PySem.F.slot_tuple_mul.lookup (by decide +kernel),PySem.seqSlot_of (T:="tuple") (name:="__rmul__") (id:="tuple.__rmul__") PySem.F.slot_tuple_rmul.lookup (by decide +kernel)]
 rfl
theorem zn2 (a:Int) (t:Tok) (l:Addr) (items:Array Value) (n:Nat) (dd:Option Addr) (sl:Array (Option Value)) :
 Meets (Builtin.«int.__rmul__» ⟨[.int a t,.ref l],[]⟩) (fun _ R s=>s.heap.get? l=some { cls:=.type "tuple",dict:=dd,data:=.seq items n,slots:=sl }/\R (.ok (.ret Value.notImplemented)) s) :=
 .of_wp fun prog w A R s h=>by obtain ⟨hp,g,d,tk,os⟩:=s;obtain ⟨hl,h⟩:=h;wp_walk;exact ⟨_,rfl,h⟩
theorem zC5 (l:Addr) (items:Array Value) (n:Nat) (dd:Option Addr) (sl:Array (Option Value)) (x:Int) (u:Tok) (h1:-(2 ^ 63)≤x) (h2:x<2 ^ 63) (hc:items.isEmpty=true∨x=1) :
 Meets (Builtin.«tuple.__mul__» ⟨[.ref l,.int x u],[]⟩) (fun _ R s=>s.heap.get? l=some { cls:=.type "tuple",dict:=dd,data:=.seq items n,slots:=sl }/\R (.ok (.ret (Value.ref l))) s) :=
 .of_wp fun prog w A R s h=>by
  obtain ⟨hp,g,d,tk,os⟩:=s;obtain ⟨hl,h⟩:=h
  have f1:=PySem.AutoSeq1.idx_int
  have c1:(decide (x < -(2 ^ 63)) || decide (x ≥ 2 ^ 63))=false:=by simp;omega
  have c2:(items.isEmpty || x == 1)=true:=by simpa using hc
  wp_walk using wpAny_loadPart' hl
  refine wpAny_ite_false (by rw [c1];rfl) ?_
  wp_walk using wpAny_loadPart' hl
  exact ⟨_,rfl,h⟩
theorem zy5 (l:Addr) (items:Array Value) (n:Nat) (dd:Option Addr) (sl:Array (Option Value)) (x:Int) (u:Tok) (h1:-(2 ^ 63)≤x) (h2:x<2 ^ 63) (hc:items.isEmpty=false) (hx:x≤0) :
 Meets (Builtin.«tuple.__mul__» ⟨[.ref l,.int x u],[]⟩) (fun _ R s=>s.heap.get? l=some { cls:=.type "tuple",dict:=dd,data:=.seq items n,slots:=sl }/\R (.ok (.ret (Value.ref s.heap.objs.size))) { s with heap:=s.heap.push { cls:=Value.type "tuple",data:=Data.seq #[] },toks:=s.toks }) :=
 .of_wp fun prog w A R s h=>by
  obtain ⟨hp,g,d,tk,os⟩:=s;obtain ⟨hl,h⟩:=h
  have f1:=PySem.AutoSeq1.idx_int
  have c1:(decide (x < -(2 ^ 63)) || decide (x ≥ 2 ^ 63))=false:=by simp;omega
  have c2:(items.isEmpty || x == 1)=false:=by rw [hc];simp;omega
  have c3:(decide (x≤0) || items.isEmpty)=true:=by simp [hx]
  wp_walk using wpAny_loadPart' hl
  refine wpAny_ite_false (by rw [c1];rfl) ?_
  wp_walk using wpAny_loadPart' hl
  refine wpAny_ite_false (by rw [c2];rfl) ?_
  wp_walk using wpAny_loadPart' hl
  exact ⟨_,rfl,h⟩
theorem zw8 (l:Addr) (items:Array Value) (n:Nat) (dd:Option Addr) (sl:Array (Option Value)) (x:Int) (u:Tok) (h1:-(2 ^ 63)≤x) (h2:x<2 ^ 63) (hc:items.isEmpty=false) (hx:1<x) (hz:items.size * x.toNat≤sizeLine) :
 Meets (Builtin.«tuple.__mul__» ⟨[.ref l,.int x u],[]⟩) (fun _ R s=>s.heap.get? l=some { cls:=.type "tuple",dict:=dd,data:=.seq items n,slots:=sl }/\R (.ok (.ret (Value.ref s.heap.objs.size))) { s with heap:=s.heap.push { cls:=Value.type "tuple",data:=Data.seq (List.foldl (fun x1 x2=>x1++x2) #[] (List.replicate x.toNat items)) },toks:=s.toks }) :=
 .of_wp fun prog w A R s h=>by
  obtain ⟨hp,g,d,tk,os⟩:=s;obtain ⟨hl,h⟩:=h
  have f1:=PySem.AutoSeq1.idx_int
  have c1:(decide (x < -(2 ^ 63)) || decide (x ≥ 2 ^ 63))=false:=by simp;omega
  have c2:(items.isEmpty || x == 1)=false:=by rw [hc];simp;omega
  have c3:(decide (x≤0) || items.isEmpty)=false:=by rw [hc];simp;omega
  have ez:(items.size:Int) * x=((items.size * x.toNat:Nat):Int):=by
   rw [Int.natCast_mul,Int.toNat_of_nonneg (by omega)]
  have sl4:(sizeLine:Nat)≤2 ^ 24:=by decide
  have c4:¬ (items.size:Int) * x > (2 ^ 63 - 1) / 8:=by rw [ez];omega
  have c5:Tuple.tupleTooMany ((items.size:Int) * x)=false:=by
   unfold Tuple.tupleTooMany
   rw [ez,decide_eq_false_iff_not]
   omega
  wp_walk using wpAny_loadPart' hl
  refine wpAny_ite_false (by rw [c1];rfl) ?_
  wp_walk using wpAny_loadPart' hl
  refine wpAny_ite_false (by rw [c2];rfl) ?_
  wp_walk using wpAny_loadPart' hl
  refine wpAny_ite_false (by rw [c3];rfl) ?_
  wp_walk using wpAny_loadPart' hl
  rw [if_neg c4]
  wp_walk using wpAny_loadPart' hl
  refine wpAny_ite_false (by rw [c5];rfl) ?_
  wp_walk using wpAny_loadPart' hl
  have c6:¬ (List.foldl (fun x1 x2=>x1++x2) #[] (List.replicate x.toNat items)).size > sizeLine:=by
   have f0:=foldl_rep items.toList x.toNat []
   rw [List.nil_append] at f0
   have:(List.foldl (fun x1 x2=>x1++x2) #[] (List.replicate x.toNat items))=(List.replicate x.toNat items.toList).flatten.toArray:=f0
   rw [this,List.size_toArray,len_rep,Array.length_toList,Nat.mul_comm]
   omega
  refine wpAny_ite_false (decide_eq_false c6) ?_
  wp_walk using wpAny_loadPart' hl
  exact ⟨_,rfl,h⟩
def zz1 (K:PySem.W.Frag):R2:=fun x y H Q=>∃ a k xs,x=.ref a/\y=.int k/\SqT K H a xs/\-(2 ^ 63)≤k/\k<2 ^ 63/\xs.length * k.toNat≤sizeLine /\
 ((xs=[]∨k=1)->Q (.ref a) H)/\(∀ p,H p=none->Q (.ref p) (upd H p (.tup (List.replicate k.toNat xs).flatten)))
theorem zv3 {X:Cx}:OpR X (binaryOp .Mult) (zz1 X.K):=by
 intro pins s σ H x y v u Q I rx ry h
 obtain ⟨a,k,xs,rfl,rfl,ha,h1,h2,hz,q1,q2⟩:=h
 cases rx
 obtain ⟨t,rfl⟩:=ry
 obtain ⟨its,r1,p1,_⟩:=I.tuple ha
 obtain ⟨⟨cls,dd,data,sl⟩,ho,hc,n,hd⟩:=id p1
 simp only at hc hd
 subst hc hd
 have go:∀ (R:Value->Shared->Prop),wpAny (model X.prog X.w) X.A (call (.builtin "tuple.__mul__") [.ref a,.int k t]) R X.xe s->wpAny (model X.prog X.w) X.A (binaryOp .Mult (.ref a) (.int k t)) R X.xe s:=fun R z =>
  wpAny_binaryOp_repeat_ref (T:="tuple") (U:="int") (by decide) ⟨_,ho,rfl⟩ (fun s'=>typeIs_int s' k t) z2K PySem.F.fills_int_mul PySem.F.slot_int_rmul z4J PySem.F.slot_int_index.lookup
   (call_meets PySem.F.slot_int_rmul (typeIs_int s k t) PySem.F.entry_int_rmul (PySem.F.args_int_rmul_2 _ _) (zn2 k t a its.toArray n dd sl) ⟨ho,rfl,⟨_,ho,rfl⟩,z⟩)
 refine go _ ?_
 have ln:its.length=xs.length:=r1.length.symm
 by_cases c:xs=[]∨k=1
 ·refine call_meets PySem.F.slot_tuple_mul ⟨_,ho,rfl⟩ PySem.F.entry_tuple_mul (PySem.F.args_tuple_mul_2 _ _) (zC5 a its.toArray n dd sl k t h1 h2 ?_) ⟨ho,.ref a,H,I,rfl,q1 c⟩
  rcases c with c | c
  ·left
   have:its=[]:=r1.nil_iff.mpr c
   rw [this];rfl
  ·exact .inr c
 ·have ne:its.toArray.isEmpty=false:=by
   cases its with
   | nil=>exact absurd (.inl (r1.nil_iff.mp rfl)) c
   | cons a r=>rfl
  by_cases k0:k≤0
  ·refine call_meets PySem.F.slot_tuple_mul ⟨_,ho,rfl⟩ PySem.F.entry_tuple_mul (PySem.F.args_tuple_mul_2 _ _) (zy5 a its.toArray n dd sl k t h1 h2 ne k0) ⟨ho,?_⟩
   have e0:k.toNat=0:=by omega
   refine ⟨.ref s.heap.objs.size,_,I.laid (t':=s.toks) (o:=.tup (List.replicate k.toNat xs).flatten) (fun b ob q=>Heap.get?_push_of_some _ q) (Nat.le_refl _) ?_,rfl,q2 _ (I.hok.fresh (Nat.le_refl _))⟩
   rw [e0]
   exact ⟨by simp,_,.nil,FT.IsTup0.new _ _⟩
  ·have k2:1<k:=by
    have:k≠1:=fun z=>c (.inr z)
    omega
   refine call_meets PySem.F.slot_tuple_mul ⟨_,ho,rfl⟩ PySem.F.entry_tuple_mul (PySem.F.args_tuple_mul_2 _ _) (zw8 a its.toArray n dd sl k t h1 h2 ne k2 (by rw [List.size_toArray,ln];exact hz)) ⟨ho,?_⟩
   refine ⟨.ref s.heap.objs.size,_,I.laid (t':=s.toks) (o:=.tup (List.replicate k.toNat xs).flatten) (fun b ob q=>Heap.get?_push_of_some _ q) (Nat.le_refl _) ?_,rfl,q2 _ (I.hok.fresh (Nat.le_refl _))⟩
   refine ⟨by rw [len_rep,Nat.mul_comm];exact hz,_,r1.rep k.toNat,?_⟩
   have f0:=foldl_rep its k.toNat []
   rw [List.nil_append] at f0
   have e:(List.foldl (fun x1 x2=>x1++x2) #[] (List.replicate k.toNat its.toArray))=(List.replicate k.toNat its).flatten.toArray:=f0
   rw [e]
   exact FT.IsTup0.new _ _
end L2
namespace FT
open PySem PySem.Spec PyProof.Rows L2
def z4s:D->D->M D
 | .tup x,.int j=>if decide (-(2 ^ 63)≤j) && decide (j<2 ^ 63) && decide (j.toNat * x.length≤sizeLine) then pure (.tup (List.replicate j.toNat x).flatten) else bad
 | x,y=>fMul x y
theorem zp0 {X:Cx}{EX:XX}:BR X.K EX (fun x y H Q=>(rI CMul (fun i j=>.int (i * j)) x y H Q∨rRep x y H Q)∨zz1 X.K x y H Q) z4s:=by
 intro ρ h H x y v u Q r rx ry fin
 unfold z4s at fin
 split at fin
 ·rename_i ds j
  simp only [RD] at rx ry
  obtain ⟨a,xs,rfl,sq,rd⟩:=rx
  subst ry
  split at fin
  ·rename_i hc
   simp only [Bool.and_eq_true,decide_eq_true_eq] at hc
   have hl:=rd.length
   refine .inr ⟨a,j,xs,rfl,rfl,sq,hc.1.1,hc.1.2,by rw [← hl,Nat.mul_comm];exact hc.2,fun c=>?_,fun p hp=>FE.tup fin r (rd.flat j.toNat) hp⟩
   refine FE.here fin r ?_
   simp only [RD]
   refine ⟨a,xs,rfl,sq,?_⟩
   rcases c with c | c
   ·subst c
    have:ds=[]:=by simpa using hl
    subst this
    have:(List.replicate j.toNat ([]:List D)).flatten=[]:=by simp
    rw [this];exact rd
   ·subst c
    have:(List.replicate (1:Int).toNat ds).flatten=ds:=by simp
    rw [this];exact rd
  ·exact fin.elim
 ·exact .inl (zA4 ρ h H x y v u Q r rx ry fin)
theorem z3O {X:Cx}{EX:XX}{a b:Expr}{pos:Pos}{ma mb:G->M D}(ha:SE X EX a ma) (hb:SE X EX b mb):SE X EX (.BinOp a .Mult b pos) (e2 z4s ma mb):=z8m ((op_mul.or zw4).or zv3) zp0 ha hb
section
variable {X:Cx}{a e:Expr}{es:List Expr}{kws:List Keyword}{pos p kpos:Pos}{mr mk:G->M (List D)}{ma:G->M D}{nm:Option Str}{EX:XX}
end
end FT
namespace L2
open PySem PySem.Spec PyProof.Rows
open PySem.AutoSeq1 (wpAny_loadPart')
section
variable {prog:Program}{w:World}{A:Around}{E:Value->Shared->Prop}{s:Shared}
theorem z4q {Q:List Value->Shared->Prop}{r:Addr}{a b c:Int}{t u v:Tok}{n:Nat}(hh:A.handled=none) (hr:IsRange s.heap r a b c t u v) (hsmall:Builtin.Range.small a b c=true)
 (hn:Builtin.Range.rangeSize a b c=n) (hlen:n≤2 ^ 24)
 (hQ:∀ h' tk (acc:Array Value),(∀ b o,s.heap.get? b=some o->h'.get? b=some o)->ItemsOf (fun i v=>∃ t,v=.int (a+i * c) t) acc n->Q acc.toList { s with heap:=h',toks:=tk }):wpAny (model prog w) A (collect (.ref r)) Q E s:=by
 unfold collect
 refine wpAny_bind (wpAny_runValue (codeAny_builtin PySem.F.entry_proto_collect ?_))
 rw [Around.under_plainId PySem.F.plain_proto_collect _]
 show wpAny _ A.in1 (newList [] >>= fun l=>again (.builtin "list.__iadd__" ⟨[l,.ref r],[]⟩)) _ _ s
 refine wpAny_bind (wpAny_newObj_type ?_)
 refine wpAny_pure ⟨plainId_quiet PySem.F.plain_list_iadd _,codeAny_builtin PySem.F.entry_list_iadd ?_⟩
 rw [Around.under_plainId PySem.F.plain_list_iadd _]
 show wpAny _ A.in1 (Builtin.List.listExtendWith (.ref s.heap.objs.size) (.ref r) (.ref s.heap.objs.size)) _ _ _
 have hS:(s.heap.push { cls:=.type "list",data:=.seq ([]:List Value).toArray }).get? s.heap.objs.size=some { cls:=.type "list",data:=.seq #[] }:=Heap.get?_push_size _ rfl
 refine wpAny_mono (wpAny_extend_range (A:=A) (R:=fun rs s'=>rs=.ok (.ret (.ref s.heap.objs.size))/\∃ h' tk acc' c',s'={ s with heap:=h',toks:=tk }/\(∀ b o,s.heap.get? b=some o->h'.get? b=some o)/\h'.get? s.heap.objs.size=some { cls:=.type "list",dict:=none,data:=.seq acc' c',slots:=#[] }/\ItemsOf (fun i v=>∃ t,v=.int (a+i * c) t) acc' n)
  hh (Heap.get?_push_of_some _ hr) hsmall hn hlen s.heap.objs.size (.ref s.heap.objs.size) _ hS fun h' tk acc' c' hk hS' hacc=>⟨rfl,h',tk,acc',c',rfl,fun b o e=>hk b o (Nat.ne_of_lt (Heap.lt_size e)) (Heap.get?_push_of_some _ e),hS',hacc⟩) (fun fin s' h=>?_) (fun e s' h=>?_)
 ·have fin':∀ s',(∃ h' tk acc' c',s'={ s with heap:=h',toks:=tk }/\(∀ b o,s.heap.get? b=some o->h'.get? b=some o)/\h'.get? s.heap.objs.size=some { cls:=.type "list",dict:=none,data:=.seq acc' c',slots:=#[] }/\ItemsOf (fun i v=>∃ t,v=.int (a+i * c) t) acc' n)->wpAny (model prog w) A (match Value.ref s.heap.objs.size with
   | Value.ref a=>do
    match (← load a).data with
     | Data.seq xs _=>pure xs.toList
     | _=>unsupported "internal:collect"
   | _=>unsupported "internal:collect") Q E s':=fun s' ⟨h',tk,acc',c',e,k,hS',hacc⟩=>by
   subst e
   show wpAny _ A (load s.heap.objs.size >>= _) _ _ _
   refine wpAny_bind (wpAny_load hS' ?_)
   exact wpAny_pure (hQ h' tk acc' k hacc)
  cases fin with
  | done f =>
   obtain ⟨e,h⟩:=h
   cases e
   exact fin' s' h
  | again c'=>exact ⟨h.1,codeAny_mono h.2 fun rs s'' hr=>by obtain ⟨rfl,h⟩:=hr;exact fin' s'' h⟩
 ·exact absurd h.1 (by simp)
end
theorem z2m (r:Addr) (a b c:Int) (t u v:Tok) (n:Nat) (hsmall:Builtin.Range.small a b c=true) (hn:Builtin.Range.rangeSize a b c=n) (hlen:n≤2 ^ 24) :
 Meets (Builtin.«tuple.__new__» ⟨[.type "tuple",.ref r],[]⟩)
  (fun A R s=>A.handled=none/\IsRange s.heap r a b c t u v/\∀ (h':Heap) (tk:Nat) (acc:Array Value),(∀ b o',s.heap.get? b=some o'->h'.get? b=some o')->ItemsOf (fun i v=>∃ t,v=.int (a+i * c) t) acc n->R (.ok (.ret (.ref h'.objs.size))) { s with heap:=h'.push { cls:=.type "tuple",data:=.seq acc },toks:=tk }) :=
 .of_wp fun prog w A R s h=>by
  obtain ⟨hp,g,d,tk,os⟩:=s;obtain ⟨hh,hr,h⟩:=h
  have hsub:=sub_tuple_self
  have hinit:=init_tuple_lookup
  have hmh:=madeHere_tuple
  have hT:Shared.TypeIs ⟨hp,g,d,tk,os⟩ (.ref r) "range":=⟨_,hr,rfl⟩
  have hh1:A.in1.handled=none:=hh
  wp_walk using wpAny_loadPart' hr,wpAny_typeOf hT,z4q hh1 hr hsmall hn hlen
  intro h' tk' acc hk hacc
  show wpAny _ _ (Builtin.Tuple.tupleExact acc.toList.toArray >>= fun v=>ret v) _ _ _
  unfold Builtin.Tuple.tupleExact
  refine wpAny_bind (wpAny_newObj_type ?_ (show acc.toList.toArray.size≤sizeLine by simp only [Array.toArray_toList];rw [hacc.1,sizeLine_eq];omega))
  refine wpAny_pure ⟨_,rfl,?_⟩
  have e:acc.toList.toArray=acc:=by simp
  rw [e]
  exact h h' tk' acc hk hacc
theorem z2H {prog:Program}{w:World}{A:Around}{E:Value->Shared->Prop}{s:Shared}{Q:Value->Shared->Prop}{r:Addr}{a b c:Int}{t u v:Tok}{n:Nat}(hh:A.handled=none) (hr:IsRange s.heap r a b c t u v) (hsmall:Builtin.Range.small a b c=true)
 (hn:Builtin.Range.rangeSize a b c=n) (hlen:n≤2 ^ 24)
 (h:∀ (h':Heap) (tk:Nat) (acc:Array Value),(∀ b o',s.heap.get? b=some o'->h'.get? b=some o')->ItemsOf (fun i v=>∃ t,v=.int (a+i * c) t) acc n->Q (.ref h'.objs.size) { s with heap:=h'.push { cls:=.type "tuple",data:=.seq acc },toks:=tk }) :
 wpAny (model prog w) A (call (.type "tuple") [.ref r]) Q E s :=
 callType_new PySem.F.called_tuple (by decide) (PySem.F.typeCall_tuple_1 _) (PySem.F.newCall_tuple_1 _) (fun obj=>PySem.F.args_object_init_2 obj _) PySem.F.entry_tuple_new
  (z2m r a b c t u v n hsmall hn hlen) ⟨hh,hr,fun h' tk acc hk hacc=>⟨⟨_,Heap.get?_push_size _ rfl,rfl⟩,h h' tk acc hk hacc⟩⟩
def rngO (p:Addr) (n:Int):HO:=.ext fun h=>∃ t u v,IsRange h p 0 n 1 t u v
theorem zx6 {P:Program}{w:World}{H:Hp}{h:Heap}{p:Addr}{n:Int}{t u v:Tok}(e:IsRange h p 0 n 1 t u v):ObjOk P w H h p (rngO p n) :=
 ⟨⟨t,u,v,e⟩,⟨_,e⟩,fun h1 h2 ⟨t,u,v,e⟩ k=>⟨t,u,v,k _ e⟩⟩
def z3t (n:Nat):List V:=(List.range n).map fun (i:Nat)=>V.int i
theorem z3N {acc:Array Value}{n:Nat}(h:ItemsOf (fun i v=>∃ t,v=Value.int (0+i * 1) t) acc n):Vals (z3t n) acc.toList:=by
 obtain ⟨hs,hi⟩:=h
 have:∀ (xs:List Value) (k:Nat),(∀ j v,xs[j]?=some v->∃ t,v=Value.int (0+((k+j:Nat):Int) * 1) t)->Vals ((List.range' k xs.length).map fun (i:Nat)=>V.int i) xs:=by
  intro xs
  induction xs with
  | nil=>intro k _;exact .nil
  | cons x r ih =>
   intro k hk
   rw [List.length_cons,List.range'_succ,List.map_cons]
   refine .cons ?_ (ih (k+1) fun j v e=>?_)
   ·obtain ⟨t,rfl⟩:=hk 0 x rfl
    exact ⟨t,by simp⟩
   ·obtain ⟨t,rfl⟩:=hk (j+1) v (by simpa using e)
    exact ⟨t,by congr 3;omega⟩
 have q:=this acc.toList 0 (fun j v e=>by
  obtain ⟨t,rfl⟩:=hi j v (by simpa using e)
  exact ⟨t,by simp⟩)
 unfold z3t
 rw [List.range_eq_range',← hs]
 simpa using q
section
variable {X:Cx}
theorem z6V:z1y X (.type "range") (fun xs H Q=>∃ j,xs=[.int j]/\∀ p,H p=none->Q (.ref p) (upd H p (rngO p j))):=by
 intro pins s σ H xs us Q I r h
 obtain ⟨j,rfl,q⟩:=h
 obtain ⟨u,rfl,ru⟩:=vals1 r
 obtain ⟨t,rfl⟩:=ru
 refine call_range_1 ⟨.ref s.heap.objs.size,_,I.laid (o:=rngO s.heap.objs.size j) (fun b ob q=>Heap.get?_push_of_some _ q) (Nat.le_refl _) (zx6 (Heap.get?_push_size _ rfl)),rfl,q _ (I.hok.fresh (Nat.le_refl _))⟩
theorem zf5 {pins:List (Addr×Obj)}{σ:St}{H:Hp}{s:Shared}{p:Addr}{j:Int}(I:Inv X pins σ H s) (e:H p=some (rngO p j)):∃ t u v,IsRange s.heap p 0 j 1 t u v:=(I.hok p _ e).1
theorem z8S {j:Int}(h1:-(2 ^ 62)≤j) (h2:j<2 ^ 62):Builtin.Range.small 0 j 1=true:=small_one (by omega) (by omega) h1 h2
theorem zg7 (j:Int):Builtin.Range.rangeSize 0 j 1=(j.toNat:Int):=by rw [rangeSize_one];split<;>omega
theorem z7d (hc:X.calm=true):z1y X (.type "list") (fun xs H Q=>∃ p j,xs=[.ref p]/\H p=some (rngO p j)/\-(2 ^ 62)≤j/\j<2 ^ 62/\j.toNat≤sizeLine/\∀ l,H l=none->Q (.ref l) (upd H l (.lst (z3t j.toNat)))):=by
 intro pins s σ H xs us Q I r h
 obtain ⟨p,j,rfl,e,h1,h2,hl,q⟩:=h
 obtain ⟨u,rfl,ru⟩:=vals1 r
 cases ru
 obtain ⟨t,u,v,hr⟩:=zf5 I e
 have l4:(sizeLine:Nat)≤2 ^ 24:=by decide
 refine call_list_range (n:=j.toNat) (I.ok.hd hc) hr (z8S h1 h2) (zg7 j) (by omega) fun h' tk acc c' kp e' hacc=>?_
 have hv:=z3N hacc
 refine ⟨.ref s.heap.objs.size,_,I.laid (t':=tk) (o:=.lst (z3t j.toNat)) kp (Nat.le_refl _) ⟨by unfold z3t;simpa using hl,acc.toList,c',hv,by simpa using e'⟩,rfl,q _ (I.hok.fresh (Nat.le_refl _))⟩
theorem z8z (hc:X.calm=true):z1y X (.type "tuple") (fun xs H Q=>∃ p j,xs=[.ref p]/\H p=some (rngO p j)/\-(2 ^ 62)≤j/\j<2 ^ 62/\j.toNat≤sizeLine/\∀ l,H l=none->Q (.ref l) (upd H l (.tup (z3t j.toNat)))):=by
 intro pins s σ H xs us Q I r h
 obtain ⟨p,j,rfl,e,h1,h2,hl,q⟩:=h
 obtain ⟨u,rfl,ru⟩:=vals1 r
 cases ru
 obtain ⟨t,u,v,hr⟩:=zf5 I e
 have l4:(sizeLine:Nat)≤2 ^ 24:=by decide
 refine z2H (n:=j.toNat) (I.ok.hd hc) hr (z8S h1 h2) (zg7 j) (by omega) fun h' tk acc kp hacc=>?_
 have hv:=z3N hacc
 have I1:Inv X pins σ H { s with heap:=h',toks:=tk }:=I.kept kp
 refine ⟨.ref h'.objs.size,_,I1.laid (t':=tk) (o:=.tup (z3t j.toNat)) (fun b ob z=>Heap.get?_push_of_some _ z) (Nat.le_refl _) ⟨by unfold z3t;simpa using hl,acc.toList,hv,?_⟩,rfl,q _ (I1.hok.fresh (Nat.le_refl _))⟩
 have:acc.toList.toArray=acc:=by simp
 rw [this]
 exact FT.IsTup0.new _ _
end
end L2
namespace FT
open PySem PySem.Spec PyProof.Rows L2
def eRng (tup:Bool) (ma:G->M D):G->M D:=fun γ=>do
 let x ← ma γ
 match x with
 | .int j=>if decide (-(2 ^ 62)≤j) && decide (j<2 ^ 62) && decide (j.toNat≤sizeLine) then (if tup then pure (.tup (z0B j.toNat)) else newL (z0B j.toNat)) else bad
 | _=>bad
theorem z94 {K:PySem.W.Frag}{ρ:List Addr}{H:Hp}{ι:Type}{f:ι->D}{g:ι->V}:∀ (l:List ι),(∀ i,RD K ρ H (f i) (g i))->RDs K ρ H (l.map f) (l.map g)
 | [],_=>RDs.nil
 | x :: r,h=>RDs.cons (h x) (z94 r h)
theorem z4z {K:PySem.W.Frag}{ρ:List Addr}{H:Hp}(n:Nat):RDs K ρ H (z0B n) (z3t n):=by
 unfold z0B z3t
 exact z94 _ fun i=>by simp [RD]
section
variable {X:Cx}{EX:XX}{a:Expr}{p p2 pos pos2:Pos}{ma:G->M D}
theorem za2 (hc:X.calm=true) (hg:Gl X "list") (hm:X.mg "list" = none) (hg2:Gl X "range") (hm2:X.mg "range" = none) (ha:SE X EX a ma) (he:starEach [a] X.env=[(false,eval a X.env)]:=by rfl)
 (he2:starEach [.Call (.Name "range" p2) [a] [] pos2] X.env=[(false,eval (.Call (.Name "range" p2) [a] [] pos2) X.env)]:=by rfl):SE X EX (.Call (.Name "list" p) [.Call (.Name "range" p2) [a] [] pos2] [] pos) (eRng false ma) :=
 ⟨PE.imp (z0z (z7d hc) hg hm (by decide +kernel) (z0d (z0z z6V hg2 hm2 (by decide +kernel) (z0d ha.h z17 he) (by decide) (by decide) he rfl) z17 he2) (by decide) (by decide) he2 rfl) fun σ H Q ⟨ρ,γ,h,rel,fin⟩=>⟨ρ,γ,h,rel,(Fin.bind fin).mono fun x ρ1 h1 H1 p1 e1 r1 f1 v rv=>by
  cases x<;>first | exact (show False from f1).elim | skip
  rename_i j
  simp only [RD] at rv
  subst rv
  dsimp only at f1
  split at f1
  ·rename_i c
   simp only [Bool.and_eq_true,decide_eq_true_eq] at c
   rw [if_neg (by decide)] at f1
   refine ⟨j,rfl,fun q hq=>⟨q,j,rfl,y0,c.1.1,c.1.2,c.2,fun l hl=>?_⟩⟩
   unfold newL at f1
   rw [if_pos (by unfold z0B;simpa using c.2)] at f1
   exact FE.lst (Fin.up (Pre.refl _) (Ext.upd (.inl hq)) f1) (r1.other hq) (z4z _) hl
  ·exact f1.elim⟩⟩
theorem zr9 (hc:X.calm=true) (hg:Gl X "tuple") (hm:X.mg "tuple" = none) (hg2:Gl X "range") (hm2:X.mg "range" = none) (ha:SE X EX a ma) (he:starEach [a] X.env=[(false,eval a X.env)]:=by rfl)
 (he2:starEach [.Call (.Name "range" p2) [a] [] pos2] X.env=[(false,eval (.Call (.Name "range" p2) [a] [] pos2) X.env)]:=by rfl):SE X EX (.Call (.Name "tuple" p) [.Call (.Name "range" p2) [a] [] pos2] [] pos) (eRng true ma) :=
 ⟨PE.imp (z0z (z8z hc) hg hm (by decide +kernel) (z0d (z0z z6V hg2 hm2 (by decide +kernel) (z0d ha.h z17 he) (by decide) (by decide) he rfl) z17 he2) (by decide) (by decide) he2 rfl) fun σ H Q ⟨ρ,γ,h,rel,fin⟩=>⟨ρ,γ,h,rel,(Fin.bind fin).mono fun x ρ1 h1 H1 p1 e1 r1 f1 v rv=>by
  cases x<;>first | exact (show False from f1).elim | skip
  rename_i j
  simp only [RD] at rv
  subst rv
  dsimp only at f1
  split at f1
  ·rename_i c
   simp only [Bool.and_eq_true,decide_eq_true_eq] at c
   rw [if_pos rfl] at f1
   refine ⟨j,rfl,fun q hq=>⟨q,j,rfl,y0,c.1.1,c.1.2,c.2,fun l hl=>?_⟩⟩
   exact FE.tup (Fin.up (Pre.refl _) (Ext.upd (.inl hq)) f1) (r1.other hq) (z4z _) hl
  ·exact f1.elim⟩⟩
end
inductive Vw where
 | flat (d:D) | tup (xs:List D) | lst (xs:List D) | no
def vw (h:AH):D->Vw
 | .tup xs=>.tup xs
 | .fl xs=>.lst xs
 | .ref i=>match h[i]? with
  | some (.lst xs)=>.lst xs
  | _=>.no
 | d=>.flat d
def eqZ (f:D->D->Option Bool):List D->List D->Option Bool
 | [],[]=>some true
 | x :: xs,y :: ys=>match f x y,eqZ f xs ys with
  | some a,some b=>some (a && b)
  | _,_=>none
 | _,_=>some false
def eqN:Nat->AH->D->D->Option Bool
 | 0,_,_,_=>none
 | n+1,h,x,y=>match vw h x,vw h y with
  | .flat a,.flat b=>some (eqF a b)
  | .tup xs,.tup ys=>eqZ (eqN n h) xs ys
  | .lst xs,.lst ys=>eqZ (eqN n h) xs ys
  | .no,_=>none
  | _,.no=>none
  | _,_=>some false
def eqE (f:D->D->Option Bool) (xs ys:List D) (j:Nat):Bool:=(f (xs.getD j .non) (ys.getD j .non)).getD false
theorem z46 {f:D->D->Option Bool}:∀ {xs ys:List D}{b:Bool},eqZ f xs ys=some b ->
 (∀ j x y,xs[j]?=some x->ys[j]?=some y->f x y=some (eqE f xs ys j))/\b=((List.range (min xs.length ys.length)).all (eqE f xs ys) && xs.length == ys.length)
 | [],[],b,h=>by
  unfold eqZ at h;cases h
  exact ⟨fun j x y e=>by simp at e,by simp⟩
 | [],y :: ys,b,h=>by
  unfold eqZ at h;cases h
  exact ⟨fun j x y e=>by simp at e,by simp⟩
 | x :: xs,[],b,h=>by
  unfold eqZ at h;cases h
  exact ⟨fun j x y _ e=>by simp at e,by simp⟩
 | x :: xs,y :: ys,b,h=>by
  unfold eqZ at h
  split at h
  ·rename_i a c e1 e2
   cases h
   obtain ⟨q1,q2⟩:=z46 e2
   refine ⟨fun j p q ep eq=>?_,?_⟩
   ·cases j with
    | zero=>simp at ep eq;subst ep;subst eq;unfold eqE;simp [e1]
    | succ j=>simpa [eqE] using q1 j p q (by simpa using ep) (by simpa using eq)
   ·rw [q2]
    have:min (x :: xs).length (y :: ys).length=min xs.length ys.length+1:=by simp
    rw [this,List.range_succ_eq_map,List.all_cons,List.all_map,← Bool.and_assoc]
    congr 1
    ·unfold eqE
     simp [e1,Function.comp_def]
    ·simp
  ·cases h
section
variable {K:PySem.W.Frag}{ρ:List Addr}{h:AH}{H:Hp}
theorem z1k {d a:D}(e:vw h d=.flat a):a=d/\z0k d=true:=by
 cases d<;>simp [vw] at e<;>first | (subst e;exact ⟨rfl,rfl⟩) | skip
 split at e<;>cases e
theorem z2z {d:D}{xs:List D}{v:V}(e:vw h d=.tup xs) (r:RD K ρ H d v):∃ a vs,v=.ref a/\SqT K H a vs/\RDs K ρ H xs vs:=by
 cases d<;>simp [vw] at e
 ·subst e;simpa [RD] using r
 ·split at e<;>cases e
theorem z2E {d:D}{xs:List D}{v:V}(rh:RH K ρ h H) (e:vw h d=.lst xs) (r:RD K ρ H d v):∃ a vs,v=.ref a/\SqL K H a vs/\RDs K ρ H xs vs:=by
 cases d<;>simp [vw] at e
 ·subst e
  simp only [RD] at r
  obtain ⟨a,vs,h1,h2,h3⟩:=r
  exact ⟨a,vs,h1,h2.sq,h3⟩
 ·split at e
  ·rename_i i xs' ei
   cases e
   simp only [RD] at r
   obtain ⟨a,h1,h2⟩:=r
   obtain ⟨a',h3,vs,h4,h5⟩:=rh.at ei
   rw [h2] at h3;cases h3
   exact ⟨a,vs,h1,SqL.of h4,h5⟩
  ·cases e
end
section
variable {X:Cx}{pins:List (Addr×Obj)}{σ:L2.St}{ρ:List Addr}{h:AH}{H:Hp}{s:Shared}
theorem z3S {K:PySem.W.Frag}{a:Addr}:∀ {d:D},z0k d=true->RD K ρ H d (.ref a)->False
 | .non,_,r=>by simp [RD] at r
 | .bl _,_,r=>by simp [RD] at r
 | .int _,_,r=>by simp [RD] at r
 | .str _,_,r=>by simp [RD] at r
 | .tup _,f,_=>by cases f
 | .fl _,f,_=>by cases f
 | .ref _,f,_=>by cases f
theorem ze0:∀ {d:D},z0k d=true->eqF d d=true
 | .non,_=>rfl
 | .bl _,_=>by simp [eqF]
 | .int _,_=>by simp [eqF]
 | .str _,_=>by simp [eqF]
 | .tup _,f=>by cases f
 | .fl _,f=>by cases f
 | .ref _,f=>by cases f
def flV:D->V
 | .bl b=>.bl b
 | .int i=>.int i
 | .str x=>.str x
 | _=>.non
theorem z3L {K:PySem.W.Frag}:∀ {d:D}{v:V},z0k d=true->RD K ρ H d v->v=flV d
 | .non,_,_,r=>by simp only [RD] at r;exact r
 | .bl _,_,_,r=>by simp only [RD] at r;exact r
 | .int _,_,_,r=>by simp only [RD] at r;exact r
 | .str _,_,_,r=>by simp only [RD] at r;exact r
 | .tup _,_,f,_=>by cases f
 | .fl _,_,f,_=>by cases f
 | .ref _,_,f,_=>by cases f
theorem zt1:∀ {a b:D},z0k a=true->z0k b=true->flV a=flV b->a=b
 | .non,.non,_,_,_=>rfl
 | .bl _,.bl _,_,_,e=>by cases e;rfl
 | .int _,.int _,_,_,e=>by cases e;rfl
 | .str _,.str _,_,_,e=>by cases e;rfl
 | .non,.bl _,_,_,e=>by cases e
 | .non,.int _,_,_,e=>by cases e
 | .non,.str _,_,_,e=>by cases e
 | .bl _,.non,_,_,e=>by cases e
 | .bl _,.int _,_,_,e=>by cases e
 | .bl _,.str _,_,_,e=>by cases e
 | .int _,.non,_,_,e=>by cases e
 | .int _,.bl _,_,_,e=>by cases e
 | .int _,.str _,_,_,e=>by cases e
 | .str _,.non,_,_,e=>by cases e
 | .str _,.bl _,_,_,e=>by cases e
 | .str _,.int _,_,_,e=>by cases e
 | .tup _,_,f,_,_=>by cases f
 | .fl _,_,f,_,_=>by cases f
 | .ref _,_,f,_,_=>by cases f
 | _,.tup _,_,f,_=>by cases f
 | _,.fl _,_,f,_=>by cases f
 | _,.ref _,_,f,_=>by cases f
theorem list_inj {a:Addr}{xs ys:List V}(I:Inv X pins σ H s) (h1:SqL X.K H a xs) (h2:SqL X.K H a ys):xs=ys:=by
 obtain ⟨its,r,⟨o,n,e,_,_,d⟩,_⟩:=I.list h1
 obtain ⟨its',r',⟨o',n',e',_,_,d'⟩,_⟩:=I.list h2
 rw [e] at e';cases e'
 rw [d] at d'
 injection d' with d1 _
 have:its=its':=by simpa using congrArg Array.toList d1
 subst this
 exact r.inj r'
theorem z6g (I:Inv X pins σ H s) (rh:RH X.K ρ h H):∀ (n:Nat) {d1 d2:D}{v:V}{b:Bool},RD X.K ρ H d1 v->RD X.K ρ H d2 v->eqN n h d1 d2=some b->b=true
 | 0,d1,d2,v,b,_,_,e=>by cases e
 | n+1,d1,d2,v,b,r1,r2,e=>by
  have elems:∀ {xs ys:List D} {vs:List V},RDs X.K ρ H xs vs->RDs X.K ρ H ys vs->eqZ (eqN n h) xs ys=some b->b=true:=fun {xs ys vs} q1 q2 z=>by
   obtain ⟨z1,z2⟩:=z46 z
   have l1:=q1.length
   have l2:=q2.length
   rw [z2,Bool.and_eq_true,List.all_eq_true]
   refine ⟨fun j hj=>?_,by simp;omega⟩
   have hj':j<xs.length:=by simp at hj;omega
   have e1:xs[j]?=some xs[j]:=List.getElem?_eq_getElem hj'
   have e2:ys[j]?=some ys[j]:=List.getElem?_eq_getElem (by omega)
   obtain ⟨w1,a1,a2⟩:=q1.get e1
   obtain ⟨w2,b1,b2⟩:=q2.get e2
   rw [a1] at b1;cases b1
   exact z6g I rh n a2 b2 (z1 j _ _ e1 e2)
  unfold eqN at e
  have nl:∀ {a:Addr} {vs ws:List V},SqT X.K H a vs->SqL X.K H a ws->False:=fun {a vs ws} t1 t2=>by
   obtain ⟨its,_,p1,_⟩:=I.tuple t1
   obtain ⟨its2,_,p2,_⟩:=I.list t2
   exact SeqAt.ne_of_list_tuple p2.isList (show s.heap.IsTuple a its.toArray from p1) rfl
  cases e1:vw h d1 with
  | no=>rw [e1] at e;cases e2:vw h d2<;>rw [e2] at e<;>cases e
  | flat a =>
   rw [e1] at e
   obtain ⟨rfl,f1⟩:=z1k e1
   cases e2:vw h d2 with
   | no=>rw [e2] at e;cases e
   | flat c =>
    rw [e2] at e
    obtain ⟨rfl,f2⟩:=z1k e2
    cases e
    have:=zt1 f1 f2 ((z3L f1 r1).symm.trans (z3L f2 r2))
    subst this
    exact ze0 f1
   | tup ys=>obtain ⟨a',vs,rfl,_,_⟩:=z2z e2 r2;exact (z3S f1 r1).elim
   | lst ys=>obtain ⟨a',vs,rfl,_,_⟩:=z2E rh e2 r2;exact (z3S f1 r1).elim
  | tup xs =>
   rw [e1] at e
   obtain ⟨a,vs,rfl,t1,q1⟩:=z2z e1 r1
   cases e2:vw h d2 with
   | no=>rw [e2] at e;cases e
   | flat c=>obtain ⟨rfl,f2⟩:=z1k e2;exact (z3S f2 r2).elim
   | tup ys =>
    rw [e2] at e
    obtain ⟨a',ws,ea,t2,q2⟩:=z2z e2 r2
    cases ea
    have:=I.tuple_inj t1 t2
    subst this
    exact elems q1 q2 e
   | lst ys =>
    obtain ⟨a',ws,ea,t2,q2⟩:=z2E rh e2 r2
    cases ea
    exact (nl t1 t2).elim
  | lst xs =>
   rw [e1] at e
   obtain ⟨a,vs,rfl,t1,q1⟩:=z2E rh e1 r1
   cases e2:vw h d2 with
   | no=>rw [e2] at e;cases e
   | flat c=>obtain ⟨rfl,f2⟩:=z1k e2;exact (z3S f2 r2).elim
   | lst ys =>
    rw [e2] at e
    obtain ⟨a',ws,ea,t2,q2⟩:=z2E rh e2 r2
    cases ea
    have:=list_inj I t1 t2
    subst this
    exact elems q1 q2 e
   | tup ys =>
    obtain ⟨a',ws,ea,t2,q2⟩:=z2z e2 r2
    cases ea
    exact (nl t2 t1).elim
open SeqAt in
theorem mixT {A:Around}{u:Value}{d:D}{v:V}{K:PySem.W.Frag}{a:Addr}{its:Array Value}(f:z0k d=true) (r:RD K ρ H d v) (ru:RelV v u) (p:s.heap.IsTuple a its) (hu:A.units<cLine):EqAt A s u (.ref a) false/\EqAt A s (.ref a) u false/\RcAt A s u (.ref a) false/\RcAt A s (.ref a) u false/\RcNeAt A s u (.ref a) true/\RcNeAt A s (.ref a) u true:=by
 have:=z3L f r
 subst this
 cases d with
 | non=>cases ru;exact ⟨.none_tuple p hu,.tuple_none p hu,.none_tuple p hu,.tuple_none p hu,.none_tuple p hu,.tuple_none p hu⟩
 | bl b=>cases ru;exact ⟨.bool_tuple b p hu,.tuple_bool b p hu,.bool_tuple b p hu,.tuple_bool b p hu,.bool_tuple b p hu,.tuple_bool b p hu⟩
 | int i=>obtain ⟨t,rfl⟩:=ru;exact ⟨.int_tuple i t p hu,.tuple_int i t p hu,.int_tuple i t p hu,.tuple_int i t p hu,.int_tuple i t p hu,.tuple_int i t p hu⟩
 | str x=>obtain ⟨t,rfl⟩:=ru;exact ⟨.str_tuple x t p hu,.tuple_str x t p hu,.str_tuple x t p hu,.tuple_str x t p hu,.str_tuple x t p hu,.tuple_str x t p hu⟩
 | tup _=>cases f
 | fl _=>cases f
 | ref _=>cases f
open SeqAt in
theorem mixL {A:Around}{u:Value}{d:D}{v:V}{K:PySem.W.Frag}{a:Addr}{its:Array Value}(f:z0k d=true) (r:RD K ρ H d v) (ru:RelV v u) (p:s.heap.IsList a its) (hu:A.units<cLine):EqAt A s u (.ref a) false/\EqAt A s (.ref a) u false/\RcAt A s u (.ref a) false/\RcAt A s (.ref a) u false/\RcNeAt A s u (.ref a) true/\RcNeAt A s (.ref a) u true:=by
 have:=z3L f r
 subst this
 cases d with
 | non=>cases ru;exact ⟨.none_list p hu,.list_none p hu,.none_list p hu,.list_none p hu,.none_list p hu,.list_none p hu⟩
 | bl b=>cases ru;exact ⟨.bool_list b p hu,.list_bool b p hu,.bool_list b p hu,.list_bool b p hu,.bool_list b p hu,.list_bool b p hu⟩
 | int i=>obtain ⟨t,rfl⟩:=ru;exact ⟨.int_list i t p hu,.list_int i t p hu,.int_list i t p hu,.list_int i t p hu,.int_list i t p hu,.list_int i t p hu⟩
 | str x=>obtain ⟨t,rfl⟩:=ru;exact ⟨.str_list x t p hu,.list_str x t p hu,.str_list x t p hu,.list_str x t p hu,.str_list x t p hu,.list_str x t p hu⟩
 | tup _=>cases f
 | fl _=>cases f
 | ref _=>cases f
open SeqAt in
theorem zK0 {A:Around}{u1 u2:Value}:∀ (d1 d2:D),z0k d1=true->z0k d2=true->RelV (flV d1) u1->RelV (flV d2) u2->EqAt A s u1 u2 (eqF d1 d2)/\RcAt A s u1 u2 (eqF d1 d2)/\RcNeAt A s u1 u2 (!(eqF d1 d2))
 | .non,.non,_,_,r1,r2=>by cases r1;cases r2;exact ⟨EqAt.same _,RcAt.none_none,RcNeAt.none_none⟩
 | .non,(.bl b),_,_,r1,r2=>by cases r1;cases r2;exact ⟨EqAt.none_bool b,RcAt.none_bool b,RcNeAt.none_bool b⟩
 | .non,(.int b),_,_,r1,r2=>by cases r1;obtain ⟨t2,rfl⟩:=r2;exact ⟨EqAt.none_int b t2,RcAt.none_int b t2,RcNeAt.none_int b t2⟩
 | .non,(.str b),_,_,r1,r2=>by cases r1;obtain ⟨t2,rfl⟩:=r2;exact ⟨EqAt.none_str b t2,RcAt.none_str b t2,RcNeAt.none_str b t2⟩
 | (.bl a),.non,_,_,r1,r2=>by cases r1;cases r2;exact ⟨EqAt.bool_none a,RcAt.bool_none a,RcNeAt.bool_none a⟩
 | (.bl a),(.bl b),_,_,r1,r2=>by cases r1;cases r2;exact ⟨EqAt.bool_bool a b,RcAt.bool_bool a b,RcNeAt.bool_bool a b⟩
 | (.bl a),(.int b),_,_,r1,r2=>by cases r1;obtain ⟨t2,rfl⟩:=r2;exact ⟨EqAt.bool_int a b t2,RcAt.bool_int a b t2,RcNeAt.bool_int a b t2⟩
 | (.bl a),(.str b),_,_,r1,r2=>by cases r1;obtain ⟨t2,rfl⟩:=r2;exact ⟨EqAt.bool_str a b t2,RcAt.bool_str a b t2,RcNeAt.bool_str a b t2⟩
 | (.int a),.non,_,_,r1,r2=>by obtain ⟨t1,rfl⟩:=r1;cases r2;exact ⟨EqAt.int_none a t1,RcAt.int_none a t1,RcNeAt.int_none a t1⟩
 | (.int a),(.bl b),_,_,r1,r2=>by obtain ⟨t1,rfl⟩:=r1;cases r2;exact ⟨EqAt.int_bool a t1 b,RcAt.int_bool a t1 b,RcNeAt.int_bool a t1 b⟩
 | (.int a),(.int b),_,_,r1,r2=>by obtain ⟨t1,rfl⟩:=r1;obtain ⟨t2,rfl⟩:=r2;exact ⟨EqAt.int_int a t1 b t2,RcAt.int_int a t1 b t2,RcNeAt.int_int a t1 b t2⟩
 | (.int a),(.str b),_,_,r1,r2=>by obtain ⟨t1,rfl⟩:=r1;obtain ⟨t2,rfl⟩:=r2;exact ⟨EqAt.int_str a t1 b t2,RcAt.int_str a t1 b t2,RcNeAt.int_str a t1 b t2⟩
 | (.str a),.non,_,_,r1,r2=>by obtain ⟨t1,rfl⟩:=r1;cases r2;exact ⟨EqAt.str_none a t1,RcAt.str_none a t1,RcNeAt.str_none a t1⟩
 | (.str a),(.bl b),_,_,r1,r2=>by obtain ⟨t1,rfl⟩:=r1;cases r2;exact ⟨EqAt.str_bool a t1 b,RcAt.str_bool a t1 b,RcNeAt.str_bool a t1 b⟩
 | (.str a),(.int b),_,_,r1,r2=>by obtain ⟨t1,rfl⟩:=r1;obtain ⟨t2,rfl⟩:=r2;exact ⟨EqAt.str_int a t1 b t2,RcAt.str_int a t1 b t2,RcNeAt.str_int a t1 b t2⟩
 | (.str a),(.str b),_,_,r1,r2=>by obtain ⟨t1,rfl⟩:=r1;obtain ⟨t2,rfl⟩:=r2;exact ⟨EqAt.str_str a t1 b t2,RcAt.str_str a t1 b t2,RcNeAt.str_str a t1 b t2⟩
 | .tup _,_,f,_,_,_=>by cases f
 | .fl _,_,f,_,_,_=>by cases f
 | .ref _,_,f,_,_,_=>by cases f
 | _,.tup _,_,f,_,_=>by cases f
 | _,.fl _,_,f,_,_=>by cases f
 | _,.ref _,_,f,_,_=>by cases f
open SeqAt in
theorem deq (I:Inv X pins σ H s) (rh:RH X.K ρ h H):∀ (n:Nat) {A:Around}{d1 d2:D}{v1 v2:V}{u1 u2:Value}{b:Bool},A.units+n<cLine->RD X.K ρ H d1 v1->RD X.K ρ H d2 v2->RelV v1 u1->RelV v2 u2->eqN n h d1 d2=some b->EqAt A s u1 u2 b/\RcAt A s u1 u2 b/\RcNeAt A s u1 u2 (!b)
 | 0,A,d1,d2,v1,v2,u1,u2,b,_,_,_,_,_,e=>by cases e
 | n+1,A,d1,d2,v1,v2,u1,u2,b,hA,r1,r2,w1,w2,e=>by
  have hu:A.units<cLine:=by omega
  have e0:=e
  unfold eqN at e
  have elems:∀ {xs ys:List D} {vs ws:List V} {its its2:List Value},RDs X.K ρ H xs vs->RDs X.K ρ H ys ws->Vals vs its->Vals ws its2->eqZ (eqN n h) xs ys=some b ->
   (∀ j (h1:j<its.toArray.size) (h2:j<its2.toArray.size),EqAt A.in1 s its.toArray[j] its2.toArray[j] (eqE (eqN n h) xs ys j))/\b=((List.range (min its.toArray.size its2.toArray.size)).all (eqE (eqN n h) xs ys) && its.toArray.size == its2.toArray.size):=fun {xs ys vs ws its its2} q1 q2 a1 a2 z=>by
   obtain ⟨z1,z2⟩:=z46 z
   have l1:=q1.length
   have l2:=q2.length
   have l3:=a1.length
   have l4:=a2.length
   refine ⟨fun j h1 h2=>?_,by rw [z2,List.size_toArray,List.size_toArray,← l3,← l4,← l1,← l2]⟩
   have j1:j<xs.length:=by rw [List.size_toArray] at h1;omega
   have j2:j<ys.length:=by rw [List.size_toArray] at h2;omega
   have e1:xs[j]?=some xs[j]:=List.getElem?_eq_getElem j1
   have e2:ys[j]?=some ys[j]:=List.getElem?_eq_getElem j2
   obtain ⟨x1,b1,c1⟩:=q1.get e1
   obtain ⟨x2,b2,c2⟩:=q2.get e2
   obtain ⟨y1,b3,c3⟩:=a1.get b1
   obtain ⟨y2,b4,c4⟩:=a2.get b2
   have g1:its.toArray[j]=y1:=by
    have:=List.getElem?_eq_getElem (l:=its) (i:=j) (by simpa using h1)
    rw [b3] at this
    simpa using (Option.some.inj this).symm
   have g2:its2.toArray[j]=y2:=by
    have:=List.getElem?_eq_getElem (l:=its2) (i:=j) (by simpa using h2)
    rw [b4] at this
    simpa using (Option.some.inj this).symm
   rw [g1,g2]
   exact (deq I rh n (A:=A.in1) (show A.units+1+n<cLine by omega) c1 c2 c3 c4 (z1 j _ _ e1 e2)).1
  have same:∀ {a a':Addr},v1=.ref a->v2=.ref a'->a=a'->b=true:=fun {a a'} x y z=>by
   subst z
   rw [x] at r1
   rw [y] at r2
   exact z6g I rh (n+1) r1 r2 e0
  cases e1:vw h d1 with
  | no=>rw [e1] at e;cases e2:vw h d2<;>rw [e2] at e<;>cases e
  | flat a =>
   rw [e1] at e
   obtain ⟨rfl,f1⟩:=z1k e1
   cases e2:vw h d2 with
   | no=>rw [e2] at e;cases e
   | flat c =>
    rw [e2] at e
    obtain ⟨rfl,f2⟩:=z1k e2
    cases e
    rw [z3L f1 r1] at w1
    rw [z3L f2 r2] at w2
    exact zK0 a c f1 f2 w1 w2
   | tup ys =>
    rw [e2] at e
    cases e
    obtain ⟨a',vs,rfl,t2,_⟩:=z2z e2 r2
    cases w2
    obtain ⟨its,_,p,_⟩:=I.tuple t2
    obtain ⟨m1,_,m3,_,m5,_⟩:=mixT (s:=s) f1 r1 w1 (show s.heap.IsTuple a' its.toArray from p) hu
    exact ⟨m1,m3,m5⟩
   | lst ys =>
    rw [e2] at e
    cases e
    obtain ⟨a',vs,rfl,t2,_⟩:=z2E rh e2 r2
    cases w2
    obtain ⟨its,_,p,_⟩:=I.list t2
    obtain ⟨m1,_,m3,_,m5,_⟩:=mixL (s:=s) f1 r1 w1 p.isList hu
    exact ⟨m1,m3,m5⟩
  | tup xs =>
   rw [e1] at e
   obtain ⟨a,vs,rfl,t1,q1⟩:=z2z e1 r1
   cases w1
   obtain ⟨its,x1,p1,_⟩:=I.tuple t1
   have p1:s.heap.IsTuple a its.toArray:=p1
   cases e2:vw h d2 with
   | no=>rw [e2] at e;cases e
   | flat c =>
    rw [e2] at e
    cases e
    obtain ⟨rfl,f2⟩:=z1k e2
    obtain ⟨_,m2,_,m4,_,m6⟩:=mixT (s:=s) f2 r2 w2 p1 hu
    exact ⟨m2,m4,m6⟩
   | tup ys =>
    rw [e2] at e
    obtain ⟨a',ws,rfl,t2,q2⟩:=z2z e2 r2
    cases w2
    obtain ⟨its2,x2,p2,_⟩:=I.tuple t2
    have p2:s.heap.IsTuple a' its2.toArray:=p2
    obtain ⟨g1,g2⟩:=elems q1 q2 x1 x2 e
    have rc:=RcAt.tuples p1 p2 hu g1
    have rn:=RcNeAt.tuples p1 p2 hu g1
    rw [← g2] at rc rn
    refine ⟨?_,rc,rn⟩
    by_cases ea:a=a'
    ·rw [same rfl rfl ea]
     subst ea
     exact EqAt.same _
    ·exact EqAt.of_refs ea rc
   | lst ys =>
    rw [e2] at e
    cases e
    obtain ⟨a',ws,rfl,t2,q2⟩:=z2E rh e2 r2
    cases w2
    obtain ⟨its2,x2,p2,_⟩:=I.list t2
    exact ⟨EqAt.tuple_list p1 p2.isList hu,RcAt.tuple_list p1 p2.isList hu,RcNeAt.tuple_list p1 p2.isList hu⟩
  | lst xs =>
   rw [e1] at e
   obtain ⟨a,vs,rfl,t1,q1⟩:=z2E rh e1 r1
   cases w1
   obtain ⟨its,x1,p1,_⟩:=I.list t1
   cases e2:vw h d2 with
   | no=>rw [e2] at e;cases e
   | flat c =>
    rw [e2] at e
    cases e
    obtain ⟨rfl,f2⟩:=z1k e2
    obtain ⟨_,m2,_,m4,_,m6⟩:=mixL (s:=s) f2 r2 w2 p1.isList hu
    exact ⟨m2,m4,m6⟩
   | tup ys =>
    rw [e2] at e
    cases e
    obtain ⟨a',ws,rfl,t2,q2⟩:=z2z e2 r2
    cases w2
    obtain ⟨its2,x2,p2,_⟩:=I.tuple t2
    exact ⟨EqAt.list_tuple p1.isList p2 hu,RcAt.list_tuple p1.isList p2 hu,RcNeAt.list_tuple p1.isList p2 hu⟩
   | lst ys =>
    rw [e2] at e
    obtain ⟨a',ws,rfl,t2,q2⟩:=z2E rh e2 r2
    cases w2
    obtain ⟨its2,x2,p2,_⟩:=I.list t2
    obtain ⟨g1,g2⟩:=elems q1 q2 x1 x2 e
    have both:RcAt A s (.ref a) (.ref a') b/\RcNeAt A s (.ref a) (.ref a') (!b):=by
     by_cases hz:its.toArray.size=its2.toArray.size
     ·have:b=(List.range its.toArray.size).all (eqE (eqN n h) xs ys):=by rw [g2,← hz,Nat.min_self];simp
      rw [this]
      exact ⟨RcAt.lists p1.isList p2.isList hz hu g1,RcNeAt.lists p1.isList p2.isList hz hu g1⟩
     ·have:b=false:=by
       rw [g2,Bool.and_eq_false_iff]
       right
       simpa using hz
      rw [this]
      exact ⟨RcAt.lists_lengths p1.isList p2.isList (by simpa using hz) hu,RcNeAt.lists_lengths p1.isList p2.isList (by simpa using hz) hu⟩
    refine ⟨?_,both⟩
    by_cases ea:a=a'
    ·rw [same rfl rfl ea]
     subst ea
     exact EqAt.same _
    ·exact EqAt.of_refs ea both.1
end
def fEqX (neg:Bool):D->D->M D:=fun x y h=>match eqN 24 h x y with
 | some b=>.ok (.bl (b != neg)) h
 | none=>.bad
def inZ (h:AH) (x:D):List D->Option Bool
 | []=>some false
 | y :: ys=>match eqN 24 h y x,inZ h x ys with
  | some a,some b=>some (a || b)
  | _,_=>none
theorem z2L {h:AH}{x:D}:∀ {ys:List D}{b:Bool},inZ h x ys=some b->(∀ y∈ys,∃ a,eqN 24 h y x=some a)/\(b=true↔∃ y∈ys,eqN 24 h y x=some true)
 | [],b,e=>by unfold inZ at e;cases e;exact ⟨fun y hy=>(by simp at hy),by simp⟩
 | y :: ys,b,e=>by
  unfold inZ at e
  split at e
  ·rename_i a c e1 e2
   cases e
   obtain ⟨q1,q2⟩:=z2L e2
   refine ⟨fun z hz=>?_,?_⟩
   ·rcases List.mem_cons.mp hz with q | q
    ·subst q;exact ⟨_,e1⟩
    ·exact q1 z q
   ·rw [Bool.or_eq_true,q2]
    constructor
    ·rintro (q | ⟨z,hz,q⟩)
     ·exact ⟨y,by simp,by rw [e1,q]⟩
     ·exact ⟨z,by simp [hz],q⟩
    ·rintro ⟨z,hz,q⟩
     rcases List.mem_cons.mp hz with w | w
     ·subst w;rw [e1] at q;exact .inl (Option.some.inj q)
     ·exact .inr ⟨z,w,q⟩
  ·cases e
def rEqX (K:PySem.W.Frag) (neg:Bool):R2:=fun x y H Q=>∃ ρ h d1 d2 b,RH K ρ h H/\RD K ρ H d1 x/\RD K ρ H d2 y/\eqN 24 h d1 d2=some b/\Q (.bl (b != neg)) H
section
variable {X:Cx}{EX:XX}
theorem zI0 (hu:X.A.units+30<cLine):OpR X (compareOp .Eq) (rEqX X.K false):=by
 intro pins s σ H x y v u Q I rx ry h
 obtain ⟨ρ,h,d1,d2,b,rh,r1,r2,e,q⟩:=h
 rw [Bool.bne_false] at q
 exact (deq I rh 24 (A:=X.A) (by omega) r1 r2 rx ry e).2.1 X.prog X.w X.xe (EP X pins σ Q) ⟨.bl b,H,I,rfl,q⟩
theorem zE7 (hu:X.A.units+30<cLine):OpR X (compareOp .NotEq) (rEqX X.K true):=by
 intro pins s σ H x y v u Q I rx ry h
 obtain ⟨ρ,h,d1,d2,b,rh,r1,r2,e,q⟩:=h
 rw [Bool.bne_true] at q
 exact (deq I rh 24 (A:=X.A) (by omega) r1 r2 rx ry e).2.2 X.prog X.w X.xe (EP X pins σ Q) ⟨.bl (!b),H,I,rfl,q⟩
open Classical in
theorem zJ4 {pins:List (Addr×Obj)}{σ:L2.St}{ρ:List Addr}{h:AH}{H:Hp}{s:Shared}{d:D}{ds:List D}{x:V}{v:Value}{xs:List V}{its:List Value}{b:Bool}(hu:X.A.units+30<cLine) (I:Inv X pins σ H s) (rh:RH X.K ρ h H) (rx:RD X.K ρ H d x) (wx:RelV x v) (rs:RDs X.K ρ H ds xs) (ws:Vals xs its) (e:inZ h d ds=some b) :
 ∃ f:Value->Bool,(∀ y∈its,SeqAt.EqAt X.A.in1 s y v (f y))/\its.any f=b:=by
 obtain ⟨q1,q2⟩:=z2L e
 have ex:∀ y∈its,∃ a z w,z∈ds/\RD X.K ρ H z w/\RelV w y/\eqN 24 h z d=some a:=fun y hy=>by
  obtain ⟨j,hj⟩:=List.getElem?_of_mem hy
  have lj:=(List.getElem?_eq_some_iff.mp hj).1
  have a1:xs[j]?=some (xs[j]'(by rw [ws.length];exact lj)):=List.getElem?_eq_getElem _
  obtain ⟨y',c1,a2⟩:=ws.get a1
  rw [hj] at c1
  cases c1
  obtain ⟨z,b1,b2⟩:=rs.getV a1
  have zm:=List.mem_of_getElem? b1
  obtain ⟨a,c⟩:=q1 z zm
  exact ⟨a,z,_,zm,b2,a2,c⟩
 have key:∀ y∈its,∀ a,(∃ z w,z∈ds/\RD X.K ρ H z w/\RelV w y/\eqN 24 h z d=some a)->SeqAt.EqAt X.A.in1 s y v a:=fun y hy a ⟨z,w,zm,r1,r2,c⟩ =>
  (deq I rh 24 (A:=X.A.in1) (show X.A.units+1+24<cLine by omega) r1 rx r2 wx c).1
 refine ⟨fun y=>decide (∃ z w,z∈ds/\RD X.K ρ H z w/\RelV w y/\eqN 24 h z d=some true),fun y hy=>?_,?_⟩
 ·by_cases c:∃ z w,z∈ds/\RD X.K ρ H z w/\RelV w y/\eqN 24 h z d=some true
  ·dsimp only
   rw [decide_eq_true c]
   exact key y hy true c
  ·dsimp only
   rw [decide_eq_false c]
   obtain ⟨a,z,w,g⟩:=ex y hy
   cases a with
   | false=>exact key y hy false ⟨z,w,g⟩
   | true=>exact absurd ⟨z,w,g⟩ c
 ·rw [Bool.eq_iff_iff,q2,List.any_eq_true]
  constructor
  ·rintro ⟨y,hy,c⟩
   obtain ⟨z,w,zm,_,_,c⟩:=of_decide_eq_true c
   exact ⟨z,zm,c⟩
  ·rintro ⟨z,zm,c⟩
   obtain ⟨j,hj⟩:=List.getElem?_of_mem zm
   obtain ⟨w,a1,a2⟩:=rs.get hj
   obtain ⟨y,b1,b2⟩:=ws.get a1
   exact ⟨y,List.mem_of_getElem? b1,decide_eq_true ⟨z,w,zm,a2,b2,c⟩⟩
theorem zg8 {neg:Bool}:BR X.K EX (rEqX X.K neg) (fEqX neg):=by
 intro ρ h H x y v u Q r rx ry fin
 unfold fEqX at fin
 cases e:eqN 24 h x y with
 | none=>rw [e] at fin;exact fin.elim
 | some b=>rw [e] at fin;exact ⟨ρ,h,x,y,b,r,rx,ry,e,FE.here fin r (by simp [RD])⟩
theorem z1S (hu:X.A.units+30<cLine):CO X EX .Eq (fEqX false):=⟨_,zI0 hu,zg8⟩
theorem z96 (hu:X.A.units+30<cLine):CO X EX .NotEq (fEqX true):=⟨_,zE7 hu,zg8⟩
theorem hu30 {A:Around}{k:Nat}(hr:Room k A):A.units+30<cLine:=Nat.lt_of_le_of_lt (Nat.add_le_add_left (by decide:30≤64) _) hr.units
end
variable {α β:Type}
theorem z0Q (a:α) (f:α->M β):((Pure.pure a:M α) >>= f)=f a:=by funext h;rfl
theorem W_eq {m:M α}{v:α}{h:AH}{Q:α->AH->Prop}(e:m=pure v) (q:Q v h):W m h Q:=by rw [e,W_pure];exact q
theorem zx0 {xs:List D}{h:AH}{Q:D->AH->Prop}(hl:xs.length≤1000000) (q:Q (.ref h.length) (h++[.lst xs])):W (newL xs) h Q :=
 ⟨_,_,by unfold newL;rw [if_pos (Nat.le_trans hl (by decide))],q⟩
mutual
theorem z1W {m n:Nat}(h:m≤n):∀ {d:D},J7 m d=true->J7 n d=true
 | .non,_=>rfl
 | .bl _,_=>rfl
 | .int _,_=>rfl
 | .str _,_=>rfl
 | .tup ds,c=>by simp only [J7] at c ⊢;exact z1j h c
 | .fl ds,c=>by simp only [J7] at c ⊢;exact z1j h c
 | .ref i,c=>by simp only [J7,decide_eq_true_eq] at c ⊢;omega
theorem z1j {m n:Nat}(h:m≤n):∀ {d:List D},w6 m d=true->w6 n d=true
 | [],_=>rfl
 | d :: r,c=>by simp only [w6,Bool.and_eq_true] at c ⊢;exact ⟨z1W h c.1,z1j h c.2⟩
end
theorem z2o {n:Nat}:∀ {xs:List D},(∀ x∈xs,J7 n x=true)->w6 n xs=true
 | [],_=>rfl
 | x :: r,h=>by simp only [w6,Bool.and_eq_true];exact ⟨h x (by simp),z2o fun y hy=>h y (by simp [hy])⟩
theorem z08 {n:Nat}{ι:Type}{f:ι->D}{l:List ι}(h:∀ a,J7 n (f a)=true):w6 n (l.map f)=true:=z2o fun x hx=>by
 obtain ⟨a,_,rfl⟩:=List.mem_map.mp hx
 exact h a
theorem z1a {m:M D}{h:AH}{d:D}{j:AH}(e:m h=.ok d (h++j)) (c:J7 h.length d=true):cln m h=.ok d h:=by
 unfold cln
 rw [e]
 dsimp only
 rw [if_pos ⟨by simp,z6v _ _⟩,if_pos c]
 simp
theorem z4j (d:D):cln (pure d)=pure d:=funext fun h=>by
 unfold cln
 rw [pureM]
 dsimp only
 rw [if_pos ⟨Nat.le_refl _,fun _ _ _ e=>.inl e⟩]
 split
 ·simp
 ·rename_i nd
  split
  ·rename_i i
   simp only [J7,decide_eq_true_eq] at nd
   rw [List.getElem?_eq_none (by omega)]
  ·rfl
theorem zM8 {m:M D}{v:D}(c:J7 0 v=true) (z:∀ h,W m h fun a h'=>a=v/\∃ j,h'=h++j):cln m=pure v:=funext fun h=>by
 obtain ⟨a,h',e,rfl,j,rfl⟩:=z h
 exact z1a e (z1W (Nat.zero_le _) c)
theorem zN8 {m:G->M D}{γ:G}{v:D}(c:J7 0 v=true) (z:∀ h,W (m γ) h fun a h'=>a=v/\∃ j,h'=h++j):clE m γ=pure v:=zM8 c z
theorem zQ5 {m:G->M Bool}{γ:G}{h:AH}{d:Bool}{j:AH}(e:m γ h=.ok d (h++j)):clT m γ h=.ok d h:=by
 unfold clT
 rw [e]
 dsimp only
 rw [if_pos ⟨by simp,z6v _ _⟩]
 simp
theorem z9G {cap:List (Option Nat)}{mi:G->M Src}{g:D->G->M G}{k:G->M Bool}{me:G->M D}{γ:G}{src:Src}{h:AH}(p:D->Bool) (f:D->D) (hi:mi γ h=.ok src h) (hg:∀ j,src.good (h++j)) (hl:src.items.length≤1000000)
 (hd:∀ d∈src.items,∃ γ1,g d (capG cap γ)=pure γ1/\k γ1=pure (p d)/\(p d=true->me γ1=pure (f d))):x5 cap mi g k me γ h=newL ((src.items.filter p).map f) h:=by
 rw [z2r p f hi hg hl fun d m=>let ⟨γ1,e1,e2,e3⟩:=hd d m;⟨γ1,fun h=>by rw [e1];rfl,fun j=>by rw [e2];rfl,fun q j=>by rw [e3 q];rfl⟩]
 unfold newL
 rw [if_pos]
 refine Nat.le_trans ?_ (show 1000000≤sizeLine by decide)
 rw [List.length_map]
 exact Nat.le_trans (List.length_filter_le _ _) hl
theorem zm9 {cap:List (Option Nat)}{mi:G->M Src}{g:D->G->M G}{k:G->M Bool}{me:G->M D}{γ:G}{items:List D}(p:D->Bool) (f:D->D) (hi:mi γ=pure (.con items)) (hl:items.length≤1000000)
 (hd:∀ d∈items,∃ γ1,g d (capG cap γ)=pure γ1/\k γ1=pure (p d)/\(p d=true->me γ1=pure (f d))):x5 cap mi g k me γ=newL ((items.filter p).map f) :=
 funext fun h=>z9G (src:=.con items) p f (by rw [hi];rfl) (fun _=>trivial) hl hd
theorem zt8 {m:G->M D}{γ:G}{xs:List D}{f:List D->M D}{v:D}(e:m γ=newL xs) (hl:xs.length≤1000000) (c:J7 0 v=true) (q:∀ n h,h[n]?=some (.lst xs)->f [.ref n] h=.ok v h):clE (Z5 f (z8 m aNil)) γ=pure v:=zN8 c fun h=>by
 simp only [Z8,W_pure,z5O,z4U,z5V,Y7,z1w,sAsg,z0t,sRet,sIf,FT.e2,FT.e3,eVar,gN,gIx,eFn,z8,aNil,Z5,eTup,eLst,eM1,eM0,eMS,z5H,eIsi,zE3,z8H,zl5,z7y,z1E,zm0,cVal,cNot,cAnd,cOr,eAnd,eOr,eNot,eIf,zO5,zP2,zE2,List.getElem?_cons_succ,List.getElem?_cons_zero,List.set_cons_succ,List.set_cons_zero,List.length_cons,List.length_nil,Nat.reduceAdd,if_true,if_false,Bool.not_true,Bool.not_false,ite_true,ite_false,reduceIte,Bool.false_eq_true,reduceCtorEq,zi5,zz3,zv0,zG8,z9s,zv2,zw2,e]
 refine zx0 hl ?_
 exact W.of (q _ _ (by simp)) ⟨rfl,_,rfl⟩
theorem z3Q:∀ bs:List Bool,blsD (bs.map .bl)=some bs
 | []=>rfl
 | b :: r=>by simp [blsD,z3Q r]
theorem zE4 {m:G->M D}{γ:G}{bs:List Bool}(any:Bool) (e:m γ=newL (bs.map .bl)) (hl:bs.length≤1000000):clE (Z5 (fAll any) (z8 m aNil)) γ=pure (.bl (if any then bs.any id else bs.all id)) :=
 zt8 e (by simpa using hl) rfl fun n h q=>by unfold fAll getL;simp [q,z3Q]
theorem zJ6 {cap:List (Option Nat)}{mi:G->M Src}{g:D->G->M G}{k:G->M Bool}{me:G->M D}{γ:G}{items:List D}(any:Bool) (p:D->Bool) (f:D->Bool) (hi:mi γ=pure (.con items)) (hl:items.length≤1000000)
 (hd:∀ d∈items,∃ γ1,g d (capG cap γ)=pure γ1/\k γ1=pure (p d)/\(p d=true->me γ1=pure (.bl (f d)))):clE (Z5 (fAll any) (z8 (x5 cap mi g k me) aNil)) γ=pure (.bl (if any then (items.filter p).any f else (items.filter p).all f)):=by
 rw [zE4 (bs:=(items.filter p).map f) any (by rw [zm9 p (fun d=>.bl (f d)) hi hl hd,List.map_map];rfl) (by rw [List.length_map];exact Nat.le_trans (List.length_filter_le _ _) hl)]
 cases any<;>simp [Function.comp_def]
theorem filter_tt {l:List α}:l.filter (fun _=>true)=l:=by induction l<;>simp_all
theorem z5F {n:Nat}{mb:G->M Out}{ds:List D}{d:D}(e:mb (z1c n ds)=pure (.rt d)):runF n mb ds=pure d:=by unfold runF;rw [e];rfl
theorem ix0 {a:D}{r:List D}:fIx (.tup (a :: r)) (.int 0)=pure a:=ix_tup (by simp [atI,ixN])
theorem zx7 {x y:Str}{b:Bool}:fEq b (.str x) (.str y)=pure (.bl (decide (x=y) != b)):=rfl
theorem zT5:((2:Nat)≤sizeLine)=True:=by simp [sizeLine]
end FT
namespace FT
open PySem PySem.Spec PyProof.Rows L2
structure SQ (st:List (List Nat)):Prop where
 l1:1≤st.length
 l2:st.length≤40
 s2:∀ l∈st,∀ x∈l,x<st.length
def nx (st:List (List Nat)) (a:Nat):List Nat:=(st[a]?).getD []
theorem zl3 {st:List (List Nat)}(q:SQ st) {a b:Nat}(h:b∈nx st a):b<st.length:=by
 unfold nx at h
 cases e:st[a]? with
 | none=>rw [e] at h;cases h
 | some l =>
  rw [e] at h
  exact q.s2 l (List.mem_of_getElem? e) b h
theorem zs5 (st:List (List Nat)):(stsD st).length=st.length:=by unfold stsD;simp
theorem zE5 {st:List (List Nat)}{a:Nat}(ha:a<st.length):atI (stsD st) (a:Int)=some (.tup (stD (nx st a))):=by
 refine z3Y ?_
 unfold stsD nx
 rw [List.getElem?_map,List.getElem?_eq_getElem ha]
 rfl
theorem zh7 {st:List (List Nat)}{mk:List (List Str)}:fIx (maD st mk) (.int 0)=pure (.tup (stsD st)):=ix_tup rfl
theorem zh5 {st:List (List Nat)}{mk:List (List Str)}:fIx (maD st mk) (.int 1)=pure (.tup (mksD mk)):=ix_tup rfl
theorem zH8 {st:List (List Nat)}{a:Nat}(ha:a<st.length):fIx (.tup (stsD st)) (.int a)=pure (.tup (stD (nx st a))):=ix_tup (zE5 ha)
theorem z5D:∀ l:List Nat,(stD l).all z0k=true
 | []=>rfl
 | _ :: l=>z5D l
theorem z89 (x:Nat):∀ l:List Nat,((stD l).any fun z=>eqF z (.int x))=decide (x∈l)
 | []=>by simp [stD]
 | b :: l=>by
  rw [show stD (b :: l)=.int b :: stD l from rfl,List.any_cons,z89 x l]
  simp only [eqF]
  rw [Bool.eq_iff_iff]
  simp only [Bool.or_eq_true,beq_iff_eq,decide_eq_true_eq,List.mem_cons]
  constructor
  ·rintro (h | h)
   ·left;omega
   ·exact .inr h
  ·rintro (h | h)
   ·left;omega
   ·exact .inr h
theorem zB4 {x:Nat}{l:List Nat}{neg:Bool}:fIn neg (.int x) (.tup (stD l))=pure (.bl (decide (x∈l) != neg)):=by
 unfold fIn seqD
 show (if z0k (.int x) && (stD l).all z0k then _ else _)=_
 rw [z5D,z89]
 rfl
theorem z0C (l:List Nat):(stD l).length=l.length:=by unfold stD;simp
theorem z61 {l:List Nat}{n:Nat}(hl:l.Pairwise (·<·)) (hm:∀ x∈l,x<n):l.length≤n:=by
 have nd:l.Nodup:=List.Pairwise.imp (fun h=>Nat.ne_of_lt h) hl
 have:=nd.length_le_of_subset (l₂:=List.range n) (fun x hx=>List.mem_range.mpr (hm x hx))
 rwa [List.length_range] at this
def zN (l:List Nat):List Int:=l.map fun (i:Nat)=>(i:Int)
def kN (l:List Nat):List Key:=l.map fun (i:Nat)=>.inl (i:Int)
def z16 (l:List Nat):List Nat:=(sortI (zN l)).map Int.toNat
theorem z5C:∀ l:List Nat,z4S (kN l)=some (zN l)
 | []=>rfl
 | a :: l=>by
  show (z4S (kN l)).map _=_
  rw [z5C l]
  rfl
theorem z2Q:∀ l:List Nat,z1x (stD l)=some (zN l)
 | []=>rfl
 | a :: l=>by
  show (z1x (stD l)).map _=_
  rw [z2Q l]
  rfl
theorem z2g (l:List Nat):(sortI (zN l)).map D.int=stD (z16 l):=by
 unfold z16 stD
 rw [List.map_map]
 refine List.map_congr_left fun a ha=>?_
 have:a∈zN l:=(sortI_perm _).mem_iff.mp ha
 obtain ⟨i,_,rfl⟩:=List.mem_map.mp this
 rfl
theorem z2k (l:List Nat):(z16 l).Perm l:=by
 have:=(sortI_perm (zN l)).map Int.toNat
 refine this.trans ?_
 unfold zN
 rw [List.map_map]
 rw [show (Int.toNat ∘ fun (i:Nat)=>(i:Int))=id from funext fun i=>rfl,List.map_id]
theorem z2p {l:List Nat}(nd:l.Nodup):(z16 l).Pairwise (·<·):=by
 have s:(z16 l).Pairwise (·≤·):=by
  unfold z16
  rw [List.pairwise_map]
  exact (z64 _).imp fun {a b} h=>by omega
 have n:(z16 l).Nodup:=(z2k l).nodup_iff.mpr nd
 exact (List.Pairwise.and s n).imp fun {a b} q=>by omega
theorem z3n {l:List Nat}{x:Nat}:x∈z16 l↔x∈l:=(z2k l).mem_iff
theorem x9 (l:List Nat):(z16 l).length=l.length:=(z2k l).length_eq
theorem kN_mem {l:List Nat}{x:Nat}:(Sum.inl (x:Int):Key)∈kN l↔x∈l:=by
 unfold kN
 constructor
 ·intro h
  obtain ⟨i,hi,e⟩:=List.mem_map.mp h
  have:i=x:=by have:=Sum.inl.inj e;omega
  exact this ▸ hi
 ·exact fun h=>List.mem_map.mpr ⟨x,h,rfl⟩
theorem zi0 (l:List Nat):(kN l).length=l.length:=by unfold kN;simp
theorem zx2 {l:List Nat}{x:Nat}(h:x∉l):putK (kN l) (.inl (x:Int))=kN (l++[x]):=by
 unfold putK
 rw [if_neg (fun q=>h (kN_mem.mp q))]
 unfold kN
 simp
theorem z8y {S:List Nat}{n:Nat}(nd:S.Nodup) (hm:∀ x∈S,x<n):S.length≤n:=by
 have:=nd.length_le_of_subset (l₂:=List.range n) (fun x hx=>List.mem_range.mpr (hm x hx))
 rwa [List.length_range] at this
theorem z7R {S:List Nat}{x:Nat}(nd:S.Nodup) (h:x∉S):(S++[x]).Nodup:=by
 rw [List.nodup_append]
 refine ⟨nd,by simp,fun a ha b hb=>?_⟩
 simp at hb
 subst hb
 exact fun e=>h (e ▸ ha)
theorem zO3 (l:List Nat) (x:Nat):stD l++[.int x]=stD (l++[x]):=by unfold stD;simp
theorem zE1 {l:List Nat}{i:Nat}{d:D}(h:(stD l)[i]?=some d):∃ b:Nat,d=.int b/\l[i]?=some b:=by
 unfold stD at h
 rw [List.getElem?_map] at h
 obtain ⟨b,e1,e2⟩:=Option.map_eq_some_iff.mp h
 exact ⟨b,e2.symm,e1⟩
section
variable {ma:G->M D}{g:D->G->M G}{k:G->M Bool}{ms mr mt:G->M Out}{γ γ':G}{h h1:AH}{d:D}{b:Bool}{Q:Out->AH->Prop}
theorem zj9 (d:D) (γ':G) (e:ma γ=pure d) (eg:g d γ=pure γ') (z:W (mt γ') h Q):W (z9 (sAsg ma g) mt γ) h Q:=by
 rw [w_cons];unfold sAsg;rw [e,z0Q,eg,z0Q,W_pure];exact z
theorem z1C (d:D) (γ':G) (e:ma γ h=.ok d h1) (eg:g d γ=pure γ') (z:W (mt γ') h1 Q):W (z9 (sAsg ma g) mt γ) h Q:=by
 rw [w_cons];unfold sAsg;rw [Z8];refine W.of e ?_;rw [eg,z0Q,W_pure];exact z
theorem z8g {i:Nat}(z:W (ma γ) h fun d h1=>W (mt (γ.set i (some d))) h1 Q):W (z9 (sAsg ma (gN i)) mt γ) h Q:=by
 rw [w_cons];unfold sAsg gN;rw [Z8];refine z.mono fun d h1 q=>?_;rw [z0Q,W_pure];exact q
theorem q_if (b:Bool) (e:k γ=pure b) (z:W (z9 (if b=true then ms else mr) mt γ) h Q):W (z9 (sIf k ms mr) mt γ) h Q:=by
 rw [w_cons] at z ⊢;unfold sIf;rw [e,z0Q]
 cases b<;>exact z
theorem zo0 (b:Bool) (e:k γ h=.ok b h) (z:W (z9 (if b=true then ms else mr) mt γ) h Q):W (z9 (sIf k ms mr) mt γ) h Q:=by
 rw [w_cons] at z ⊢;unfold sIf;rw [Z8];refine W.of e ?_
 cases b<;>exact z
theorem zO9 (z:W (k γ) h fun b h1=>W (z9 (if b=true then ms else mr) mt γ) h1 Q):W (z9 (sIf k ms mr) mt γ) h Q:=by
 rw [w_cons];unfold sIf;rw [Z8];refine z.mono fun b h1 q=>?_
 rw [w_cons] at q
 cases b<;>exact q
theorem zP5 (d:D) (e:ma γ=pure d) (z:Q (.rt d) h):W (z9 (sRet ma) mt γ) h Q:=by
 rw [w_cons];unfold sRet;rw [e,z0Q,W_pure];exact z
theorem z1d (d:D) (e:ma γ h=.ok d h1) (z:Q (.rt d) h1):W (z9 (sRet ma) mt γ) h Q:=by
 rw [w_cons];unfold sRet;rw [Z8];refine W.of e ?_;rw [W_pure];exact z
theorem zy2 (z:W (ma γ) h fun d h1=>Q (.rt d) h1):W (z9 (sRet ma) mt γ) h Q:=by
 rw [w_cons];unfold sRet;rw [Z8];refine z.mono fun d h1 q=>?_;rw [W_pure];exact q
theorem zf7 (z:W (ma γ) h fun d h1=>W (mt γ) h1 Q):W (z9 (z0t ma) mt γ) h Q:=by
 rw [w_cons];unfold z0t;rw [Z8];refine z.mono fun d h1 q=>?_;rw [W_pure];exact q
theorem zr7 (z:W (mt γ) h Q):W (z9 bNil mt γ) h Q:=by rw [w_cons,z5V];exact z
theorem z6L {Q:Out->AH->Prop}(z:Q (.nx γ) h):W (bNil γ) h Q:=by rw [z5V];exact z
theorem zQ9 {mb:G->M D}(e:ma γ=pure (.bl true)):eAnd ma mb γ=mb γ:=by unfold eAnd;rw [e];rfl
theorem zS5 {l:G->M Bool}(e:k γ h=.ok true h):cOr k l γ h=.ok true h:=by unfold cOr;rw [M.bind_ok e];rfl
theorem zr1 (d:D) (e:ma γ=pure d):z9 (sRet ma) mt γ=pure (.rt d):=by
 unfold z9 sRet;rw [e,z0Q,z0Q]
theorem p_if (b:Bool) (e:k γ=pure b):z9 (sIf k ms mr) mt γ=z9 (if b=true then ms else mr) mt γ:=by
 unfold z9 sIf;rw [e,z0Q];cases b<;>rfl
theorem zT4:z9 bNil mt γ=mt γ:=by unfold z9 bNil;rw [z0Q]
theorem zT1 {ms1 ms2:G->M Out}:z9 (z9 ms1 ms2) mt γ=z9 ms1 (z9 ms2 mt) γ:=by
 funext h
 unfold z9
 simp only [bindM]
 cases ms1 γ h with
 | ok o h1=>cases o<;>rfl
 | err x h1=>rfl
 | bad=>rfl
theorem zH7 {ms1 ms2:G->M Out}(z:W (z9 ms1 (z9 ms2 mt) γ) h Q):W (z9 (z9 ms1 ms2) mt γ) h Q:=by
 rw [w_cons] at z ⊢
 rw [w_cons]
 refine z.mono fun o h1 q=>?_
 cases o with
 | nx γ=>exact w_cons.mp q
 | rt d=>exact q
 | bk d=>exact q
 | ct d=>exact q
end
theorem zQ6 {i j:Int}{neg:Bool}:fEqX neg (.int i) (.int j)=pure (.bl (decide (i=j) != neg)):=by
 funext h
 show Res.ok (D.bl ((i == j) != neg)) h=_
 have:(i == j)=decide (i=j):=by rw [Bool.eq_iff_iff];simp
 rw [this];rfl
theorem zR0 {a b:Bool}{neg:Bool}:fEqX neg (.bl a) (.bl b)=pure (.bl ((a == b) != neg)):=by funext h;rfl
theorem zt3 {mc:G->M D}{γ:G}{h h1:AH}{xs:List D}{neg:Bool}(e:mc γ h=newL xs h1) (hl:xs.length≤1000000):e2 (fEqX neg) mc (eLst aNil) γ h=.ok (.bl (xs.isEmpty != neg)) (h1++[.lst xs]++[.lst []]):=by
 have e':mc γ h=.ok (.ref h1.length) (h1++[.lst xs]):=by rw [e];unfold newL;rw [if_pos (Nat.le_trans hl (by decide))]
 show (mc γ >>= _) h=_
 rw [M.bind_ok e']
 have e2':eLst aNil γ (h1++[.lst xs])=.ok (.ref (h1++[O.lst xs]).length) (h1++[.lst xs]++[.lst []]):=by
  unfold eLst aNil newL
  simp
 rw [M.bind_ok e2']
 have v1:vw (h1++[O.lst xs]++[O.lst []]) (.ref h1.length)=.lst xs:=by unfold vw;simp
 have v2:vw (h1++[O.lst xs]++[O.lst []]) (.ref (h1++[O.lst xs]).length)=.lst []:=by unfold vw;simp
 unfold fEqX eqN
 rw [v1,v2]
 cases xs<;>rfl
theorem zm3 {mc:G->M D}{γ:G}{h j:AH}{xs:List D}{neg:Bool}(e:mc γ h=newL xs (h++j)) (hl:xs.length≤1000000):clE (e2 (fEqX neg) mc (eLst aNil)) γ h=.ok (.bl (xs.isEmpty != neg)) h :=
 z1a (by rw [zt3 e hl,List.append_assoc,List.append_assoc]) rfl
theorem zp6 {x:Str}{l:List Str}{neg:Bool}:fIn neg (.str x) (.tup (l.map .str))=pure (.bl (decide (x∈l) != neg)):=by
 unfold fIn seqD
 show (if z0k (.str x) && (l.map D.str).all z0k then _ else _)=_
 rw [z1R,z48]
 rfl
def rp (n:Nat) (l:List Nat):List Nat:=(List.replicate n l).flatten
def CL (r:AH):Prop:=True
theorem CL.app {r j:AH}(a:CL r) (b:CL j):CL (r++j):=trivial
theorem CL.one {xs:List D}(h:w6 3 xs=true):CL [.lst xs]:=trivial
theorem CL.put {r:AH}{xs:List D}(a:CL r) (h:w6 3 xs=true):CL (r++[.lst xs]):=a.app (.one h)
theorem z4W {n:Nat}(l:List Str):w6 n (l.map .str)=true:=z08 fun _=>rfl
theorem z5i {n:Nat}(l:List Int):w6 n (l.map .int)=true:=z08 fun _=>rfl
theorem z44 {n:Nat}(l:List Nat):w6 n (stD l)=true:=z08 fun _=>rfl
theorem z62 {n:Nat}(l:List Nat):J7 n (.tup (stD l))=true:=by simp only [J7];exact z44 l
theorem z7X {gr sm:List Int}{s c:Int}{r j:AH}:(Pool gr sm s c (r++j)).take (r.length+3)=Pool gr sm s c r:=by
 unfold Pool
 simp
theorem z8Q {gr sm gr' sm':List Int}{s c s' c':Int}{r j:AH}:Kept (Pool gr sm s c r) (Pool gr' sm' s' c' (r++j)):=fun i o li e=>by
 have l3:(Pool gr sm s c r).length=r.length+3:=rfl
 rw [l3] at li ⊢
 match i,e with
 | 0,e=>cases e;exact .inr (z5i _)
 | 1,e=>cases e;exact .inr (z5i _)
 | 2,e=>cases e;exact .inr (by simp [refO,w6,J7])
 | i+3,e =>
  left
  have e:(r++j)[i]?=some o:=e
  rw [List.getElem?_append_left (by omega)] at e
  exact e
theorem z63 {h h1:AH}{k k':Int}{r j:AH}(p:PS h k r) (q:CL r) (p1:PS h1 k' (r++j)):(h.length≤h1.length/\Kept h h1)/\PS (h1.take h.length) k' r:=by
 have l:=p.len
 have l1:=p1.len
 obtain ⟨gr,sm,s,c,rfl,g⟩:=p1
 obtain ⟨gr0,sm0,s0,c0,rfl,g0⟩:=p
 refine ⟨⟨by rw [List.length_append] at l1;omega,z8Q⟩,?_⟩
 rw [show (Pool gr0 sm0 s0 c0 r).length=r.length+3 from rfl,z7X]
 exact ⟨gr,sm,s,c,rfl,g⟩
theorem zH4 {m:M D}{h:AH}{k:Int}{r:AH}{Q:D->AH->Prop}(p:PS h k r) (q:CL r) (z:W m h fun d h1=>∃ k' j,PS h1 k' (r++j)/\J7 3 d=true/\∀ h2,PS h2 k' r->Q d h2):W (cln m) h Q:=by
 obtain ⟨d,h1,e,k',j,p1,rd,f⟩:=z
 obtain ⟨c1,c2⟩:=z63 p q p1
 refine ⟨d,h1.take h.length,?_,f _ c2⟩
 unfold cln
 rw [e]
 dsimp only
 rw [if_pos c1,if_pos (z1W (by rw [p.len];omega) rd)]
theorem zG3 {m:M D}{h:AH}{k:Int}{r:AH}{Q:D->AH->Prop}(p:PS h k r) (q:CL r) (z:W m h fun d h1=>∃ k' j i xs,d=.ref (i+3)/\PS h1 k' (r++j)/\r.length≤i/\(r++j)[i]?=some (.lst xs)/\w6 3 xs=true/\∀ h2,PS h2 k' (r++[.lst xs])->Q (.ref (r.length+3)) h2):W (cln m) h Q:=by
 obtain ⟨d,h1,e,k',j,i,xs,rfl,p1,hi,ei,rd,f⟩:=z
 obtain ⟨c1,c2⟩:=z63 p q p1
 have l:=p.len
 refine ⟨.ref (r.length+3),h1.take h.length++[.lst xs],?_,f _ (c2.app _)⟩
 unfold cln
 rw [e]
 dsimp only
 rw [if_pos c1,if_neg (by simp only [J7,decide_eq_true_eq];omega),p1.get,ei]
 dsimp only
 rw [if_pos (show refO h.length (.lst xs)=true from z1j (by omega) rd),l]
theorem zP6 {m:G->M D}{γ:G}{h:AH}{k:Int}{r:AH}{Q:D->AH->Prop}(p:PS h k r) (q:CL r) (z:W (m γ) h fun d h1=>∃ k' j,PS h1 k' (r++j)/\J7 3 d=true/\∀ h2,PS h2 k' r->Q d h2):W (clE m γ) h Q:=zH4 p q z
section
variable {h:AH}{k:Int}{r l:AH}{i:Nat}{xs:List D}{v:D}
theorem at_E:(r++l)[r.length+i]?=l[i]?:=by rw [List.getElem?_append_right (by omega)];congr 1;omega
theorem zH1 {o:O}:(r++l).set (r.length+i) o=r++l.set i o:=by
 rw [List.set_append_right _ _ (by omega)]
 congr 2
 omega
theorem z8x {Q:List D->AH->Prop}(p:PS h k (r++l)) (e:l[i]?=some (.lst xs)) (q:Q xs h):W (getL (r.length+i+3)) h Q:=z4t p (by rw [at_E];exact e) q
theorem zB3 {Q:D->AH->Prop}(p:PS h k (r++l)) (hl:xs.length≤1000000) (z:∀ h',PS h' k (r++(l++[.lst xs]))->Q (.ref (r.length+l.length+3)) h'):W (newL xs) h Q :=
 z6t p hl fun h' p'=>by rw [List.append_assoc] at p';have:=z h' p';rwa [List.length_append]
theorem ze9 {Q:D->AH->Prop}(p:PS h k (r++l)) (e:l[i]?=some (.lst xs)) (hl:xs.length<1000000) (z:∀ h',PS h' k (r++l.set i (.lst (xs++[v])))->Q .non h'):W (y8 (r.length+i+3) v) h Q :=
 z5Y p (by rw [at_E];exact e) hl fun h' p'=>z h' (by rw [zH1] at p';exact p')
theorem zQ8 {Q:D->AH->Prop}(p:PS h k (r++l)) (e:l[i]?=some (.lst xs)) (q:Q (.int xs.length) h):W (fLen [.ref (r.length+i+3)]) h Q:=zH6 p (by rw [at_E];exact e) q
theorem zS1 {Q:D->AH->Prop}(p:PS h k (r++l)) (e:l[i]?=some (.lst xs)) (q:Q (.tup xs) h):W (Y3 [.ref (r.length+i+3)]) h Q:=by
 have ft:∀ i:Nat,Y3 [.ref i]=(do let x ← getL i;pure (.tup x)):=fun _=>rfl
 rw [ft,Z8]
 refine z8x p e ?_
 rw [W_pure]
 exact q
theorem zc4 {Q:Nat->AH->Prop}(p:PS h k (r++l)) (e:l[i]?=some (.lst xs)) (q:Q (r.length+i+3) h):W (z1J (.ref (r.length+i+3))) h Q:=by
 rw [z5H]
 exact z8x p e q
theorem zS3 {j:Nat}{ys:List D}{Q:D->AH->Prop}(p:PS h k (r++l)) (e:l[i]?=some (.lst xs)) (e2:(r++l)[j]?=some (.lst ys)) (hl:xs.length+ys.length≤1000000) (z:∀ h',PS h' k (r++(l++[.lst (xs++ys)]))->Q (.ref (r.length+l.length+3)) h'):W (fAdd (.ref (r.length+i+3)) (.ref (j+3))) h Q:=by
 show W (getL _ >>= fun x=>getL _ >>= fun y=>newL (x++y)) h Q
 rw [Z8]
 refine z8x p e ?_
 rw [Z8]
 refine z4t p e2 ?_
 exact zB3 p (by simpa using hl) z
end
theorem zS0 {ma:G->M D}{mt:G->M Out}{γ:G}{h:AH}{i:Nat}{Q:Out->AH->Prop}(J:D->AH->Prop) (z:W (ma γ) h J) (f:∀ d h1,J d h1->W (mt (γ.set i (some d))) h1 Q):W (z9 (sAsg ma (gN i)) mt γ) h Q:=z8g (z.mono f)
theorem zR9 {ma:G->M D}{mt:G->M Out}{γ:G}{h:AH}{Q:Out->AH->Prop}(J:D->AH->Prop) (z:W (ma γ) h J) (f:∀ d h1,J d h1->Q (.rt d) h1):W (z9 (sRet ma) mt γ) h Q:=zy2 (z.mono f)
theorem zS6 {me:G->M D}{mt:G->M Out}{γ:G}{h:AH}{k:Int}{r l:AH}{a i:Nat}{xs:List D}{Q:Out->AH->Prop}(ea:γ[a]?=some (some (.ref (r.length+i+3)))) (p:PS h k (r++l)) (e:l[i]?=some (.lst xs)) (hl:xs.length<1000000) (J:D->Int->Prop)
 (z:W (me γ) h fun v h1=>∃ k',PS h1 k' (r++l)/\J v k') (f:∀ v k' h2,J v k'->PS h2 k' (r++l.set i (.lst (xs++[v])))->W (mt γ) h2 Q):W (z9 (z0t (eM1 y8 (eVar a) me)) mt γ) h Q:=by
 refine zf7 ?_
 unfold eM1
 rw [Z8]
 refine W_eq (v:=.ref (r.length+i+3)) (by unfold eVar;rw [ea]) ?_
 rw [Z8]
 refine zc4 p e ?_
 rw [Z8]
 refine z.mono fun v h1 ⟨k',p1,j⟩=>?_
 exact ze9 p1 e hl fun h2 p2=>f v k' h2 j p2
theorem zR8 {cap:List (Option Nat)}{mi:G->M Src}{g:D->G->M G}{kk:G->M Bool}{me:G->M D}{γ:G}{h:AH}{r l:AH}{Q:D->AH->Prop}(J:Nat->List D->Int->Prop)
 (hs:W (mi γ) h fun src h1=>∃ k,PS h1 k (r++l)/\J 0 [] k/\(∀ h k xs,PS h k (r++(l++[.lst xs]))->src.good h) /\
  (∀ i d h k xs,src.items[i]?=some d->J i xs k->PS h k (r++(l++[.lst xs]))->W (g d (capG cap γ)) h fun γ1 h1'=>W (kk γ1) h1' fun t h2=>if t=true then W (me γ1) h2 fun v h3=>∃ k',PS h3 k' (r++(l++[.lst xs]))/\xs.length<1000000/\J (i+1) (xs++[v]) k' else ∃ k',PS h2 k' (r++(l++[.lst xs]))/\J (i+1) xs k') /\
  ∀ h' xs k,J src.items.length xs k->PS h' k (r++(l++[.lst xs]))->Q (.ref (r.length+l.length+3)) h'):W (x5 cap mi g kk me γ) h Q:=by
 refine zz6 ?_
 refine hs.mono fun src h1 ⟨k,p1,j0,good,st,fin⟩=>?_
 have l1:h1.length=r.length+l.length+3:=by rw [p1.len,List.length_append]
 refine ⟨fun i h'=>∃ xs k,J i xs k/\PS h' k (r++(l++[.lst xs])),⟨[],k,j0,by rw [← List.append_assoc];exact p1.app _⟩,fun i h' ⟨xs,k,_,p⟩=>good h' k xs p,?_,?_⟩
 ·rintro i d h2 hd ⟨xs,k,jx,p2⟩
  refine (st i d h2 k xs hd jx p2).mono fun γ1 h3 w3=>w3.mono fun t h4 w4=>?_
  cases t with
  | false=>rw [if_neg (by decide)] at w4 ⊢;obtain ⟨k',p4,j4⟩:=w4;exact ⟨xs,k',j4,p4⟩
  | true =>
   rw [if_pos rfl] at w4 ⊢
   refine w4.mono fun v h5 ⟨k',p5,lx,j5⟩=>?_
   rw [l1,show r.length+l.length+3=r.length+l.length+3 from rfl]
   refine ze9 (i:=l.length) p5 (by simp) lx fun h6 p6=>?_
   refine ⟨_,k',j5,?_⟩
   rw [List.set_append_right _ _ (Nat.le_refl _),Nat.sub_self] at p6
   exact p6
 ·rintro h2 ⟨xs,k,jx,p2⟩
  rw [l1]
  exact fin h2 xs k jx p2
end FT
namespace L2
open PySem PySem.Spec PyProof.Rows
section
variable {κ:Type} [DecidableEq κ]
def valV (kvs:List (κ×V)) (k:κ):Option V:=(kvs.find? fun kv=>decide (kv.1=k)).map (·.2)
def putK (kvs:List (κ×V)) (k:κ) (v:V):List (κ×V) :=
 if (kvs.any fun kv=>decide (kv.1=k))=true then kvs.map (fun kv=>if kv.1=k then (kv.1,v) else kv) else kvs++[(k,v)]
theorem z2T {p:κ×V}{r:List (κ×V)}{k:κ}(e:p.1=k):valV (p :: r) k=some p.2:=by simp [valV,List.find?_cons,e]
theorem z2R {p:κ×V}{r:List (κ×V)}{k:κ}(e:¬ p.1=k):valV (p :: r) k=valV r k:=by simp [valV,List.find?_cons,e]
theorem z6F (k:κ):∀ kvs:List (κ×V),(kvs.any fun kv=>decide (kv.1=k))=(valV kvs k).isSome
 | []=>rfl
 | p :: r=>by
  rw [List.any_cons]
  by_cases e:p.1=k
  ·simp only [z2T e,decide_eq_true e,Bool.true_or,Option.isSome_some]
  ·rw [z2R e,decide_eq_false e,Bool.false_or];exact z6F k r
theorem z15 (kvs:List (κ×V)) (k:κ) (v:V):(putK kvs k v).length≤kvs.length+1:=by
 unfold putK
 split
 ·rw [List.length_map];omega
 ·rw [List.length_append,List.length_cons,List.length_nil];omega
theorem RelO.isSome_eq {o:Option V}{u:Option Value}(r:RelO o u):o.isSome=u.isSome:=by
 cases o with
 | none=>cases u with
  | none=>rfl
  | some _=>exact (show False from r).elim
 | some _=>cases u with
  | none=>exact (show False from r).elim
  | some _=>rfl
theorem KV.val {kvs:List (κ×V)}{vs:List (κ×Value)}(r:KV kvs vs) (k:κ):RelO (valV kvs k) (valueAt vs k):=by
 unfold KV at r
 induction r with
 | nil=>exact True.intro
 | @cons p q ps qs h t ih =>
  obtain ⟨h1,h2⟩:=h
  by_cases e:p.1=k
  ·have e':q.1=k:=h1.symm.trans e
   have b:valueAt (q :: qs) k=some q.2:=by simp [valueAt,List.find?_cons,e']
   rw [z2T e,b];exact h2
  ·have e':¬ q.1=k:=fun z=>e (h1.trans z)
   have b:valueAt (q :: qs) k=valueAt qs k:=by simp [valueAt,List.find?_cons,e']
   rw [z2R e,b];exact ih
theorem KV.any {kvs:List (κ×V)}{vs:List (κ×Value)}(r:KV kvs vs) (k:κ):(kvs.any fun kv=>decide (kv.1=k))=vs.any fun kv=>decide (kv.1=k):=by
 unfold KV at r
 induction r with
 | nil=>rfl
 | cons h t ih=>rw [List.any_cons,List.any_cons,ih,h.1]
theorem KV.repl {kvs:List (κ×V)}{vs:List (κ×Value)}(r:KV kvs vs) (k:κ) {y:V}{u:Value}(ry:RelV y u) :
 KV (kvs.map fun kv=>if kv.1=k then (kv.1,y) else kv) (vs.map fun kv=>if kv.1=k then (kv.1,u) else kv):=by
 unfold KV at r ⊢
 induction r with
 | nil=>exact .nil
 | @cons p q ps qs h t ih =>
  rw [List.map_cons,List.map_cons]
  refine .cons ?_ ih
  obtain ⟨h1,h2⟩:=h
  by_cases e:p.1=k
  ·rw [if_pos e,if_pos (h1.symm.trans e)];exact ⟨h1,ry⟩
  ·rw [if_neg e,if_neg (fun z=>e (h1.trans z))];exact ⟨h1,h2⟩
theorem KV.put {kvs:List (κ×V)}{vs:List (κ×Value)}(r:KV kvs vs) (k:κ) {y:V}{u:Value}(ry:RelV y u):KV (putK kvs k y) (stored vs k u):=by
 unfold putK stored
 rw [r.any k]
 by_cases e:(vs.any fun kv=>decide (kv.1=k))=true
 ·rw [if_pos e,if_pos e];exact r.repl k ry
 ·rw [if_neg e,if_neg e];exact Paired.snoc r ⟨rfl,ry⟩
theorem KV.length {kvs:List (κ×V)}{vs:List (κ×Value)}(r:KV kvs vs):kvs.length=vs.length:=Paired.length r
end
theorem z7c {P:Program}{w:World}{k:Key}{u:Value}(r:RelV (kV k) u):(k6 P w).is k u=true:=by
 cases k with
 | inl i=>obtain ⟨t,e⟩:=(show ∃ t,u=Value.int i t from r);subst e;exact z5K P w i t
 | inr x=>obtain ⟨t,e⟩:=(show ∃ t,u=Value.str x t from r);subst e;exact z5s P w x t
theorem z5k {P:Program}{w:World}:∀ {ks:List Key}{us:List Value},Vals (ks.map kV) us->ItemsAre (k6 P w) ks us
 | [],_,r=>by rw [List.map_nil] at r;cases r;exact .nil
 | k :: ks,_,r=>by
  rw [List.map_cons] at r
  cases r with
  | cons h t=>exact .cons (z7c h) (z5k t)
abbrev KT (H:Hp):List (List Key×V)->List (List Key×Addr×Value)->Prop:=Paired fun p q=>p.1=q.1/\H q.2.1=some (.tup (p.1.map kV))/\RelV p.2 q.2.2
theorem KT.val {H:Hp}{kvs:List (List Key×V)}{xs:List (List Key×Addr×Value)}(r:KT H kvs xs) (k:List Key):RelO (valV kvs k) ((atKey xs k).map (·.2)):=by
 induction r with
 | nil=>exact True.intro
 | @cons p q ps qs h t ih =>
  obtain ⟨h1,_,h2⟩:=h
  by_cases e:p.1=k
  ·have e':q.1=k:=h1.symm.trans e
   have b:atKey (q :: qs) k=some q.2:=by simp [atKey,List.find?_cons,e']
   rw [z2T e,b];exact h2
  ·have e':¬ q.1=k:=fun z=>e (h1.trans z)
   have b:atKey (q :: qs) k=atKey qs k:=by simp [atKey,List.find?_cons,e']
   rw [z2R e,b];exact ih
theorem KT.repl {H:Hp}{kvs:List (List Key×V)}{xs:List (List Key×Addr×Value)}(r:KT H kvs xs) (k:List Key) {y:V}{u:Value}(ry:RelV y u) :
 KT H (kvs.map fun kv=>if kv.1=k then (kv.1,y) else kv) (xs.map (putAt k u)):=by
 induction r with
 | nil=>exact .nil
 | @cons p q ps qs h t ih =>
  rw [List.map_cons,List.map_cons]
  refine .cons ?_ ih
  obtain ⟨h1,h2,h3⟩:=h
  unfold putAt
  by_cases e:p.1=k
  ·rw [if_pos e,if_pos (h1.symm.trans e)];exact ⟨h1,h2,ry⟩
  ·rw [if_neg e,if_neg (fun z=>e (h1.trans z))];exact ⟨h1,h2,h3⟩
theorem KT.put {H:Hp}{kvs:List (List Key×V)}{xs:List (List Key×Addr×Value)}(r:KT H kvs xs) (k:List Key) {b:Addr}{y:V}{u:Value}(hb:H b=some (.tup (k.map kV))) (ry:RelV y u) :
 KT H (putK kvs k y) (storedH xs k b u):=by
 have e:(kvs.any fun kv=>decide (kv.1=k))=(atKey xs k).isSome:=by
  rw [z6F,(r.val k).isSome_eq,Option.isSome_map]
 unfold putK storedH
 rw [e]
 by_cases q:(atKey xs k).isSome=true
 ·rw [if_pos q,if_pos q];exact r.repl k ry
 ·rw [if_neg q,if_neg q];exact Paired.snoc r ⟨rfl,hb,ry⟩
theorem KT.keeps {H H':Hp}{kvs:List (List Key×V)}{xs:List (List Key×Addr×Value)}(r:KT H kvs xs) (ht:∀ b ys,H b=some (.tup ys)->H' b=some (.tup ys)):KT H' kvs xs :=
 Paired.mapP r fun _ _ z=>⟨z.1,ht _ _ z.2.1,z.2.2⟩
section
variable {P:Program}{w:World}{H:Hp}{h:Heap}{a:Addr}
theorem zy4 {u:HO}(ok:HOk P w H h) (e:Rd H a u):ObjOk P w H h a u:=e.ok ok
theorem zb6 {kvs:List (Key×V)}(ok:HOk P w H h) (e:Rd H a (.dK kvs)):kvs.length≤sizeLine/\(a == sysModules)=false/\∃ vs,KV kvs vs/\h.DictOf (k6 P w) a vs :=
 show ObjOk P w H h a (.dK kvs) from zy4 ok e
theorem z7m {kvs:List (Key×V)}(ok:HOk P w H h) (e:H a=some (.dK kvs)):kvs.length≤sizeLine/\(a == sysModules)=false/\∃ vs,KV kvs vs/\h.DictOf (k6 P w) a vs:=zb6 ok (.inl e)
theorem z6o {ks:List Key}(ok:HOk P w H h) (e:H a=some (.tup (ks.map kV))):(tupleKind (k6 P w)).is h ks a:=by
 obtain ⟨_,its,r,o,h1,h2,n,h3⟩:=(show ObjOk P w H h a (.tup (ks.map kV)) from ok a _ e)
 exact ⟨o,its.toArray,n,h1,h2.1,h3,by simpa using z5k r⟩
theorem z9U {kvs:List (List Key×V)}(ok:HOk P w H h) (e:Rd H a (.dT kvs)):kvs.length≤sizeLine/\(a == sysModules)=false /\
 ∃ xs,KT H kvs xs/\h.DictOfH (tupleKind (k6 P w)) a xs:=by
 obtain ⟨z,y,xs,r,o,es,ep,h1,h2,h3,h4,h5⟩:=(show ObjOk P w H h a (.dT kvs) from zy4 ok e)
 refine ⟨z,y,xs,r,o,es,ep,h1,h2,h3,h4,fun x hx=>?_,h5⟩
 have all:∀ {l:List (List Key×V)} {m:List (List Key×Addr×Value)},KT H l m->∀ x∈m,(tupleKind (k6 P w)).is h x.1 x.2.1:=by
  intro l m q
  induction q with
  | nil=>intro x hx;exact nomatch hx
  | @cons p q ps qs hq t ih =>
   intro x hx
   rcases List.mem_cons.mp hx with e | hx
   ·subst e
    exact z6o ok (by rw [← hq.1];exact hq.2.1)
   ·exact ih x hx
 exact all r x hx
theorem zP3 {kvs:List (List Key×V)}(ok:HOk P w H h) (e:H a=some (.dT kvs)):kvs.length≤sizeLine/\(a == sysModules)=false /\
 ∃ xs,KT H kvs xs/\h.DictOfH (tupleKind (k6 P w)) a xs:=z9U ok (.inl e)
end
def DGet (H:Hp) (a:Addr) (y:V) (r:Option V):Prop :=
 (∃ kvs k,Rd H a (.dK kvs)/\y=kV k/\r=valV kvs k)∨∃ kvs k b,Rd H a (.dT kvs)/\y=.ref b/\H b=some (.tup (k.map kV))/\r=valV kvs k
def DPut (H:Hp) (a:Addr) (y v:V) (H':Hp):Prop :=
 (∃ kvs k,H a=some (.dK kvs)/\y=kV k/\kvs.length<sizeLine/\H'=upd H a (.dK (putK kvs k v))) ∨
 ∃ kvs k b,H a=some (.dT kvs)/\y=.ref b/\H b=some (.tup (k.map kV))/\kvs.length<sizeLine/\H'=upd H a (.dT (putK kvs k v))
theorem DPut.k {H:Hp}{a:Addr}{kvs:List (Key×V)}{k:Key}{v:V}(e:H a=some (.dK kvs)) (hl:kvs.length<sizeLine):DPut H a (kV k) v (upd H a (.dK (putK kvs k v))):=.inl ⟨kvs,k,e,rfl,hl,rfl⟩
section
variable {X:Cx}{pins:List (Addr×Obj)}{σ:St}{H:Hp}{s:Shared}{a:Addr}{y v:V}{u r:Value}{o:Option V}{A:Around}{E:Value->Shared->Prop}
theorem Inv.big (I:Inv X pins σ H s):sysModules<s.heap.objs.size:=by
 have h:mainGlobals<s.heap.objs.size:=(I.mod.glob.keeps I.bk).lt
 exact Nat.lt_trans (by decide) h
theorem z8a {Q:Value->Shared->Prop}(hu:A.units+1<cLine) (I:Inv X pins σ H s) (g:DGet H a y (some v)) (ry:RelV y u) (h:∀ w' s',Inv X pins σ H s'->RelV v w'->Q w' s') :
 wpAny (model X.prog X.w) A (getItem (.ref a) u) Q E s:=by
 rcases g with ⟨kvs,k,e,ey,l⟩ | ⟨kvs,k,b,e,ey,eb,l⟩
 ·subst ey
  obtain ⟨z,hd,vs,rel,dd⟩:=zb6 I.hok e
  obtain ⟨w',hw,rw'⟩:=RelO.some_of (v:=v) (o:=valueAt vs k) (by rw [l];exact rel.val k)
  exact wpAny_getItem_of (z7c ry) dd.mapOf hw (h w' _ (I.tok _) rw')
 ·subst ey
  cases (show u=Value.ref b from ry)
  obtain ⟨z,hd,xs,rel,dd⟩:=z9U I.hok e
  obtain ⟨w',hw,rw'⟩:=RelO.some_of (v:=v) (o:=(atKey xs k).map (·.2)) (by rw [l];exact rel.val k)
  obtain ⟨p,hp,hp2⟩:=Option.map_eq_some_iff.mp hw
  refine wpAny_getItem_heap (tupleKind_room_in1 hu) (z6o I.hok eb) dd hp ?_
  rw [hp2]
  exact h w' _ (I.tok _) rw'
theorem d_in {Q:Value->Shared->Prop}(hu:A.units+1<cLine) (I:Inv X pins σ H s) (g:DGet H a y o) (ry:RelV y u) (h:∀ s',Inv X pins σ H s'->Q (.bool o.isSome) s') :
 wpAny (model X.prog X.w) A (compareOp .In u (.ref a)) Q E s:=by
 rcases g with ⟨kvs,k,e,ey,l⟩ | ⟨kvs,k,b,e,ey,eb,l⟩
 ·subst ey
  obtain ⟨z,hd,vs,rel,dd⟩:=zb6 I.hok e
  refine wpAny_in_of (z7c ry) hd dd.mapOf ?_
  rw [← (rel.val k).isSome_eq,← l]
  exact h _ (I.tok _)
 ·subst ey
  cases (show u=Value.ref b from ry)
  obtain ⟨z,hd,xs,rel,dd⟩:=z9U I.hok e
  refine wpAny_in_heap (tupleKind_room_in1 hu) (z6o I.hok eb) hd dd ?_
  have q:=(rel.val k).isSome_eq
  rw [Option.isSome_map] at q
  rw [← q,← l]
  exact h _ (I.tok _)
theorem z32 {h':Heap}{t':Nat}{ob:HO}(I:Inv X pins σ H s) (mu:Mut (H a)) (hs:Heap.SameBut a s.heap h') (he:∃ q,h'.get? a=some q) (new:ObjOk X.prog X.w (upd H a ob) h' a ob) :
 Inv X pins σ (upd H a ob) { s with heap:=h',toks:=t' } :=
 I.write (x:=a) (e:=a) mu (.inl rfl) (fun b q hb z=>(hs.2 b hb).trans z) he new
theorem z8b {P:Program}{w:World}{H':Hp}{h':Heap}{kvs:List (Key×V)}{vs:List (Key×Value)}(z:kvs.length≤sizeLine) (hd:(a == sysModules)=false) (rel:KV kvs vs) (dd:h'.DictOf (k6 P w) a vs) :
 ObjOk P w H' h' a (.dK kvs):=⟨z,hd,vs,rel,dd⟩
theorem z7Q {H':Hp}{Q:Unit->Shared->Prop}(hu:A.units+1<cLine) (I:Inv X pins σ H s) (g:DPut H a y v H') (ry:RelV y u) (rv:RelV v r) (h:∀ s',Inv X pins σ H' s'->Q () s') :
 wpAny (model X.prog X.w) A (setItem (.ref a) u r) Q E s:=by
 rcases g with ⟨kvs,k,e,ey,l,eH⟩ | ⟨kvs,k,b,e,ey,eb,l,eH⟩
 ·subst ey eH
  obtain ⟨z,hd,vs,rel,dd⟩:=z7m I.hok e
  have hz:vs.length≤sizeLine:=by rw [← rel.length];exact z
  have hl:(putK kvs k v).length≤sizeLine:=by have:=z15 kvs k v;omega
  refine wpAny_setItem_pairs (hsz:=hz) (z7c ry) dd fun h' dd' hs=>h _ ?_
  have he:∃ q,h'.get? a=some q:=let ⟨q,_,_,hq,_⟩:=dd';⟨q,hq⟩
  exact z32 I (by rw [e];exact True.intro) hs he (z8b hl hd (rel.put k rv) dd')
 ·subst ey eH
  cases (show u=Value.ref b from ry)
  obtain ⟨z,hd,xs,rel,dd⟩:=zP3 I.hok e
  have hz:xs.length≤sizeLine:=by rw [← Paired.length rel];exact z
  have hl:(putK kvs k v).length≤sizeLine:=by have:=z15 kvs k v;omega
  refine wpAny_setItem_heap (hsz:=hz) (tupleKind_room_in1 hu) (z6o I.hok eb) dd fun h' dd' hs=>h _ ?_
  obtain ⟨q,es,ep,hq,h2,h3,h4,_,h5⟩:=dd'
  refine z32 I (by rw [e];exact True.intro) hs ⟨q,hq⟩ ⟨hl,hd,_,(rel.put k eb rv).keeps fun c ys ec=>?_,q,es,ep,hq,h2,h3,h4,h5⟩
  rw [y6 (zL5 ec e (fun z=>nomatch z))]
  exact ec
end
section
variable {X:Cx}{pins:List (Addr×Obj)}{σ:St}{H:Hp}{s:Shared}{a:Addr}{kvs:List (Key×V)}{k:Key}{u:Value}{A:Around}{E:Value->Shared->Prop}
end
def NoSl (i:Expr):Prop:=∀ ov iv,subscripted i false ov iv=operate [ov,iv] (getItem ov iv)
theorem zn9 {prog:Program}{w:World}{A:Around}{E:Value->Shared->Prop}{s:Shared}{env:Env}{value slice:Expr}{pos:Pos}{T id:String}{Q:Value->Shared->Prop}
 (hl:typeLookup (.type T) "__getitem__" = pure (some (.builtin id))) (hs:NoSl slice)
 (h:wpAny (model prog w) A (eval value env) (fun o s₁=>wpAny (model prog w) A (eval slice env) (fun i s₂=>s₂.TypeIs o T/\wpAny (model prog w) A (getItem o i) Q E s₂) E s₁) E s) :
 wpAny (model prog w) A (eval (.Subscript value slice pos) env) Q E s:=by
 refine Subscript_ (wpAny_mono h (fun o s₁ h₁=>wpAny_mono h₁ (fun i s₂ h₂=>?_) fun _ _ x=>x) fun _ _ x=>x)
 obtain ⟨hT,h₂⟩:=h₂
 unfold subscriptTail
 refine wpAny_bind ?_
 rw [getitemInPython_of_ne hT.not_modules]
 refine wpAny_bind (wpAny_specialOf hT hl ?_)
 have fin:wpAny (model prog w) A (subscripted slice false o i) (fun r s₃=>wpAny (model prog w) A (letTemporaryGo value o r >>= fun _=>pure r) Q E s₃) E s₂:=by
  rw [hs o i]
  exact wpAny_operating (wpAny_mono h₂ (fun r s₃ h₃=>wpAny_bind (wpAny_letTemporaryGo (wpAny_pure h₃))) fun _ _ x=>x)
 first
  | exact wpAny_pure (wpAny_bind fin)
  | exact wpAny_bind (wpAny_pure (wpAny_bind fin))
  | exact wpAny_bind fin
theorem z5M {X:Cx}{pins:List (Addr×Obj)}{σ:St}{H:Hp}{s:Shared}{a:Addr}{y:V}{o:Option V}(I:Inv X pins σ H s) (g:DGet H a y o):s.TypeIs (.ref a) "dict":=by
 rcases g with ⟨kvs,k,e,_,_⟩ | ⟨kvs,k,b,e,_,_,_⟩
 ·obtain ⟨_,_,vs,_,dd⟩:=zb6 I.hok e
  exact dd.typeIs
 ·obtain ⟨_,_,xs,_,dd⟩:=z9U I.hok e
  exact dd.typeIs
def zP1 (td ty:TE):TE:=fun σ H Q=>td σ H fun x H1=>ty σ H1 fun y H2=>∃ a v,x=.ref a/\DGet H2 a y (some v)/\Q v H2
section
variable {X:Cx}{o i e value:Expr}{pos pos' tpos:Pos}{td ty tv:TE}
theorem zo6 (hu:X.A.units+1<cLine) (ho:PE X o td) (hi:PE X i ty) (hs:NoSl i):PE X (.Subscript o i pos) (zP1 td ty):=by
 intro pins s σ H Q I h
 refine zn9 PySem.F.slot_dict_getitem.lookup hs (thn (ho pins s σ H _ I h) fun u s1 ⟨x,H1,I1,rx,q1⟩=>thn (hi pins s1 σ H1 _ I1 q1) fun iv s2 ⟨y,H2,I2,ry,a,v,ex,g,q2⟩=>?_)
 subst ex
 obtain rfl:u=Value.ref a:=rx
 exact ⟨z5M I2 g,z8a hu I2 g ry fun w' s3 I3 rw'=>⟨v,H2,I3,rw',q2⟩⟩
end
theorem z49 {P:Program}{w:World}{H:Hp}(h:Heap) (hb:sysModules<h.objs.size):ObjOk P w H (h.push { cls:=.type "dict",data:=.dict #[] }) h.objs.size (.dK []) :=
 ⟨Nat.zero_le _,beq_eq_false_iff_ne.mpr (Ne.symm (Nat.ne_of_lt hb)),[],.nil,Heap.DictOf.new h⟩
section
variable {X:Cx}{pos:Pos}
end
def z99:List (TE×TE)->St->Hp->(List (V×V)->Hp->Prop)->Prop
 | [],_,H,Q=>Q [] H
 | (tk,tv) :: r,σ,H,Q=>tk σ H fun x H1=>tv σ H1 fun y H2=>z99 r σ H2 fun ps H3=>Q ((x,y) :: ps) H3
abbrev VV:List (V×V)->List (Value×Value)->Prop:=Paired fun p q=>RelV p.1 q.1/\RelV p.2 q.2
def PPs (X:Cx) (pos:Pos) (keys:List (Option Expr)) (values:List Expr) (trs:List (TE×TE)):Prop :=
 ∀ (pins:List (Addr×Obj)) (s:Shared) (σ:St) (H:Hp) (Q:List (V×V)->Hp->Prop),Inv X pins σ H s->z99 trs σ H Q ->
  wpAny (model X.prog X.w) X.A (evalPairs (pairTrees keys values X.env pos)) (fun vs s'=>∃ ps H',Inv X pins σ H' s'/\VV ps vs/\Q ps H') X.xe s
theorem zs0 {X:Cx}{pos:Pos}:PPs X pos [] [] []:=fun pins s σ H Q I h=>pairTrees_nil_walk ⟨[],H,I,.nil,h⟩
theorem zb1 {X:Cx}{pos:Pos}{k v:Expr}{ks:List (Option Expr)}{vs:List Expr}{tk tv:TE}{trs:List (TE×TE)}(hk:PE X k tk) (hv:PE X v tv) (hr:PPs X pos ks vs trs) :
 PPs X pos (some k :: ks) (v :: vs) ((tk,tv) :: trs):=fun pins s σ H Q I h =>
 pairTrees_cons_walk (thn (hk pins s σ H _ I h) fun u s1 ⟨x,H1,I1,rx,q1⟩=>thn (hv pins s1 σ H1 _ I1 q1) fun w2 s2 ⟨y,H2,I2,ry,q2⟩ =>
  thn (hr pins s2 σ H2 _ I2 q2) fun ws s3 ⟨ps,H3,I3,rel,q3⟩=>⟨(x,y) :: ps,H3,I3,.cons ⟨rx,ry⟩ rel,q3⟩)
def z4C (kvs more:List (Key×V)):List (Key×V):=more.foldl (fun acc kv=>putK acc kv.1 kv.2) kvs
theorem KV.merge:∀ {more:List (Key×V)}{rs:List (Key×Value)}{kvs:List (Key×V)}{vs:List (Key×Value)},KV more rs->KV kvs vs->KV (z4C kvs more) (merged vs rs):=by
 intro more rs kvs vs r
 unfold KV at r
 induction r generalizing kvs vs with
 | nil=>intro q;exact q
 | @cons p q ps qs h t ih =>
  intro r0
  have e:KV (putK kvs p.1 p.2) (stored vs q.1 q.2):=by
   have:=r0.put p.1 h.2
   rw [← h.1];exact this
  exact ih e
theorem z2b:∀ (more kvs:List (Key×V)),(z4C kvs more).length≤kvs.length+more.length
 | [],kvs=>by show kvs.length≤kvs.length+0;omega
 | p :: r,kvs=>by
  have h1:=z2b r (putK kvs p.1 p.2)
  have h2:=z15 kvs p.1 p.2
  show (z4C (putK kvs p.1 p.2) r).length≤_
  rw [List.length_cons];omega
theorem z3v {P:Program}{w:World}:∀ {kvs:List (Key×V)}{ws:List (Value×Value)},VV (kvs.map fun kv=>(kV kv.1,kv.2)) ws->∃ rs,Carries (k6 P w) ws rs/\KV kvs rs
 | [],_,r=>by rw [List.map_nil] at r;cases r;exact ⟨[],True.intro,.nil⟩
 | p :: kvs,_,r=>by
  rw [List.map_cons] at r
  cases r with
  | @cons a b as bs h t =>
   obtain ⟨rs,c,q⟩:=z3v (P:=P) (w:=w) t
   obtain ⟨b1,b2⟩:=b
   exact ⟨(p.1,b2) :: rs,⟨z7c h.1,rfl,c⟩,.cons ⟨rfl,h.2⟩ q⟩
def zM6 (trs:List (TE×TE)):TE:=fun σ H Q=>∀ p,H p=none->z99 trs σ (upd H p (.dK [])) fun ps H2=>H2 p=some (.dK [])/\∃ kvs:List (Key×V),ps=kvs.map (fun kv=>(kV kv.1,kv.2))/\kvs.length≤15/\Q (.ref p) (upd H2 p (.dK (z4C [] kvs)))
theorem zj4 {X:Cx}{pos:Pos}{keys:List (Option Expr)}{values:List Expr}{trs:List (TE×TE)}(h:PPs X pos keys values trs) (hall:keys.all (·.isSome)=true) (hl:keys.length=values.length) (h0:keys≠[])
 (h15:keys.length≤15):PE X (.Dict keys values pos) (zM6 trs):=by
 intro pins s σ H Q I q
 have hn:=I.hok.fresh (Nat.le_refl s.heap.objs.size)
 have I1:=I.laid (a:=s.heap.objs.size) (o:=.dK []) (h':=s.heap.push { cls:=.type "dict",data:=.dict #[] }) (t':=s.toks) (fun _ _ q=>Heap.get?_push_of_some _ q) (Nat.le_refl _) (z49 s.heap I.big)
 refine wpAny_Dict_walk (knd:=k6 X.prog X.w) hall hl h0 h15 (thn (h pins _ σ _ _ I1 (q _ hn)) fun ws s2 ⟨ps,H2,I2,rel,e,kvs,ep,lk,q2⟩=>?_)
 subst ep
 obtain ⟨rs,c,rk⟩:=z3v (P:=X.prog) (w:=X.w) rel
 obtain ⟨z,hd,vs0,r0,dd⟩:=z7m I2.hok e
 cases r0
 refine ⟨rs,c,dd,fun h' dd' hs=>⟨.ref s.heap.objs.size,_,?_,rfl,q2⟩⟩
 have hz:(z4C [] kvs).length≤sizeLine:=by
  have h1:=z2b kvs []
  rw [List.length_nil] at h1
  rw [sizeLine_eq];omega
 have he:∃ q,h'.get? s.heap.objs.size=some q:=let ⟨q,_,_,hq,_⟩:=dd';⟨q,hq⟩
 exact z32 I2 (by rw [e];exact True.intro) hs he (z8b hz hd (rk.merge .nil) dd')
section
variable {X:Cx}{pins:List (Addr×Obj)}{σ:St}{H:Hp}{s:Shared}{a:Addr}{y d:V}{u r:Value}{o:Option V}{A:Around}{E:Value->Shared->Prop}
end
section
variable {X:Cx}{o e f:Expr}{apos cpos:Pos}{td ty tx:TE}
end
end L2
namespace FT
open PySem PySem.Spec PyProof.Rows L2
def lkD (kvs:List (Key×D)) (k:Key):Option D:=(kvs.find? fun kv=>decide (kv.1=k)).map (·.2)
def ptD (kvs:List (Key×D)) (k:Key) (v:D):List (Key×D) :=
 if (kvs.any fun kv=>decide (kv.1=k))=true then kvs.map (fun kv=>if kv.1=k then (kv.1,v) else kv) else kvs++[(k,v)]
section
variable {K:PySem.W.Frag}{ρ:List Addr}{H:Hp}
theorem RK.len:∀ {kvs:List (Key×D)}{vs:List (Key×V)},RK K ρ H kvs vs->kvs.length=vs.length
 | _,_,.nil=>rfl
 | _,_,.cons _ b=>by simp [RK.len b]
theorem RK.lk (k:Key):∀ {kvs:List (Key×D)}{vs:List (Key×V)},RK K ρ H kvs vs->(lkD kvs k=none/\valV vs k=none)∨∃ d v,lkD kvs k=some d/\valV vs k=some v/\RD K ρ H d v
 | _,_,.nil=>.inl ⟨rfl,rfl⟩
 | p :: kvs,q :: vs,.cons a b=>by
  by_cases e:p.1=k
  ·refine .inr ⟨p.2,q.2,by simp [lkD,List.find?_cons,e],z2T (a.1.symm.trans e),a.2⟩
  ·rw [z2R (fun z=>e (a.1.trans z))]
   have:lkD (p :: kvs) k=lkD kvs k:=by simp [lkD,List.find?_cons,e]
   rw [this]
   exact RK.lk k b
theorem RK.any (k:Key):∀ {kvs:List (Key×D)}{vs:List (Key×V)},RK K ρ H kvs vs->(kvs.any fun kv=>decide (kv.1=k))=vs.any fun kv=>decide (kv.1=k)
 | _,_,.nil=>rfl
 | _,_,.cons a b=>by rw [List.any_cons,List.any_cons,RK.any k b,a.1]
theorem RK.rep (k:Key) {d:D}{v:V}(r:RD K ρ H d v):∀ {kvs:List (Key×D)}{vs:List (Key×V)},RK K ρ H kvs vs->RK K ρ H (kvs.map (fun kv=>if kv.1=k then (kv.1,d) else kv)) (vs.map (fun kv=>if kv.1=k then (kv.1,v) else kv))
 | _,_,.nil=>.nil
 | p :: kvs,q :: vs,.cons a b=>by
  rw [List.map_cons,List.map_cons]
  refine .cons ?_ (RK.rep k r b)
  by_cases e:p.1=k
  ·rw [if_pos e,if_pos (a.1.symm.trans e)];exact ⟨a.1,r⟩
  ·rw [if_neg e,if_neg (fun z=>e (a.1.trans z))];exact a
theorem RK.snoc {k:Key}{d:D}{v:V}(r:RD K ρ H d v):∀ {kvs:List (Key×D)}{vs:List (Key×V)},RK K ρ H kvs vs->RK K ρ H (kvs++[(k,d)]) (vs++[(k,v)])
 | _,_,.nil=>.cons ⟨rfl,r⟩ .nil
 | _,_,.cons a b=>.cons a (RK.snoc r b)
theorem RK.put (k:Key) {d:D}{v:V}(r:RD K ρ H d v) {kvs:List (Key×D)}{vs:List (Key×V)}(q:RK K ρ H kvs vs):RK K ρ H (ptD kvs k d) (L2.putK vs k v):=by
 unfold ptD L2.putK
 rw [q.any k]
 split
 ·exact q.rep k r
 ·exact q.snoc r
theorem z75 {d:D}{k:Key}{v:V}(e:keyD d=some k) (r:RD K ρ H d v):v=kV k:=by
 cases d<;>simp only [keyD] at e<;>first | (cases e;simp only [RD] at r;exact r) | cases e
end
def getK (n:Nat):M (List (Key×D)):=fun h=>match h[n]? with
 | some (.dK kvs)=>.ok kvs h
 | some (.dF kvs)=>.ok kvs h
 | _=>.bad
def dicD:D->M (List (Key×D))
 | .ref n=>getK n
 | _=>bad
def z2I:D->D->M D:=fun x y=>do
 let kvs ← dicD x
 match keyD y with
 | some k=>(match lkD kvs k with
  | some d=>pure d
  | none=>bad)
 | none=>bad
def fInD (neg:Bool):D->D->M D:=fun y x=>do
 let kvs ← dicD x
 match keyD y with
 | some k=>pure (.bl ((lkD kvs k).isSome != neg))
 | none=>bad
def z52:D->D->D->M Unit:=fun o i v=>match o with
 | .ref n=>(match keyD i with
  | some k=>fun h=>match h[n]? with
   | some (.dK kvs)=>if kvs.length<sizeLine then .ok () (h.set n (.dK (ptD kvs k v))) else .bad
   | _=>.bad
  | none=>bad)
 | _=>bad
def gDx (mo mi:G->M D):D->G->M G:=fun v γ=>do
 let o ← mo γ
 let i ← mi γ
 let _ ← z52 o i v
 pure γ
section
variable {X:Cx}{EX:XX}{a o i e f:Expr}{pos apos cpos:Pos}{mo mi ma mb:G->M D}
theorem z6a {K:PySem.W.Frag}{ρ:List Addr}{h:AH}{H:Hp}{x:D}{u:V}{Z:List (Key×D)->List Addr->AH->Hp->Prop}(r:RH K ρ h H) (rx:RD K ρ H x u) (fin:Fin K EX ρ H Z (dicD x h)):∃ n a kvs vs,x=.ref n/\u=.ref a/\ρ[n]?=some a/\(h[n]?=some (.dK kvs)∨h[n]?=some (.dF kvs))/\Rd H a (.dK vs)/\RK K ρ H kvs vs/\Z kvs ρ h H:=by
 cases x<;>first | exact (show False from fin).elim | skip
 rename_i n
 simp only [RD] at rx
 obtain ⟨a,rfl,hq⟩:=rx
 unfold dicD getK at fin
 dsimp only at fin
 cases e:h[n]? with
 | none=>rw [e] at fin;exact fin.elim
 | some ob =>
  cases ob with
  | lst xs=>rw [e] at fin;exact fin.elim
  | set xs=>rw [e] at fin;exact fin.elim
  | dct=>rw [e] at fin;exact fin.elim
  | exc c=>rw [e] at fin;exact fin.elim
  | dK kvs =>
   rw [e] at fin
   obtain ⟨a1,n1,vs,o1,d1⟩:=r.at e
   rw [hq] at n1;cases n1
   exact ⟨n,a,kvs,vs,rfl,rfl,hq,.inl e,.inl o1,d1,fin ρ H (Pre.refl _) (Ext.refl _ _) r⟩
  | dF kvs =>
   rw [e] at fin
   obtain ⟨a1,n1,ob,vs,o1,d1⟩:=r.at e
   rw [hq] at n1;cases n1
   exact ⟨n,a,kvs,vs,rfl,rfl,hq,.inr e,.inr ⟨ob,o1⟩,d1,fin ρ H (Pre.refl _) (Ext.refl _ _) r⟩
theorem z1L (hu:X.A.units+1<cLine) (ha:SE X EX o mo) (hb:SE X EX i mi) (hs:NoSl i:=by intro _ _;rfl):SE X EX (.Subscript o i pos) (e2 z2I mo mi) :=
 ⟨PE.imp (zo6 hu ha.h hb.h hs) fun σ H Q ⟨ρ,γ,h,rel,fin⟩=>⟨ρ,γ,h,rel,(Fin.bind fin).mono fun x ρ1 h1 H1 p1 e1 r1 f1 v rv=>⟨ρ1,γ,h1,⟨rel.g.mono p1 e1,r1⟩,(Fin.bind f1).mono fun y ρ2 h2 H2 p2 e2 r2 f2 w rw'=>by
  obtain ⟨n,ad,kvs,vs,rfl,rfl,hn,hk,hH,rk,f3⟩:=z6a r2 (rv.mono p2 e2) (Fin.bind f2)
  cases ek:keyD y with
  | none=>rw [ek] at f3;exact f3.elim
  | some k =>
   rw [ek] at f3
   have:=z75 ek rw'
   subst this
   rcases rk.lk k with ⟨z1,_⟩ | ⟨d,u,z1,z2,rd⟩
   ·dsimp only at f3;rw [z1] at f3;exact f3.elim
   ·dsimp only at f3
    rw [z1] at f3
    refine ⟨ad,u,rfl,?_,FE.here f3 r2 rd⟩
    rw [← z2]
    exact .inl ⟨vs,k,hH,rfl,rfl⟩⟩⟩⟩
def rInD (neg:Bool):R2:=fun y x H Q=>∃ ad ov,x=.ref ad/\DGet H ad y ov/\Q (.bl (ov.isSome != neg)) H
theorem zB5 (hu:X.A.units+1<cLine):OpR X (compareOp .In) (rInD false):=by
 intro pins s σ H x y v u Q I rx ry h
 obtain ⟨ad,ov,rfl,g,q⟩:=h
 cases ry
 rw [Bool.bne_false] at q
 exact d_in hu I g rx fun s' I'=>⟨.bl _,H,I',rfl,q⟩
theorem zH9 {neg:Bool}:BR X.K EX (rInD neg) (fInD neg):=by
 intro ρ h H y x w v Q r ry rx fin
 obtain ⟨n,ad,kvs,vs,rfl,rfl,hn,hk,hH,rk,f3⟩:=z6a r rx (Fin.bind fin)
 cases ek:keyD y with
 | none=>rw [ek] at f3;exact f3.elim
 | some k =>
  rw [ek] at f3
  have:=z75 ek ry
  subst this
  refine ⟨ad,valV vs k,rfl,.inl ⟨vs,k,hH,rfl,rfl⟩,?_⟩
  have:(valV vs k).isSome=(lkD kvs k).isSome:=by
   rcases rk.lk k with ⟨z1,z2⟩ | ⟨d,u,z1,z2,_⟩<;>rw [z1,z2]<;>rfl
  rw [this]
  exact FE.here f3 r (by simp [RD])
theorem zi1 (hu:X.A.units+1<cLine):CO X EX .In (fInD false):=⟨_,zB5 hu,zH9⟩
def zN3:V->V->V->Hp->(Hp->Prop)->Prop:=fun o i v H Q=>∃ ad H',o=.ref ad/\DPut H ad i v H'/\Q H'
theorem set_dict (hu:X.A.units+1<cLine):PSet X zN3:=by
 intro pins s σ H o i v ov iv u Q I ro ri rv h
 obtain ⟨ad,H',rfl,g,q⟩:=h
 cases ro
 exact z7Q hu I g ri rv fun s' I'=>⟨H',I',q⟩
theorem zL6 (hu:X.A.units+1<cLine) (ho:SE X EX o mo) (hi:SE X EX i mi)
 (ha:∀ v,assign (.Subscript o i pos) X.env v=(do
  let ov ← holding [v] (eval o X.env)
  let iv ← holding [v,ov] (eval i X.env)
  standAt pos
  holding [v,ov,iv] (setItem ov iv v)
  release [v,ov,iv] []):=by intro _;rfl):SG X EX (.Subscript o i pos) (gDx mo mi) :=
 ⟨PG.imp (zf0 ho.h hi.h (set_dict hu) ha) fun v σ H Q ⟨ρ,γ,h,d,rel,rd,fin⟩=>⟨ρ,γ,h,rel,(Fin.bind fin).mono fun od ρ1 h1 H1 p1 e1 r1 f1 ov ro=>⟨ρ1,γ,h1,⟨rel.g.mono p1 e1,r1⟩,(Fin.bind f1).mono fun id ρ2 h2 H2 p2 e2 r2 f2 iv ri=>by
  have f3:=Fin.bind f2
  cases od<;>first | exact (show False from f3).elim | skip
  rename_i n
  unfold z52 at f3
  dsimp only at f3
  cases ek:keyD id with
  | none=>rw [ek] at f3;exact f3.elim
  | some k =>
   rw [ek] at f3
   have:=z75 ek ri
   subst this
   simp only [RD] at ro
   obtain ⟨q,rfl,hq⟩:=ro
   have hq2:=p2 n q hq
   dsimp only at f3
   cases e4:h2[n]? with
   | none=>rw [e4] at f3;exact f3.elim
   | some ob =>
    cases ob with
    | lst xs=>rw [e4] at f3;exact f3.elim
    | set ks=>rw [e4] at f3;exact f3.elim
    | dct=>rw [e4] at f3;exact f3.elim
    | exc c=>rw [e4] at f3;exact f3.elim
    | dF c=>rw [e4] at f3;exact f3.elim
    | dK kvs =>
     rw [e4] at f3
     dsimp only at f3
     split at f3
     ·rename_i hl
      obtain ⟨a1,n1,vs,o1,d1⟩:=r2.at e4
      rw [hq2] at n1;cases n1
      have rv:=(rd.mono p1 e1).mono p2 e2
      refine ⟨q,_,rfl,DPut.k o1 (by rw [← d1.len];exact hl),?_⟩
      have ext:Ext X.K H2 (upd H2 q (.dK (L2.putK vs k v))):=Ext.upd (.inr ⟨_,o1,trivial⟩)
      have r3:RH X.K ρ2 (h2.set n (.dK (ptD kvs k d))) (upd H2 q (.dK (L2.putK vs k v))):=r2.setO e4 hq2 ⟨_,y0,(d1.put k rv).mono (Pre.refl _) ext⟩
      exact f3 ρ2 _ (Pre.refl _) ext r3 ρ2 _ (Pre.refl _) (Ext.refl _ _) r3 σ (((rel.g.mono p1 e1).mono p2 e2).mono (Pre.refl _) ext)
     ·exact f3.elim⟩⟩⟩
end
def orM {α:Type} (m n:M α):M α:=fun h=>match m h with
 | .bad=>n h
 | r=>r
def orE {α:Type} (m n:G->M α):G->M α:=fun γ=>orM (m γ) (n γ)
section
variable {X:Cx}{EX:XX}{e tg:Expr}
theorem z6G {α:Type}(m n:M α) (h:AH):orM m n h=m h∨orM m n h=n h:=by
 unfold orM
 cases m h with
 | bad=>exact .inr rfl
 | ok a b=>exact .inl rfl
 | err a b=>exact .inl rfl
theorem zG5 {m n:G->M D}(a:SE X EX e m) (b:SE X EX e n):SE X EX e (orE m n) :=
 ⟨fun pins s σ H Q I ⟨ρ,γ,h,rel,fin⟩=>by
  rcases z6G (m γ) (n γ) h with z | z<;>rw [show orE m n γ h=orM (m γ) (n γ) h from rfl,z] at fin
  ·exact a.h pins s σ H Q I ⟨ρ,γ,h,rel,fin⟩
  ·exact b.h pins s σ H Q I ⟨ρ,γ,h,rel,fin⟩⟩
theorem ze1 {m n:G->M Src}(a:SI X EX tg e m) (b:SI X EX tg e n):SI X EX tg e (orE m n) :=
 ⟨fun pins s σ H Q I ⟨ρ,γ,h,rel,fin⟩=>by
  rcases z6G (m γ) (n γ) h with z | z<;>rw [show orE m n γ h=orM (m γ) (n γ) h from rfl,z] at fin
  ·exact a.h pins s σ H Q I ⟨ρ,γ,h,rel,fin⟩
  ·exact b.h pins s σ H Q I ⟨ρ,γ,h,rel,fin⟩⟩
end
theorem or_l {α:Type}{m n:G->M α}{γ:G}{h h1:AH}{v:α}(e:m γ h=.ok v h1):orE m n γ h=.ok v h1:=by unfold orE orM;rw [e]
theorem or_r {α:Type}{m n:G->M α}{γ:G}{h:AH}(e:m γ h=.bad):orE m n γ h=n γ h:=by unfold orE orM;rw [e]
theorem or_b {α:Type}{m n:G->M α}{γ:G}(e:m γ=bad):orE m n γ=n γ:=funext fun h=>or_r (by rw [e];rfl)
theorem W_of {α:Type}{m:M α}{h h1:AH}{v:α}{Q:α->AH->Prop}(e:m h=.ok v h1) (q:Q v h1):W m h Q:=⟨_,_,e,q⟩
def kvN (l:List Nat):List (Key×D):=l.map fun (i:Nat)=>(.inl (i:Int),.bl true)
def putN (acc:List Nat) (k:Nat):List Nat:=if k∈acc then acc else acc++[k]
def dedN (l:List Nat):List Nat:=l.foldl putN []
theorem z9z {a:List Nat}{k x:Nat}:x∈putN a k↔x∈a∨x=k:=by
 unfold putN
 split
 ·exact ⟨.inl,fun h=>h.elim id fun e=>by subst e;assumption⟩
 ·simp
theorem zq8 {a:List Nat}{k:Nat}(h:a.Nodup):(putN a k).Nodup:=by
 unfold putN
 split
 ·exact h
 ·exact z7R h ‹_›
theorem z6p {x:Nat}:∀ {l a:List Nat},x∈l.foldl putN a↔x∈a∨x∈l
 | [],a=>by simp
 | k :: l,a=>by rw [List.foldl_cons,z6p,z9z,List.mem_cons];exact or_assoc
theorem z8X:∀ {l a:List Nat},a.Nodup->(l.foldl putN a).Nodup
 | [],_,h=>h
 | _ :: l,_,h=>z8X (l:=l) (zq8 h)
theorem dedN_mem {l:List Nat}{x:Nat}:x∈dedN l↔x∈l:=by unfold dedN;rw [z6p];simp
theorem z8U (l:List Nat):(dedN l).Nodup:=z8X List.nodup_nil
theorem z7V:∀ (l a:List Nat),(kN l).foldl putK (kN a)=kN (l.foldl putN a)
 | [],a=>rfl
 | k :: l,a=>by
  have e:putK (kN a) (.inl (k:Int))=kN (putN a k):=by
   unfold putN
   split
   ·rename_i h
    unfold putK
    rw [if_pos (kN_mem.mpr h)]
   ·exact zx2 ‹_›
  show (kN l).foldl putK (putK (kN a) (.inl (k:Int)))=_
  rw [e]
  exact z7V l (putN a k)
theorem zg4 (l:List Nat):dedK (kN l)=kN (dedN l):=z7V l []
theorem z9I {l:List Nat}{n:Nat}(h:∀ x∈l,x<n):(dedN l).length≤n:=z8y (z8U l) fun x hx=>h x (dedN_mem.mp hx)
theorem z5t:∀ l:List Nat,z4d (stD l)=some (kN l)
 | []=>rfl
 | a :: l=>by
  have:z4d (stD (a :: l))=(match keyD (.int (a:Int)),z4d (stD l) with
   | some k,some ks=>some (k :: ks)
   | _,_=>none):=rfl
  rw [this,z5t l];rfl
def setN (l:List Nat):List Nat:=z16 (dedN l)
theorem z2N {l:List Nat}{x:Nat}:x∈setN l↔x∈l:=by unfold setN;rw [z3n,dedN_mem]
theorem z58 (l:List Nat):(setN l).Pairwise (·<·):=z2p (z8U l)
theorem z43 {l:List Nat}(h:l.Pairwise (·<·)):l.Nodup:=h.imp fun h=>Nat.ne_of_lt h
theorem z6f {l m:List Nat}(a:l.Pairwise (·<·)) (b:m.Pairwise (·<·)) (h:∀ x,x∈l↔x∈m):l=m :=
 ((List.perm_ext_iff_of_nodup (z43 a) (z43 b)).mpr h).eq_of_pairwise (fun _ _ _ _ h1 h2=>absurd h2 (Nat.lt_asymm h1)) a b
theorem z9T {l m:List Nat}(h:∀ x,x∈l↔x∈m):setN l=setN m:=z6f (z58 l) (z58 m) fun x=>by rw [z2N,z2N];exact h x
theorem zI7 {l:List Nat}{n:Nat}(h:∀ x∈l,x<n):(setN l).length≤n:=by unfold setN;rw [x9];exact z9I h
section
variable {ma me:G->M D}{mt:G->M Out}{γ:G}{h:AH}{a b i:Nat}{xs:List D}{v:D}{Q:Out->AH->Prop}
theorem z9a (e:h[i]?=some (.lst xs)):z1J (.ref i) h=.ok i h:=by unfold z1J;dsimp only;rw [e]
theorem zb5 (e:h[i]?=some (.lst xs)) (hl:xs.length<1000000):y8 i v h=.ok .non (h.set i (.lst (xs++[v]))):=by
 unfold y8 updL
 rw [e]
 dsimp only
 rw [if_pos (by simp [sizeLine];omega)]
theorem ze6 (ea:γ[a]?=some (some (.ref i))) (e:h[i]?=some (.lst xs)) (hl:xs.length<1000000) (ev:me γ h=.ok v h) (z:W (mt γ) (h.set i (.lst (xs++[v]))) Q):W (z9 (z0t (eM1 y8 (eVar a) me)) mt γ) h Q:=by
 refine zf7 ?_
 have e1:eVar a γ=pure (.ref i):=by unfold eVar;rw [ea]
 unfold eM1
 rw [e1,z0Q,Z8]
 refine W_of (z9a e) ?_
 rw [Z8]
 exact W_of ev (W_of (zb5 e hl) z)
theorem zC0 (hl:xs.length≤1000000) (ev:∀ h,me γ h=newL xs h) (z:W (mt (γ.set a (some (.ref h.length)))) (h++[.lst xs]) Q):W (z9 (sAsg me (gN a)) mt γ) h Q:=by
 refine z8g ?_
 have:me γ=newL xs:=funext ev
 rw [this]
 exact zx0 hl z
theorem z00 {f:List D->M D}{d:D}{h1:AH}{r:Res D}(e:me γ h=.ok d h1) (e2:f [d] h1=r):Z5 f (z8 me aNil) γ h=r:=by
 have:z8 me aNil γ h=.ok [d] h1:=by
  show (me γ >>= fun x=>(do let r ← aNil γ;pure (x :: r):M (List D))) h=_
  rw [M.bind_ok e];rfl
 show (z8 me aNil γ >>= f) h=_
 rw [M.bind_ok this];exact e2
theorem zt5 (e:h[i]?=some (.lst xs)):Y3 [.ref i] h=.ok (.tup xs) h:=by
 have ft:Y3 [.ref i]=(do let x ← getL i;pure (.tup x)):=rfl
 have g:getL i h=.ok xs h:=by unfold getL;rw [e]
 rw [ft,M.bind_ok g];rfl
theorem zM1 (e:h[i]?=some (.lst xs)):fLen [.ref i] h=.ok (.int xs.length) h:=by
 have ft:fLen [.ref i]=(do let x ← getL i;pure (.int x.length)):=rfl
 have g:getL i h=.ok xs h:=by unfold getL;rw [e]
 rw [ft,M.bind_ok g];rfl
theorem ix_h {t:Int}{d:D}(e:h[i]?=some (.lst xs)) (a:atI xs t=some d):fIx (.ref i) (.int t) h=.ok d h:=by
 have ft:fIx (.ref i) (.int t)=(do let xs ← getL i;match atI xs t with | some d=>pure d | none=>bad):=rfl
 have g:getL i h=.ok xs h:=by unfold getL;rw [e]
 rw [ft,M.bind_ok g,a];rfl
theorem zL9 {ss:List Str}(e:h[i]?=some (.lst (ss.map .str))) (hl:ss.length<64):z0Y [.ref i] h=.ok (.ref h.length) (h++[.lst ((z1i ss).map .str)]):=by
 have fs:z0Y [.ref i]=(do
  let xs ← getL i
  if xs.length<64 then (match z2J xs with
   | some ss=>newL ((z1i ss).map .str)
   | none=>(match z1x xs with
    | some ns=>newL ((sortI ns).map .int)
    | none=>bad)) else bad):=rfl
 have g:getL i h=.ok (ss.map .str) h:=by unfold getL;rw [e]
 rw [fs,M.bind_ok g,if_pos (by simpa using hl),strs_map]
 dsimp only
 unfold newL
 rw [if_pos (by rw [List.length_map,z53];unfold sizeLine;omega)]
theorem z7M (e:me γ h=.ok (.ref h.length) (h++[.lst xs])) (c:w6 0 xs=true):clE (Z5 Y3 (z8 me aNil)) γ h=.ok (.tup xs) h :=
 z1a (j:=[.lst xs]) (z00 e (zt5 (by simp))) (by simp only [J7];exact z1j (Nat.zero_le _) c)
theorem cb_h {b:Bool}{h1:AH}(e:me γ h=.ok (.bl b) h1):(fun γ=>(do let d ← me γ;asB d:M Bool)) γ h=.ok b h1:=by
 dsimp only
 rw [M.bind_ok e];rfl
theorem z6Z {n:Nat}{mb:G->M Out}{ds:List D}{d:D}{h1:AH}(z:W (mb (z1c n ds)) h (runW fun a h'=>a=d/\h'=h1)):runF n mb ds h=.ok d h1:=by
 obtain ⟨_,_,a,rfl,rfl⟩:=z5U z
 exact a
end
theorem z5w {f:D->D->Option Bool}{ι:Type} [DecidableEq ι] {enc:ι->D}(e:∀ a b,f (enc a) (enc b)=some (decide (a=b))):∀ l m:List ι,eqZ f (l.map enc) (m.map enc)=some (decide (l=m))
 | [],[]=>by simp [eqZ]
 | [],b :: m=>by simp [eqZ]
 | a :: l,[]=>by simp [eqZ]
 | a :: l,b :: m=>by
  rw [List.map_cons,List.map_cons]
  unfold eqZ
  rw [e a b,z5w e l m]
  dsimp only
  congr 1
  rw [Bool.eq_iff_iff]
  simp
theorem z3d {n:Nat}{h:AH}(a b:Nat):eqN (n+1) h (.int a) (.int b)=some (decide (a=b)):=by
 show some ((a:Int) == (b:Int))=_
 congr 1
 rw [Bool.eq_iff_iff,beq_iff_eq,decide_eq_true_eq]
 exact Int.ofNat_inj
theorem z8F {n:Nat}{h:AH}(a b:Str):eqN (n+1) h (.str a) (.str b)=some (decide (a=b)):=by
 show some (a == b)=_
 congr 1
theorem z30 {ι:Type} [DecidableEq ι] {enc:ι->D}{n:Nat}{h:AH}(e:∀ a b,eqN n h (enc a) (enc b)=some (decide (a=b))) (l m:List ι):eqN (n+1) h (.tup (l.map enc)) (.tup (m.map enc))=some (decide (l=m)):=z5w e l m
theorem zq6 {ι:Type} [DecidableEq ι] {enc:ι->D}{n:Nat}{h:AH}(e:∀ a b,eqN n h (enc a) (enc b)=some (decide (a=b))) {l m:List ι}{i j:Nat}(hi:h[i]?=some (.lst (l.map enc))) (hj:h[j]?=some (.lst (m.map enc))):eqN (n+1) h (.ref i) (.ref j)=some (decide (l=m)):=by
 have v1:vw h (.ref i)=.lst (l.map enc):=by unfold vw;dsimp only;rw [hi]
 have v2:vw h (.ref j)=.lst (m.map enc):=by unfold vw;dsimp only;rw [hj]
 unfold eqN
 rw [v1,v2]
 exact z5w e l m
theorem zf2 {neg:Bool}{h:AH}{x y:D}{b:Bool}(e:eqN 24 h x y=some b):fEqX neg x y h=.ok (.bl (b != neg)) h:=by
 unfold fEqX;rw [e]
theorem zR1 {l m:List Nat}{neg:Bool}:fEqX neg (.tup (stD l)) (.tup (stD m))=pure (.bl (decide (l=m) != neg)):=funext fun h=>zf2 (z30 (enc:=fun (i:Nat)=>.int i) z3d l m)
theorem zM2 {l m:List Nat}{neg:Bool}{h:AH}{i j:Nat}(hi:h[i]?=some (.lst (stD l))) (hj:h[j]?=some (.lst (stD m))):fEqX neg (.ref i) (.ref j) h=.ok (.bl (decide (l=m) != neg)) h:=zf2 (zq6 (enc:=fun (i:Nat)=>.int i) z3d hi hj)
section
variable {ma mb:G->M D}{γ:G}{h h1 h2:AH}
theorem e2_h {f:D->D->M D}{x y:D}{r:Res D}(e1:ma γ h=.ok x h1) (e2':mb γ h1=.ok y h2) (e3:f x y h2=r):e2 f ma mb γ h=r:=by
 show (ma γ >>= fun x=>(mb γ >>= fun y=>f x y)) h=_
 rw [M.bind_ok e1,M.bind_ok e2',e3]
theorem fn_h {n:Nat}{f:List D->M D}{mr:G->M (List D)}{ds:List D}{r:Res D}(e:mr γ h=.ok ds h1) (hn:ds.length=n) (e2:f ds h1=r):eFn n f mr γ h=r:=by
 show (mr γ >>= fun xs=>if xs.length=n then f xs else bad) h=_
 rw [M.bind_ok e,if_pos hn,e2]
theorem ac_h {mr:G->M (List D)}{d:D}{ds:List D}(e:ma γ h=.ok d h1) (e2:mr γ h1=.ok ds h2):z8 ma mr γ h=.ok (d :: ds) h2:=by
 show (ma γ >>= fun x=>(mr γ >>= fun r=>(pure (x :: r):M (List D)))) h=_
 rw [M.bind_ok e,M.bind_ok e2];rfl
end
end FT
set_option maxHeartbeats 1600000
namespace FT
open PySem PySem.Spec PyProof.Rows L2
section
variable {prog:Program}{w:World}{A:Around}{E:Value->Shared->Prop}{s:Shared}
theorem z7P:∀ {vs:List Value}{ns:List Int},IntsAre vs ns->∀ i (h1:i<vs.length) (h2:i<ns.length),∃ t,vs[i]=.int ns[i] t
 | _,_,.nil,i,h1,_=>by simp at h1
 | _,_,.cons n t r,0,_,_=>⟨t,rfl⟩
 | _,_,.cons n t r,i+1,h1,h2=>by simpa using z7P r i (by simpa using h1) (by simpa using h2)
theorem z2G {t:Addr}{vs:List Value}{ns:List Int}{k:Int}{tk:Tok}{Q:Value->Shared->Prop}(ht:IsTup s.heap t vs.toArray) (hi:IntsAre vs ns) (hk:k∈ns) (h:Q (.int (ns.idxOf k:Nat) s.toks) { s with toks:=s.toks+1 }) :
 wpAny (model prog w) A (call (.builtin "tuple.index") [.ref t,.int k tk]) Q E s:=by
 have hT:s.heap.IsTuple t vs.toArray:=ht
 have hlen:=hi.length
 have hj:ns.idxOf k<ns.length:=List.idxOf_lt_length_iff.mpr hk
 obtain ⟨o,ho,hc,n,hd⟩:=id hT
 refine wpAny_call_entry F.slot_tuple_index ⟨o,ho,hc⟩ F.entry_tuple_index ?_ (F.args_tuple_index_2 _ _)
 unfold Builtin.«tuple.index»
 wp_walk
 rw [hd]
 refine wpAny_pure ?_
 refine wpAny_pure ?_
 dsimp only
 refine wpAny_bind (wpAny_pure ?_)
 refine wpAny_bind (wpAny_pure ?_)
 refine wpAny_bind ?_
 rw [Std.Legacy.Range.forIn_eq_forIn_range']
 simp only [Std.Legacy.Range.size,Nat.sub_zero,Nat.add_sub_cancel,Nat.div_one,Nat.min_self,List.size_toArray]
 refine wpAny_forIn_list _
  (fun rest b s'=>s'=s/\b=(none,())/\∃ i,rest=List.range' i (vs.length - i)/\i≤ns.idxOf k)
  _ ?_ ?_ _ _ ⟨rfl,rfl,0,by simp,Nat.zero_le _⟩
 ·rintro x rest b s' ⟨rfl,rfl,i,hr,hle⟩
  have hlt:i<vs.length:=by omega
  obtain ⟨rfl,hrest⟩:x=i/\rest=List.range' (i+1) (vs.length - (i+1)):=by
   have e:vs.length - i=(vs.length - (i+1))+1:=by omega
   rw [e,List.range'_succ] at hr
   injection hr with h1 h2
   exact ⟨h1,h2⟩
  have e1:vs.toArray[x]?=some vs[x]:=by simp [hlt]
  rw [e1]
  dsimp only
  obtain ⟨tk2,e2⟩:∃ tk2,vs[x]=.int (ns[x]'(by omega)) tk2:=z7P hi x hlt (by omega)
  rw [e2]
  refine wpAny_bind (wpAny_eqBool_int ?_)
  by_cases e3:x=ns.idxOf k
  ·have e4:ns[x]'(by omega)=k:=by subst e3;exact List.getElem_idxOf hj
   rw [e4,if_pos (by simp)]
   subst e3
   wp_walk
   exact ⟨_,rfl,h⟩
  ·have e4:(ns[x]'(by omega) == k)=false:=ne_of_lt_idxOf (show x<ns.idxOf k by omega) _
   rw [if_neg (by rw [e4];decide)]
   exact wpAny_pure ⟨rfl,rfl,x+1,hrest,by omega⟩
 ·rintro b s' ⟨rfl,rfl,i,hr,hle⟩
  have:vs.length - i=0:=by
   cases e:vs.length - i with
   | zero=>rfl
   | succ m=>rw [e,List.range'_succ] at hr;cases hr
  omega
end
section
variable {X:Cx}{EX:XX}{a o:Expr}{pos apos cpos p:Pos}{mo ma:G->M D}{mr:G->M (List D)}
def zr8 (K:PySem.W.Frag):V->List V->Hp->VK->Prop:=fun x vs H Q=>∃ (l:Addr) (ns:List Int) (k:Int),x=.ref l/\vs=[.int k]/\SqL K H l (ns.map V.int)/\ns.length≤100000/\k∈ns/\Q (.int (ns.idxOf k:Nat)) H
def zq5 (K:PySem.W.Frag):V->List V->Hp->VK->Prop:=fun x vs H Q=>∃ (l:Addr) (ns:List Int) (k:Int),x=.ref l/\vs=[.int k]/\SqT K H l (ns.map V.int)/\k∈ns/\Q (.int (ns.idxOf k:Nat)) H
theorem z84:MtR X "tuple.index" (zq5 X.K):=by
 intro pins s σ H x vs v us Q I rx rv h
 obtain ⟨l,ns,k,rfl,rfl,hq,hk,q⟩:=h
 cases rx
 obtain ⟨u,rfl,ru⟩:=rv.one
 obtain ⟨t,rfl⟩:=ru
 obtain ⟨its,r,pl,hz⟩:=I.tuple hq
 exact z2G pl (intsAre_of r) hk ⟨.int _,H,I.tok _,⟨_,rfl⟩,q⟩
theorem z5T {A:Around}{E:Value->Shared->Prop}{s:Shared}{l:Addr}{vs:List Value}{ns:List Int}{k:Int}{t:Tok}{Q:Value->Shared->Prop}(hl:s.heap.IsList l vs.toArray) (hi:IntsAre vs ns) (hb:ns.length≤100000) (hk:k∈ns) (h:Q (.int (ns.idxOf k:Nat) s.toks) { s with toks:=s.toks+1 }) :
 wpAny (model X.prog X.w) A (call (.builtin "list.index") [.ref l,.int k t]) Q E s:=by
 obtain ⟨⟨cls,dd,data,sl⟩,ho,hc,n,hd⟩:=id hl
 simp only at hc hd
 subst hc hd
 have hlen:=hi.length
 have hj:ns.idxOf k<ns.length:=List.idxOf_lt_length_iff.mpr hk
 refine call_meets PySem.F.slot_list_index ⟨_,ho,rfl⟩ PySem.F.entry_list_index (PySem.F.args_list_index_2 _ _)
  (PySem.SeqAt.list_indexAt l vs.toArray n dd sl (.int k t) (isInt k) (ns.idxOf k) (by simpa [hlen] using hj) (by omega) ?_ ?_) ⟨ho,fun y hy=>(eq_isInt k t hi y (by simpa using hy)).at _ _,h⟩
 ·show isInt k vs[ns.idxOf k]=true
  rw [isInt_at k hi _ (by omega) hj]
  simpa using List.getElem_idxOf hj
 ·intro j hjs hlt
  show isInt k vs[j]=false
  rw [isInt_at k hi j (by simpa using hjs) (by omega)]
  exact ne_of_lt_idxOf hlt _
theorem z90:MtR X "list.index" (zr8 X.K):=by
 intro pins s σ H x vs v us Q I rx rv h
 obtain ⟨l,ns,k,rfl,rfl,hq,hb,hk,q⟩:=h
 cases rx
 obtain ⟨u,rfl,ru⟩:=rv.one
 obtain ⟨t,rfl⟩:=ru
 obtain ⟨its,r,pl,hz⟩:=I.list hq
 exact z5T pl.isList (intsAre_of r) hb hk ⟨.int _,H,I.tok _,⟨_,rfl⟩,q⟩
def ixI (xs:List D) (y:D):M D:=match z1x xs,y with
 | some ns,.int k=>if ns.length≤100000/\k∈ns then pure (.int (ns.idxOf k:Nat)) else bad
 | _,_=>bad
def z1f (n:Nat) (y:D):M D:=do
 let xs ← getL n
 ixI xs y
def z2Z (mo ma:G->M D):G->M D:=fun γ=>do
 let o ← mo γ
 match o with
 | .tup xs=>do
  let y ← ma γ
  ixI xs y
 | _=>bad
theorem z8Y {ρ:List Addr}{h:AH}{H:Hp}{xs:List D}{y:D}{vs:List V}{u:V}{Q:VK}(r:RH X.K ρ h H) (rx:RDs X.K ρ H xs vs) (ry:RD X.K ρ H y u) (fin:FE X.K EX ρ H Q (ixI xs y h)):∃ (ns:List Int) (k:Int),vs=ns.map V.int/\u=.int k/\ns.length≤100000/\k∈ns/\Q (.int (ns.idxOf k:Nat)) H:=by
 unfold ixI at fin
 cases e:z1x xs with
 | none=>rw [e] at fin;exact fin.elim
 | some ns =>
  rw [e] at fin
  cases y<;>first | exact (show False from fin).elim | skip
  rename_i k
  dsimp only at fin
  simp only [RD] at ry
  subst ry
  by_cases c:ns.length≤100000/\k∈ns
  ·rw [if_pos c] at fin
   exact ⟨ns,k,z2P e rx,rfl,c.1,c.2,FE.here fin r (by simp [RD])⟩
  ·rw [if_neg c] at fin;exact fin.elim
theorem z4T (ho:SE X EX o mo) (ha:SE X EX a ma)
 (hbase:attributeBase o "index" X.env (eval o X.env)=eval o X.env:=by rfl)
 (hfew:((backTo cpos (starEach [a] X.env)).all (fun x=>!x.1) && (backToKw cpos (keywordEach [] X.env)).all (fun x=>x.1.isSome)
  && decide (([a]:List Expr).length+([]:List Keyword).length+(if ([]:List Keyword).isEmpty then 0 else 1)<30))=true:=by rfl)
 (hline:(apos.endLine == cpos.line)=true:=by rfl) (hs:starEach [a] X.env=[(false,eval a X.env)]:=by rfl) :
 SE X EX (.Call (.Attribute o "index" apos) [a] [] cpos) (eM1 z1f mo ma) :=
 ⟨PE.imp (z9A PySem.F.plainAttrs_list PySem.F.slot_list_index PySem.F.type_list_index z90 ho.h (z0d ha.h z17 hs) hbase hfew hline hs rfl) (z9L fun ρ h H n q y u Q r hq ru fin=>by
  have f2:Fin X.K EX ρ H _ _:=Fin.bind (show Fin X.K EX ρ H (fun d ρ' _ H'=>∀ v,RD X.K ρ' H' d v->Q v H') ((getL n >>= fun xs=>ixI xs y) h) from fin)
  cases e3:getL n h with
  | bad=>rw [e3] at f2;exact f2.elim
  | err z hz=>exact (z0j e3).elim
  | ok xs h3 =>
   obtain ⟨rfl,q1⟩:=z0i e3
   rw [e3] at f2
   obtain ⟨a1,n1,vs,o1,d1⟩:=r.at q1
   rw [hq] at n1;cases n1
   obtain ⟨ns,k,rfl,rfl,hb,hk,q⟩:=z8Y r d1 ru (f2 ρ H (Pre.refl _) (Ext.refl _ _) r)
   exact ⟨_,ns,k,rfl,rfl,SqL.of o1,hb,hk,q⟩)⟩
def tBMT (K:PySem.W.Frag) (r:V->List V->Hp->VK->Prop) (to:TE) (t:TA):TE:=fun σ H Q=>to σ H fun x H1=>(∃ a xs,x=.ref a/\SqT K H1 a xs)/\t σ H1 fun vs H2=>r x vs H2 Q
theorem tup_is {pins:List (Addr×Obj)}{σ:L2.St}{H:Hp}{s:Shared}{a:Addr}{xs:List V}(I:Inv X pins σ H s) (h:SqT X.K H a xs):s.TypeIs (.ref a) "tuple"/\∀ b,Value.ref a=.ref b->∃ ob,s.heap.get? b=some ob/\ob.dict=none:=by
 rcases h with h | ⟨o,its,n,hk,hc,_⟩
 ·obtain ⟨z,its,r,o,e,c,d⟩:=h.ok I.hok
  exact ⟨⟨o,e,c.1⟩,fun b eb=>by cases eb;exact ⟨o,e,c.2⟩⟩
 ·exact ⟨⟨o,I.kIn a o hk,hc.1⟩,fun b eb=>by cases eb;exact ⟨o,I.kIn _ o hk,hc.2⟩⟩
theorem zE0 {e:Expr}{es:List Expr}{to:TE}{t:TA}{name:Str}{id:String}{r:V->List V->Hp->VK->Prop}(pa:PlainAttrs "tuple") (slot:Slot "tuple" name id) (hty:typeOf (.builtin id)=pure (.type "method_descriptor")) (hm:MtR X id r) (ho:PE X o to) (ha:PA X (e :: es) t)
 (hbase:attributeBase o name X.env (eval o X.env)=eval o X.env:=by rfl)
 (hfew:((backTo cpos (starEach (e :: es) X.env)).all (fun x=>!x.1) && (backToKw cpos (keywordEach [] X.env)).all (fun x=>x.1.isSome)
  && decide ((e :: es).length+([]:List Keyword).length+(if ([]:List Keyword).isEmpty then 0 else 1)<30))=true:=by rfl)
 (hline:(apos.endLine == cpos.line)=true:=by rfl) (hs:starEach (e :: es) X.env=(false,eval e X.env) :: starEach es X.env:=by rfl) (hplain:(backTo cpos (starEach es X.env)).any (·.1)=false:=by rfl) :
 PE X (.Call (.Attribute o name apos) (e :: es) [] cpos) (tBMT X.K r to t):=by
 intro pins s σ H Q I h
 refine wpAny_Call_method_late hbase hfew hline rfl (thn (ho pins s σ H _ I h) fun v s1 ⟨x,H1,I1,r1,ty,q1⟩=>?_)
 obtain ⟨a,xs,rfl,hq⟩:=ty
 cases r1
 obtain ⟨h1,h2⟩:=tup_is I1 hq
 refine ⟨"tuple",id,pa,slot,hty,h1,h2,?_⟩
 have hA:=ha cpos pins s1 σ H1 _ I1 q1
 rw [hs] at hA ⊢
 refine Calls.callWith_builtin (by show (false || (backTo cpos (starEach es X.env)).any (·.1))=false;rw [hplain]<;>rfl) (Calls.evalArgs_plain ?_)
 exact thn hA fun us s2 ⟨vs,H2,I2,r2,q2⟩=>hm pins s2 σ H2 (.ref a) vs (.ref a) us Q I2 rfl r2 q2
theorem z4x (ho:SE X EX o mo) (ha:SE X EX a ma)
 (hbase:attributeBase o "index" X.env (eval o X.env)=eval o X.env:=by rfl)
 (hfew:((backTo cpos (starEach [a] X.env)).all (fun x=>!x.1) && (backToKw cpos (keywordEach [] X.env)).all (fun x=>x.1.isSome)
  && decide (([a]:List Expr).length+([]:List Keyword).length+(if ([]:List Keyword).isEmpty then 0 else 1)<30))=true:=by rfl)
 (hline:(apos.endLine == cpos.line)=true:=by rfl) (hs:starEach [a] X.env=[(false,eval a X.env)]:=by rfl) :
 SE X EX (.Call (.Attribute o "index" apos) [a] [] cpos) (z2Z mo ma) :=
 ⟨PE.imp (zE0 PySem.F.plainAttrs_tuple PySem.F.slot_tuple_index PySem.F.type_tuple_index z84 ho.h (z0d ha.h z17 hs) hbase hfew hline hs rfl) fun σ H Q ⟨ρ,γ,h,rel,fin⟩=>⟨ρ,γ,h,rel,(Fin.bind fin).mono fun x ρ1 h1 H1 p1 e1 r1 f1 v rv=>by
  cases x<;>first | exact (show False from f1).elim | skip
  rename_i xs
  simp only [RD] at rv
  obtain ⟨q,vs,rfl,h2,h3⟩:=rv
  exact ⟨⟨q,vs,rfl,h2⟩,ρ1,γ,h1,⟨rel.g.mono p1 e1,r1⟩,(Fin.bind f1).mono fun y ρ2 h4 H2 p2 e2 r2 f2 u ru=>by
   obtain ⟨ns,k,rfl,rfl,hb,hk,q⟩:=z8Y r2 (h3.mono p2 e2) ru f2
   exact ⟨_,ns,k,rfl,rfl,e2.t _ _ h2,hk,q⟩⟩⟩⟩
end
end FT
set_option maxHeartbeats 2000000
namespace FT
open PySem PySem.Spec PyProof.Rows L2
theorem zK3 {h:AH}{n:Nat}{l:List Nat}{x:Nat}{neg:Bool}(e:h[n]?=some (.lst (stD l))):fIn neg (.int x) (.ref n) h=.ok (.bl (decide (x∈l) != neg)) h:=by
 have g:getL n h=.ok (stD l) h:=by unfold getL;rw [e]
 unfold fIn seqD
 rw [M.bind_ok g,z5D,z89]
 rfl
theorem z0O {h:AH}{o:O}:(h++[o])[h.length]?=some o:=by simp
theorem zf3 {h:AH}{o o':O}:(h++[o]).set h.length o'=h++[o']:=by simp
theorem zL0 {h:AH}{i:Nat}{S:List Nat}(hl:S.length<64) (e:h[i]?=some (.lst (stD S))):z0Y [.ref i] h=.ok (.ref h.length) (h++[.lst (stD (z16 S))]):=by
 have fs:z0Y [.ref i]=(do
  let xs ← getL i
  if xs.length<64 then (match z2J xs with
   | some ss=>newL ((z1i ss).map .str)
   | none=>(match z1x xs with
    | some ns=>newL ((sortI ns).map .int)
    | none=>bad)) else bad):=rfl
 have g:getL i h=.ok (stD S) h:=by unfold getL;rw [e]
 cases S with
 | nil =>
  rw [fs,M.bind_ok g,if_pos (by rw [z0C];exact hl)]
  have e1:z2J (stD [])=some []:=rfl
  have e2:(z1i []).map D.str=stD (z16 []):=by
   have a:z1i []=[]:=List.length_eq_zero_iff.mp (by rw [z53];rfl)
   have b:z16 []=[]:=List.length_eq_zero_iff.mp (by rw [x9];rfl)
   rw [a,b];rfl
  rw [e1]
  dsimp only
  rw [e2]
  unfold newL
  rw [if_pos (by rw [z0C,x9];unfold sizeLine;simp)]
 | cons a S =>
  have sn:z2J (stD (a :: S))=none:=rfl
  rw [fs,M.bind_ok g,if_pos (by rw [z0C];exact hl),sn,z2Q]
  dsimp only
  rw [z2g]
  unfold newL
  rw [if_pos (by rw [z0C,x9];unfold sizeLine;omega)]
theorem zN_mem {l:List Nat}{x:Nat}:(x:Int)∈zN l↔x∈l:=by
 unfold zN
 constructor
 ·intro h
  obtain ⟨i,hi,e⟩:=List.mem_map.mp h
  have:i=x:=by omega
  exact this ▸ hi
 ·exact fun h=>List.mem_map.mpr ⟨x,h,rfl⟩
theorem zy7 (l:List Nat) (x:Nat):(zN l).idxOf (x:Int)=l.idxOf x:=by
 induction l with
 | nil=>rfl
 | cons a l ih =>
  show ((a:Int) :: zN l).idxOf (x:Int)=_
  rw [List.idxOf_cons,List.idxOf_cons,ih]
  by_cases e:a=x
  ·subst e;simp
  ·have h1:((a:Int) == (x:Int))=false:=by
    rw [beq_eq_false_iff_ne];omega
   have h2:(a == x)=false:=by rw [beq_eq_false_iff_ne];exact e
   rw [h1,h2]
theorem zh4 {l:List Nat}{x:Nat}(hx:x∈l) (hl:l.length≤100000):ixI (stD l) (.int x)=pure (.int (l.idxOf x:Nat)):=by
 unfold ixI
 rw [z2Q]
 dsimp only
 rw [if_pos ⟨by unfold zN;simpa using hl,zN_mem.mpr hx⟩,zy7]
section
variable {mo ma:G->M D}{γ:G}{h:AH}{i x:Nat}{l:List Nat}
theorem zR6 {mt:G->M D}(eo:mo γ h=.ok (.ref i) h) (e:h[i]?=some (.lst (stD l))) (ea:ma γ h=.ok (.int x) h) (hx:x∈l) (hl:l.length≤100000):orE (eM1 z1f mo ma) mt γ h=.ok (.int (l.idxOf x:Nat)) h:=by
 refine or_l ?_
 show (mo γ >>= fun o=>z1J o >>= fun n=>ma γ >>= fun y=>z1f n y) h=_
 rw [M.bind_ok eo,M.bind_ok (z9a e),M.bind_ok ea]
 have g:getL i h=.ok (stD l) h:=by unfold getL;rw [e]
 unfold z1f
 rw [M.bind_ok g,zh4 hx hl]
 rfl
theorem zR7 (eo:mo γ=pure (.tup (stD l))) (ea:ma γ=pure (.int x)) (hx:x∈l) (hl:l.length≤100000):orE (eM1 z1f mo ma) (z2Z mo ma) γ=pure (.int (l.idxOf x:Nat)):=by
 rw [or_b]
 ·unfold z2Z
  rw [eo,z0Q]
  dsimp only
  rw [ea,z0Q,zh4 hx hl]
 ·show (mo γ >>= fun o=>z1J o >>= fun n=>ma γ >>= fun y=>z1f n y)=_
  rw [eo,z0Q]
  rfl
end
section
variable {me ma:G->M D}{kb:G->M Bool}{γ:G}{h h1:AH}{a i:Nat}{b:Bool}{xs:List D}
theorem cv_h (e:me γ h=.ok (.bl b) h1):cVal me γ h=.ok b h1:=by
 unfold cVal
 rw [M.bind_ok e]
 rfl
theorem cn_h (e:kb γ h=.ok b h1):cNot kb γ h=.ok (!b) h1:=by
 unfold cNot
 rw [M.bind_ok e]
 rfl
theorem Z9 {d:D}(e:γ[a]?=some (some d)):eVar a γ h=.ok d h:=by unfold eVar;rw [e];rfl
theorem zS9 {bs:List Bool}(e:me γ h=.ok (.ref h.length) (h++[.lst (bs.map .bl)])):clE (Z5 (fAll false) (z8 me aNil)) γ h=.ok (.bl (bs.all id)) h :=
 z1a (j:=[.lst (bs.map .bl)]) (z00 e (by
  have g:getL h.length (h++[O.lst (bs.map .bl)])=.ok (bs.map .bl) (h++[O.lst (bs.map .bl)]):=by unfold getL;rw [z0O]
  unfold fAll
  dsimp only
  rw [M.bind_ok g,z3Q]
  rfl)) rfl
theorem zC6 (e:me γ h=.ok (.ref i) h) (q:h[i]?=some (.lst xs)):z09 me γ h=.ok (.lst i xs) h:=by
 have g:getL i h=.ok xs h:=by unfold getL;rw [q]
 unfold z09
 rw [M.bind_ok e]
 dsimp only
 rw [M.bind_ok g]
 rfl
theorem z2w (e:me γ h=.ok (.tup xs) h1):z0c me γ h=.ok (.con xs) h1:=by
 unfold z0c
 rw [M.bind_ok e]
 rfl
theorem zT0 (e:me γ h=.ok (.ref i) h) (q:h[i]?=some (.lst xs)):orE (z0c me) (z09 me) γ h=.ok (.lst i xs) h:=by
 rw [or_r]
 ·exact zC6 e q
 ·unfold z0c
  rw [M.bind_ok e]
  rfl
theorem zS8 (e:me γ h=.ok (.tup xs) h1):orE (z0c me) (z09 me) γ h=.ok (.con xs) h1:=or_l (z2w e)
theorem z3V {cap:List (Option Nat)}{mi:G->M Src}{g:D->G->M G}{src:Src}{l:List Nat}(p:Nat->Bool) (f:Nat->D) (hi:mi γ h=.ok src h) (hs:src.items=stD l) (hg:∀ j,src.good (h++j)) (hl:l.length≤1000000)
 (hd:∀ x∈l,∃ γ1,(∀ h,g (.int x) (capG cap γ) h=.ok γ1 h)/\(∀ j,kb γ1 (h++j)=.ok (p x) (h++j))/\(p x=true->∀ j,me γ1 (h++j)=.ok (f x) (h++j))):x5 cap mi g kb me γ h=.ok (.ref h.length) (h++[.lst ((l.filter p).map f)]):=by
 refine (z2r (src:=src) (fun d=>match d with | .int t=>p t.toNat | _=>false) (fun d=>match d with | .int t=>f t.toNat | _=>.non) hi hg (by rw [hs,z0C];exact hl) fun d hd'=>?_).trans ?_
 ·rw [hs] at hd'
  obtain ⟨x,hx,rfl⟩:=List.mem_map.mp hd'
  exact hd x hx
 ·rw [hs]
  unfold stD
  rw [List.filter_map,List.map_map]
  rfl
end
theorem zP4 {n:Nat}{h:AH}(a b:List Str) (l m:List Nat):eqN (n+3) h (.tup [.tup (a.map .str),.tup (stD l)]) (.tup [.tup (b.map .str),.tup (stD m)])=some (decide (a=b) && decide (l=m)):=by
 have e1:eqN (n+2) h (.tup (a.map .str)) (.tup (b.map .str))=some (decide (a=b)):=z30 z8F a b
 have e2:eqN (n+2) h (.tup (stD l)) (.tup (stD m))=some (decide (l=m)):=z30 (enc:=fun (i:Nat)=>.int i) z3d l m
 show eqZ (eqN (n+2) h) _ _=_
 unfold eqZ
 rw [e1]
 unfold eqZ
 rw [e2]
 unfold eqZ
 simp
theorem z7W {ma mb:G->M D}{γ:G}{h h1 h2:AH}{x y:D}(e1:ma γ h=.ok x h1) (e2':mb γ h1=.ok y h2):eTup (z8 ma (z8 mb aNil)) γ h=.ok (.tup [x,y]) h2:=by
 have e3:z8 ma (z8 mb aNil) γ h=.ok [x,y] h2:=ac_h e1 (ac_h e2' rfl)
 unfold eTup
 rw [M.bind_ok e3]
 rfl
theorem zR3 {tup:Bool}{ma:G->M D}{γ:G}{n:Nat}(e:ma γ=pure (.int (n:Nat))) (hn:n≤1000000):eRng tup ma γ=if tup then pure (.tup (z0B n)) else newL (z0B n):=by
 unfold eRng
 rw [e,z0Q]
 have l:n≤sizeLine:=Nat.le_trans hn (by decide)
 dsimp only
 rw [if_pos (by rw [Int.toNat_natCast,decide_eq_true l,decide_eq_true (show -(2 ^ 62)≤(n:Int) by omega),decide_eq_true (show (n:Int)<2 ^ 62 by omega)];rfl),Int.toNat_natCast]
theorem zR2 {m:M D}{h:AH}{Q:D->AH->Prop}(z:W m h fun d h1=>J7 h.length d=false/\(∀ i,d≠.ref i)/\Q d h1):W (cln m) h Q:=by
 obtain ⟨d,h1,e,nd,nr,q⟩:=z
 refine ⟨d,h1,?_,q⟩
 unfold cln
 rw [e]
 dsimp only
 split
 ·rw [if_neg (by rw [nd];decide)]
  cases d<;>first | rfl | exact (nr _ rfl).elim
 ·rfl
theorem zD7 {t n:Nat}(h:t<n):seqIndex? (t:Int) n=some t:=by
 unfold seqIndex?
 rw [if_neg (show ¬ (t:Int)<0 by omega)]
 simp [h]
theorem zD8 {f:List D->Option (D×List D)}{n:Nat}{h:AH}{xs ys:List D}{d:D}(e:h[n]?=some (.lst xs)) (ef:f xs=some (d,ys)) (l:ys.length≤sizeLine):updL n f h=.ok d (h.set n (.lst ys)):=by
 unfold updL
 rw [e]
 dsimp only
 rw [ef]
 dsimp only
 rw [if_pos l]
theorem zM3 {h:AH}{i t:Nat}{xs:List D}{v:D}(e:h[i]?=some (.lst xs)) (hv:xs[t]?=some v) (hl:xs.length≤1000000):z24 i (.int (t:Nat)) h=.ok v (h.set i (.lst (xs.eraseIdx t))):=by
 have ht:t<xs.length:=(List.getElem?_eq_some_iff.mp hv).1
 have l:(xs.eraseIdx t).length≤sizeLine:=Nat.le_trans (List.length_eraseIdx_le _ _) (Nat.le_trans hl (by decide))
 unfold z24
 refine zD8 e ?_ l
 have:seqIndex? (t:Int) xs.length=some t:=zD7 ht
 split
 ·rw [this]
  dsimp only
  rw [hv,Option.map_some]
 ·rename_i c
  exact absurd ⟨by omega,by omega⟩ c
theorem zd5:∀ (l:List Nat) (t:Nat),(stD l).eraseIdx t=stD (l.eraseIdx t)
 | [],t=>rfl
 | a :: l,0=>rfl
 | a :: l,t+1=>by
  show D.int a :: (stD l).eraseIdx t=D.int a :: stD (l.eraseIdx t)
  rw [zd5 l t]
theorem zJ0 {l:List Nat}{t:Nat}(h:t<l.length):(l.eraseIdx t++[l[t]]).Perm l:=by
 have e:l=l.take t++l[t] :: l.drop (t+1):=by
  rw [List.getElem_cons_drop,List.take_append_drop]
 rw [List.eraseIdx_eq_take_drop_succ]
 refine List.Perm.trans ?_ (List.Perm.of_eq e.symm)
 refine (List.perm_append_singleton _ _).trans ?_
 exact List.perm_middle.symm
theorem zo3 {x:D}{l:List Nat}{h:AH}(e:seqD x h=.ok (stD l) h) (hl:l.length≤2000):z0I [x] h=.ok (.ref h.length) (h++[.set (kN (dedN l))]):=by
 unfold z0I
 dsimp only
 rw [M.bind_ok e,z5t]
 dsimp only
 rw [if_pos (by rw [zi0];omega),zg4]
 rfl
theorem z9g {l:List Nat}{h:AH}{i:Nat}(e:h[i]?=some (.set (kN l))) (hl:l.length<64):Y8 [.ref i] h=.ok (.ref h.length) (h++[.lst (stD (z16 l))]):=by
 unfold Y8
 dsimp only
 have g:getS i h=.ok (kN l) h:=by unfold getS;rw [e]
 rw [M.bind_ok g,z5C]
 dsimp only
 rw [if_pos (by unfold zN;rw [List.length_map];omega),z2g]
 unfold newL
 rw [if_pos (by rw [z0C,x9];unfold sizeLine;omega)]
theorem zO0 {tup:Bool}{ma:G->M D}{γ:G}{h h1:AH}{n:Nat}(e:ma γ h=.ok (.int (n:Nat)) h1) (hn:n≤1000000):eRng tup ma γ h=(if tup then pure (.tup (z0B n)) else newL (z0B n)) h1:=by
 unfold eRng
 rw [M.bind_ok e]
 have l:n≤sizeLine:=Nat.le_trans hn (by decide)
 dsimp only
 rw [if_pos (by rw [Int.toNat_natCast,decide_eq_true l,decide_eq_true (show -(2 ^ 62)≤(n:Int) by omega),decide_eq_true (show (n:Int)<2 ^ 62 by omega)];rfl),Int.toNat_natCast]
theorem zS2 {ma:G->M D}{g:D->G->M G}{mt:G->M Out}{γ:G}{h:AH}{Q:Out->AH->Prop}(J:D->AH->Prop) (z:W (ma γ) h J) (f:∀ d h1,J d h1->∃ γ',g d γ=pure γ'/\W (mt γ') h1 Q):W (z9 (sAsg ma g) mt γ) h Q:=by
 rw [w_cons]
 unfold sAsg
 rw [Z8]
 refine z.mono fun d h1 q=>?_
 obtain ⟨γ',e,w⟩:=f d h1 q
 rw [e,z0Q,W_pure]
 exact w
def rowAt (row:List Nat) (o:Nat):Nat:=(row[o]?).getD 0
def mkAt (mk:List (List Str)) (i:Nat):List Str:=(mk[i]?).getD []
theorem zA5:∀ {l:List Nat}{i x:Nat},l[i]?=some x->l.idxOf x≤i
 | [],i,x,h=>by simp at h
 | a :: l,0,x,h=>by simp at h;subst h;simp [List.idxOf_cons]
 | a :: l,i+1,x,h=>by
  have:=zA5 (l:=l) (i:=i) (x:=x) (by simpa using h)
  rw [List.idxOf_cons]
  cases (a == x)<;>simp<;>omega
theorem z8E {l:List Nat}{x:Nat}(h:x∈l):l[l.idxOf x]?=some x:=by
 have:=List.idxOf_lt_length_iff.mpr h
 rw [List.getElem?_eq_getElem this,List.getElem_idxOf this]
theorem z9e {l:List Nat}{x:Nat}(h:x∈l):rowAt l (l.idxOf x)=x:=by unfold rowAt;rw [z8E h];rfl
theorem z33 {l:List Nat}{i:Nat}(h:i<l.length):l[i]?=some (rowAt l i):=by unfold rowAt;rw [List.getElem?_eq_getElem h];rfl
theorem z8N {l:List Nat}{i:Nat}(h:i<l.length):rowAt l i∈l:=List.mem_of_getElem? (z33 h)
theorem zc2 {l:List Nat}{i x:Nat}(h:l[i]?=some x):rowAt l i=x:=by unfold rowAt;rw [h];rfl
theorem z87 {l:List Nat}{i j:Nat}(nd:l.Nodup) (h:i<l.length) (h2:j<l.length) (e:rowAt l i=rowAt l j):i=j:=by
 unfold rowAt at e
 rw [List.getElem?_eq_getElem h,List.getElem?_eq_getElem h2] at e
 exact (List.getElem_inj nd).mp e
theorem zQ7 {l:List Nat}{i:Nat}(nd:l.Nodup) (h:i<l.length):l.idxOf (rowAt l i)=i:=by
 have m:=z8N h
 exact z87 nd (List.idxOf_lt_length_iff.mpr m) h (z9e m)
theorem z6C {l:List (List Str)}{i:Nat}(h:i<l.length):l[i]?=some (mkAt l i):=by unfold mkAt;rw [List.getElem?_eq_getElem h];rfl
theorem zE9 {l:List (List Nat)}{i:Nat}(h:i<l.length):l[i]?=some (nx l i):=by unfold nx;rw [List.getElem?_eq_getElem h];rfl
def Canon (row:List Nat):Prop:=∀ i v,row[i]?=some v->∀ u,u<v->u∈row.take i
def led (st:List (List Nat)) (row:List Nat) (x:Nat):List Nat:=setN ((nx st x).map (rowAt row))
structure Steady (st:List (List Nat)) (mk:List (List Str)) (row:List Nat):Prop where
 len:row.length=st.length
 can:Canon row
 like:∀ i,i<row.length->mkAt mk i=mkAt mk (row.idxOf (rowAt row i))/\led st row i=led st row (row.idxOf (rowAt row i))
structure Cop (bst:List (List Nat)) (bmk:List (List Str)) (st:List (List Nat)) (mk:List (List Str)) (raw:List Nat):Prop where
 l:st.length=raw.length
 kd:∀ x,x∈raw↔x<bst.length
 rise:∀ i,i<raw.length->(nx st i).Pairwise (·<·)
 lt:∀ i,i<raw.length->∀ o∈nx st i,o<raw.length
 st:∀ i,i<raw.length->∀ t,t∈(nx st i).map (rowAt raw)↔t∈nx bst (rowAt raw i)
 ml:mk=raw.map (mkAt bmk)
section
variable {raw:List Nat}
end
section
variable {bst st:List (List Nat)}{bmk mk:List (List Str)}{raw:List Nat}
end
theorem z4r {s:Shared}{M:Model}{A:Around}{a:Addr}{T id:String}{E:Value->Shared->Prop}{Q:Bool->Shared->Prop}(h:s.TypeIs (.ref a) T) (sl:Slot T (Str.ofString "__iter__") id) (q:Q false s):wpAny M A (notIterableAtAll (.ref a)) Q E s:=by
 unfold notIterableAtAll
 refine wpAny_bind (wpAny_specialOf h sl.lookup ?_)
 exact wpAny_pure q
def zQ3 (K:PySem.W.Frag) (ta:TE) (tr:TA):TA:=fun σ H Q=>ta σ H fun x H1=>∃ a xs,x=.ref a/\(SqT K H1 a xs∨SqL K H1 a xs)/\tr σ H1 fun ys H2=>Q (xs++ys) H2
section
variable {X:Cx}{EX:XX}{e:Expr}{es:List Expr}{te:TE}{t:TA}{p pos:Pos}{ma:G->M D}{mr:G->M (List D)}
theorem zq9 (ha:PE X e te) (hr:PA X es t):PA X (.Starred e p :: es) (zQ3 X.K te t):=by
 intro pos pins s σ H Q I h
 rw [arm_starEach_Starred]
 show wpAny _ _ (spliced ((true,do let v ← eval e X.env;standAt pos;pure v) :: backTo pos (starEach es X.env))) _ _ s
 refine PySem.W.ks_spliced (thn (ha pins s σ H _ I h) fun u s1 ⟨x,H1,I1,r1,q1⟩=>?_)
 obtain ⟨a,xs,rfl,hq,q⟩:=q1
 cases r1
 rcases hq with hq | hq
 ·obtain ⟨its,rv,pl,hz⟩:=I1.tuple hq
  have hl:=rv.length
  obtain ⟨o,ho,hc,n,hd⟩:=id pl
  refine z4r ⟨o,ho,hc⟩ PySem.F.slot_tuple_iter ⟨rfl,wpAny_collect_seq a (.inr rfl) ho hc hd (fun h' kp=>?_) (by rw [List.size_toArray];omega)⟩
  have I2:Inv X pins σ H1 { s1 with heap:=h' }:=I1.kept (t':=s1.toks) kp
  exact thn (hr pos pins _ σ H1 _ I2 q) fun us s3 ⟨ys,H3,I3,r3,q3⟩=>⟨xs++ys,H3,I3,by simpa using rv.append r3,q3⟩
 ·obtain ⟨its,rv,pl,hz⟩:=I1.list hq
  have hl:=rv.length
  obtain ⟨o,n,ho,hc,hdd,hd⟩:=id pl
  refine z4r ⟨o,ho,hc⟩ PySem.F.slot_list_iter ⟨rfl,wpAny_collect_seq a (.inl rfl) ho hc hd (fun h' kp=>?_) (by rw [List.size_toArray];omega)⟩
  have I2:Inv X pins σ H1 { s1 with heap:=h' }:=I1.kept (t':=s1.toks) kp
  exact thn (hr pos pins _ σ H1 _ I2 q) fun us s3 ⟨ys,H3,I3,r3,q3⟩=>⟨xs++ys,H3,I3,by simpa using rv.append r3,q3⟩
def z95 (ma:G->M D) (mr:G->M (List D)):G->M (List D):=fun γ=>do
 let x ← ma γ
 match x with
 | .tup xs=>do
  let r ← mr γ
  pure (xs++r)
 | .ref n=>do
  let xs ← getL n
  let r ← mr γ
  pure (xs++r)
 | _=>bad
theorem zn1 (ha:SE X EX e ma) (hr:SA X EX es mr):SA X EX (.Starred e p :: es) (z95 ma mr) :=
 ⟨PA.imp (zq9 ha.h hr.h) fun σ H Q ⟨ρ,γ,h,rel,fin⟩=>⟨ρ,γ,h,rel,(Fin.bind fin).mono fun x ρ1 h1 H1 p1 e1 r1 f1 v rv=>by
  cases x<;>first | exact (show False from f1).elim | skip
  ·rename_i xs
   simp only [RD] at rv
   obtain ⟨q,vs,rfl,h2,h3⟩:=rv
   exact ⟨q,vs,rfl,.inl h2,ρ1,γ,h1,⟨rel.g.mono p1 e1,r1⟩,(Fin.bind f1).mono fun ds ρ2 h4 H2 p2 e2 r2 f2 ws rws =>
    f2 ρ2 H2 (Pre.refl _) (Ext.refl _ _) r2 (vs++ws) ((h3.mono p2 e2).append rws)⟩
  ·rename_i n
   simp only [RD] at rv
   obtain ⟨q,rfl,hq⟩:=rv
   have f2:=Fin.bind f1
   cases e3:getL n h1 with
   | bad=>rw [e3] at f2;exact f2.elim
   | err z hz=>exact (z0j e3).elim
   | ok xs h3 =>
    obtain ⟨rfl,q1⟩:=z0i e3
    rw [e3] at f2
    obtain ⟨a1,n1,vs,o1,d1⟩:=r1.at q1
    rw [hq] at n1;cases n1
    have f3:=f2 ρ1 H1 (Pre.refl _) (Ext.refl _ _) r1
    exact ⟨_,vs,rfl,.inr (SqL.of o1),ρ1,γ,_,⟨rel.g.mono p1 e1,r1⟩,(Fin.bind f3).mono fun ds ρ2 h4 H2 p2 e2 r2 f2 ws rws =>
     f2 ρ2 H2 (Pre.refl _) (Ext.refl _ _) r2 (vs++ws) ((d1.mono p2 e2).append rws)⟩⟩⟩
end
end FT
namespace L2
open PySem PySem.Spec PyProof.Rows
section
variable {X:Cx}{tg:Expr}
end
end L2
namespace FT
open PySem PySem.Spec PyProof.Rows L2
section
variable {X:Cx}{EX:XX}{a b c tg:Expr}{p p2 pos pos2:Pos}{ma mb mc:G->M D}
end
end FT
namespace L2
open PySem PySem.Spec PyProof.Rows
section
variable {X:Cx}
end
end L2
namespace FT
open PySem PySem.Spec PyProof.Rows L2
section
variable {X:Cx}{EX:XX}{a b:Expr}{p p2 pos pos2:Pos}{ma mb:G->M D}
end
section
variable {X:Cx}{EX:XX}
end
end FT
namespace L2
open PySem PySem.Spec PyProof.Rows
section
variable {X:Cx}{elt tg iter tg1 iter1:Expr}{ifs1:List Expr}{sc:Scope}{pos:Pos}{N':List Str}{cap:List (Option Nat)}{g g1:TG}{wi1:TI}{ti:TT}{te:TE}
def zp1 (cap:List (Option Nat)) (wi:TI) (g:TG) (wi1:TI) (g1:TG) (ti:TT) (te:TE) (i:Nat):TS:=fun D σ H=>wi σ H fun J H1=>∀ d,H1 d=none->z3Z cap g wi1 g1 ti te σ J d (fun H'=>D.nx (σ.set i (some (.ref d))) H') (upd H1 d (.lst []))
theorem zd9 {wi:TI}{y:Str}{py spos:Pos}{i:Nat}(hc:X.calm=true) (S:CS X sc N' cap) (hi:PI X tg iter wi) (hg:∀ s H fp xe,PG (X.comp N' sc s H fp xe) tg g) (hi1:∀ s H fp xe,PI (X.comp N' sc s H fp xe) tg1 iter1 wi1) (hg1:∀ s H fp xe,PG (X.comp N' sc s H fp xe) tg1 g1) (ht:∀ s H fp xe,PTs (X.comp N' sc s H fp xe) ifs1 ti)
 (he:∀ s H fp xe,PE (X.comp N' sc s H fp xe) elt te) (hN:X.N.Nodup) (hy:X.N[i]?=some y) (hl:X.env.scope.names.lookup y=some .local)
 (hsw:swapsWith (two elt tg iter tg1 iter1 [] ifs1 sc pos) (some (.Name y py)) spos.line X.env=pure true) (hs:∀ x,foldedSetIterable iter X.env x=pure x) (hs1:∀ env x,foldedSetIterable iter1 env x=pure x) :
 PS X (.Assign [.Name y py] (two elt tg iter tg1 iter1 [] ifs1 sc pos) spos) (zp1 cap wi g wi1 g1 ti te i):=by
 intro pins s σ H D I h
 rw [exec_Assign_Name_used _ _ _ _ hsw]
 refine wpAny_bind (wpAny_standAt (wpAny_bind ?_))
 show wpAny _ X.A (do let _ ← comprehension (two elt tg iter tg1 iter1 [] ifs1 sc pos) sc X.env _ (newList []) false (eval iter X.env) (some (assign (.Name y py) X.env))) _ _ s
 refine wpAny_bind (wpAny_mono (wpAny_comprehension_free (use:=some (assign (.Name y py) X.env)) (Q:=fun _ s'=>SP X pins D .next s') rfl hs (z03 (S.cells I)) S.kind S.loc
  (thn (hi pins s σ H _ I h) fun v s1 h1=>thn h1 fun itv s2 h2=>?_)) (fun _ s' hq=>wpAny_pure (wpAny_pure hq)) fun _ _ z=>z)
 obtain ⟨it,fp,tn,J,H2,e,I2,T,st2,f2,rq⟩:=h2
 subst e
 refine zM9 (RR:=fun acc C=>compPost (model X.prog X.w) X.A X.xe (some (assign (.Name y py) X.env)) (fun _ s'=>SP X pins D .next s') acc C) (Q:=fun d H'=>D.nx (σ.set i (some (.ref d))) H') hc S hg hi1 hg1 ht he hs1 I2 T st2 f2 rq ?_
 intro d s3 H3 xe H' pins' σ' s' I3 f3 J3 q
 obtain ⟨m,hn,_⟩:=id J3.loc
 have Is:Inv X pins σ H' s':=I3.compOut (h':=s'.heap) f3 J3 (Heap.SameBut.refl _ _)
 obtain ⟨oC,es,ep,hoC,hdC,hrC⟩:=id hn
 have hC:H' s3.heap.objs.size=none:=J3.free
 have neL:s3.heap.objs.size≠X.env.locals:=Nat.ne_of_gt I3.lt
 have nfs:s3.heap.objs.size∉X.fs:=I3.nofs (Nat.le_refl _)
 have Ip:Inv X (pins++[(s3.heap.objs.size,oC)]) σ H' s':=Is.pins_of fun p hp=>by
  rcases List.mem_append.mp hp with z | z
  ·exact Is.pin p (List.mem_append_right _ z)
  ·obtain rfl:p=(s3.heap.objs.size,oC):=by simpa using z
   exact ⟨hoC,hC,neL,nfs,fun v hv=>by have hdC':oC.data=_:=hdC;rw [hdC'] at hv;cases hv⟩
 show wpAny _ X.A (assign (.Name y py) X.env (.ref d)) _ _ s'
 refine thn (z3q (X:=X) (i:=i) hN hy (.inl hl) (.inr hl) _ s' σ H' (.ref d) (.ref d) (fun σ2 H2=>D.nx σ2 H2) Ip rfl q) fun _ s4 ⟨σ4,H4,I4,q4⟩=>?_
 have pn:=I4.pin (s3.heap.objs.size,oC) (List.mem_append_right _ (List.mem_append_right _ (by simp)))
 refine ⟨m,⟨oC,es,ep,pn.1,hdC,hrC⟩,fun h' hs=>⟨σ4,H4,?_,q4⟩⟩
 have I4u:Inv X pins σ4 H4 s4:=I4.unpinned
 have st:=I4u.step (g':=s4.gens) (t':=s4.toks) (d':=s4.drawn) (h':=h') (H':=H4) (ch:=[s3.heap.objs.size]) (fun b hb=>?_) (fun b o _ _ hc e _=>(hs.2 b (by simpa using hc)).trans e)
  (fun b o _ _ hc e _=>⟨o.slots,(hs.2 b (by simpa using hc)).trans e⟩) (fun _ _ _ _ n=>n) (fun b o hc e=>⟨o,(hs.2 b (by simpa using hc)).trans e⟩) (fun _ _ e=>e) (fun _ _ _ e=>e) (fun b ps e=>⟨#[],by rw [e];simp⟩) (fun m hm=>?_) (fun b u e=>?_) I4u.bare
 ·exact st
 ·have e:b=s3.heap.objs.size:=by simpa using hb
  subst e
  refine ⟨.inr I3.sz,neL,fun x c e2 z=>?_,fun p hp z=>?_⟩
  ·obtain ⟨v,q2⟩:=I3.cell x c e2
   exact absurd q2.lt (by rw [z];exact Nat.lt_irrefl _)
  ·have e3:=(I3.pin p hp).1
   exact absurd (Heap.lt_size e3) (by rw [z];exact Nat.lt_irrefl _)
 ·obtain ⟨o,es',ep',ho',r'⟩:=hm
  exact ⟨o,es',ep',(hs.2 _ (Ne.symm neL)).trans ho',r'⟩
 ·refine (I4u.hok b u e).stay (fun c v hc q=>?_) (fun _ q=>q) fun _ _ q=>q
  have n4:H4 s3.heap.objs.size=none:=pn.2.1
  have ne:c≠s3.heap.objs.size:=by
   rintro rfl
   rcases hc with z | z
   ·rw [← z,n4] at e;cases e
   ·rw [n4] at z;cases z
  exact (hs.2 c ne).trans q
end
end L2
namespace FT
open PySem PySem.Spec PyProof.Rows L2
section
variable {X:Cx}{EX:XX}{elt tg iter tg1 iter1:Expr}{ifs1:List Expr}{sc:Scope}{pos:Pos}{N':List Str}{cap:List (Option Nat)}{own own1:List Nat}{mi mi1:G->M Src}{g g1:D->G->M G}{k:G->M Bool}{me:G->M D}
noncomputable def zi6 (i:Nat) (cap:List (Option Nat)) (mi:G->M Src) (g:D->G->M G) (mi1:G->M Src) (g1:D->G->M G) (k:G->M Bool) (me:G->M D):G->M Out:=sAsg (z8w cap mi g mi1 g1 k me) (gN i)
theorem zo7 (i:Nat) {y:Str}{py spos:Pos}(hc:X.calm=true) (S:CS X sc N' cap) (hi:SI X EX tg iter mi) (hg:∀ s H fp xe,SGk (X.comp N' sc s H fp xe) EX tg own g) (hi1:∀ s H fp xe,SI (X.comp N' sc s H fp xe) EX tg1 iter1 mi1) (hg1:∀ s H fp xe,SGk (X.comp N' sc s H fp xe) EX tg1 own1 g1) (ht:∀ s H fp xe,SCs (X.comp N' sc s H fp xe) EX ifs1 k)
 (he:∀ s H fp xe,SE (X.comp N' sc s H fp xe) EX elt me) (hN:X.N.Nodup) (hy:X.N[i]?=some y:=by rfl) (hl:X.env.scope.names.lookup y=some .local:=by rfl) (hown:∀ j∈own,cap[j]?=some none:=by decide) (hown1:∀ j∈own1,cap[j]?=some none/\j∉own:=by decide)
 (hsw:swapsWith (.ListComp elt [⟨tg,iter,[],0⟩,⟨tg1,iter1,ifs1,0⟩] sc pos) (some (.Name y py)) spos.line X.env=pure true:=by rfl) (hs:∀ x,foldedSetIterable iter X.env x=pure x:=by intro _;rfl) (hs1:∀ env x,foldedSetIterable iter1 env x=pure x:=by intro _ _;rfl) :
 S1 X EX (.Assign [.Name y py] (.ListComp elt [⟨tg,iter,[],0⟩,⟨tg1,iter1,ifs1,0⟩] sc pos) spos) (zi6 i cap mi g mi1 g1 k me) :=
 ⟨PS.imp (zd9 (g:=tGk X.K EX own g) (wi1:=tI X.K EX mi1) (g1:=tGk X.K EX own1 g1) (ti:=tT X.K EX k) (te:=tE X.K EX me) hc S hi.h (fun s H fp xe=>(hg s H fp xe).h) (fun s H fp xe=>(hi1 s H fp xe).h) (fun s H fp xe=>(hg1 s H fp xe).h) (fun s H fp xe=>(ht s H fp xe).h) (fun s H fp xe=>(he s H fp xe).h) hN hy hl hsw hs hs1) fun σ H D ⟨ρ,γ,h,rel,fin⟩=>⟨ρ,γ,h,rel,(Fin.bind (Fin.bind fin)).mono fun src ρ0 h0 H0 p0 e0 r0 f0 J hJ Dd hD=>by
  have rP:=r0.push hD (RDs.nil (K:=X.K) (ρ:=ρ0) (H:=H0))
  have eP:Ext X.K H0 (upd H0 Dd (.lst [])):=Ext.upd (.inl hD)
  have f1:=Fin.bind f0
  have f2:=f1 (ρ0++[Dd]) _ (Pre.app _ _) eP rP
  refine z9d r0 (rel.g.mono p0 e0) hJ hD hown hown1 ((Fin.bind f2).mono fun _ ρ5 h5 H5 p5 e5 r5 f5 hat rr ee pp=>?_)
  have f6:=f5 ρ5 H5 (Pre.refl _) (Ext.refl _ _) rr
  have f7:=f6 ρ5 H5 (Pre.refl _) (Ext.refl _ _) rr
  refine f7 _ (RG.set (((rel.g.mono p0 e0).mono (Pre.app _ _) eP).mono pp ee) i ?_)
  simp only [RD]
  exact ⟨Dd,rfl,hat⟩⟩⟩
end
def cnt (st:List (List Nat)):Nat->Nat->Nat
 | 0,_=>1
 | n+1,x=>((nx st x).map (cnt st n)).sum
def zQ0 (w:List Nat):Nat:=w.getLast?.getD 0
def ext (st:List (List Nat)) (left:Nat) (w:List Nat):List (List Nat):=((nx st (zQ0 w)).filter fun y=>decide (0<cnt st left y)).map fun y=>w++[y]
section
variable {st:List (List Nat)}
end
end FT
namespace L2
open PySem PySem.Spec PyProof.Rows
open PySem.AutoSeq1 (wpAny_loadPart')
section
variable {P:Program}{w:World}{A:Around}{E:Value->Shared->Prop}{s:Shared}{I t:Addr}
end
section
variable {X:Cx}{tg:Expr}
end
end L2
namespace FT
open PySem PySem.Spec PyProof.Rows L2
section
variable {X:Cx}{EX:XX}{a tg:Expr}{p pos:Pos}{ma:G->M D}
end
end FT
namespace L2
open PySem PySem.Spec PyProof.Rows
open PySem.AutoSeq1 (wpAny_loadPart')
section
variable {X:Cx}
end
end L2
namespace FT
open PySem PySem.Spec PyProof.Rows L2
section
variable {X:Cx}{EX:XX}{a o:Expr}{cpos apos:Pos}{ma mo:G->M D}
end
section
variable {ka kb:G->M Bool}{γ:G}{h:AH}{r:Res Bool}
theorem zo9 (e1:ka γ h=.ok false h) (e2':kb γ h=r):cOr ka kb γ h=r:=by
 unfold cOr
 rw [M.bind_ok e1,if_neg (by decide)]
 exact e2'
theorem zQ4 (e1:ka γ h=.ok true h) (e2':kb γ h=r):cAnd ka kb γ h=r:=by
 unfold cAnd
 rw [M.bind_ok e1,if_pos rfl]
 exact e2'
theorem zR5 (e1:ka γ h=.ok false h):cAnd ka kb γ h=.ok false h:=by
 unfold cAnd
 rw [M.bind_ok e1,if_neg (by decide)]
 rfl
end
theorem zq1 {xs:List D}{h:AH}(hl:xs.length≤1000000):newL xs h=.ok (.ref h.length) (h++[.lst xs]):=by
 unfold newL
 rw [if_pos (Nat.le_trans hl (by decide))]
theorem zr4 {k:G->M Bool}{body:G->M Out}{mt:G->M Out}{n m:Nat}{γ:G}{h:AH}{Q:Out->AH->Prop}(I:Nat->G->AH->Prop) (hm:m<n) (i0:I m γ h)
 (z:∀ m γ h,I m γ h->∃ b,k γ h=.ok b h/\if b=true then ∃ m',m=m'+1/\W (body γ) h (forW (fun γ h=>∃ i,i≤m'/\I i γ h) fun _ _=>False) else W (mt γ) h Q):W (z9 (z1F k body n) mt γ) h Q:=by
 rw [w_cons]
 refine (z3g I (fun γ h=>W (mt γ) h Q) (fun _ _=>False) (fun m γ h q=>?_) n m γ h hm i0).mono fun o h1 q=>?_
 ·obtain ⟨b,e,q1⟩:=z m γ h q
  exact W_of e q1
 ·cases o with
  | nx γ=>exact q
  | rt d=>exact q.elim
  | bk d=>exact q.elim
  | ct d=>exact q.elim
end FT
namespace L2
open PySem PySem.Spec PyProof.Rows
theorem z7o {prog:Program}{w:World}{A:Around}{R:Result->Shared->Prop}{s:Shared}{elt val target iter:Expr}
 {ifs:List Expr} {scope:Scope} {pos:Pos} {it:Value} {D:Addr} {env:Env} (I:Nat->Shared->Prop)
 (turn:∀ n s,I n s->wpAny (model prog w) A (pyNext it) (fun r s1=>match r with
  | none=>R (.ok .next) s1
  | some v=>wpAny (model prog w) A (letOwnedTupleGo target it v) (fun _ s2 =>
   wpAny (model prog w) A (assign target env v) (fun _ s3 =>
    wpAny (model prog w) A (z0R ifs env) (fun ok s4 =>
     if ok=true then wpAny (model prog w) A (eval elt env) (fun x s5 =>
      wpAny (model prog w) A (eval val env) (fun y s6=>wpAny (model prog w) A (dictSet D x y) (fun _ s7=>∃ m,m<n/\I m s7)
       (notedBy (model prog w) A env fun e s'=>R (.error e) s') s6)
       (notedBy (model prog w) A env fun e s'=>R (.error e) s') s5)
       (notedBy (model prog w) A env fun e s'=>R (.error e) s') s4
     else ∃ m,m<n/\I m s4)
     (notedBy (model prog w) A env fun e s'=>R (.error e) s') s3)
    (notedBy (model prog w) A env fun e s'=>R (.error e) s') s2)
   (notedBy (model prog w) A env fun e s'=>R (.error e) s') s1)
  (notedBy (model prog w) A env fun e s'=>R (.error e) s') s)
 (n:Nat) (h:I n s) :
 codeAny (model prog w) A (.compLoop (.DictComp elt val [⟨target,iter,ifs,0⟩] scope pos) 0 it (.ref D) env) R s:=by
 refine codeAny_loop rfl I (fun n s hI=>?_) n h
 show wpAny _ A ((compTurn (.DictComp elt val [⟨target,iter,ifs,0⟩] scope pos) 0 it (.ref D) env).onRaise
  (fun x=>do noteFrame x env;theTreesLotGoes x)) _ _ s
 refine wpAny_noted ?_
 rw [compTurn_dict]
 refine wpAny_bind (wpAny_standAt (wpAny_bind (wpAny_mono (turn n s hI) (fun r s1 h1=>?_) fun _ _ z=>z)))
 cases r with
 | none=>exact wpAny_pure h1
 | some v =>
  refine wpAny_bind (wpAny_mono h1 (fun _ s2 h2=>?_) fun _ _ z=>z)
  refine wpAny_bind (wpAny_mono h2 (fun _ s3 h3=>wpAny_bind (wpAny_mono h3 (fun ok s4 h4=>?_) fun _ _ z=>z)) fun _ _ z=>z)
  cases ok with
  | false=>exact wpAny_pure ⟨rfl,h4⟩
  | true =>
   exact wpAny_bind (wpAny_bind (wpAny_mono h4 (fun x s5 h5=>wpAny_bind (wpAny_holding (wpAny_mono h5 (fun y s6 h6=>wpAny_bind (wpAny_standAt (wpAny_holding (wpAny_mono h6 (fun _ s7 h7=>wpAny_pure ⟨rfl,h7⟩) fun _ _ z=>z)))) fun _ _ z=>z))) fun _ _ z=>z))
theorem z5c {X:Cx}{pins:List (Addr×Obj)}{σ:St}{H:Hp}{s:Shared}{a:Addr}{kvs:List (Key×V)}{k:Key}{v:V}{u r:Value}{A:Around}{E:Value->Shared->Prop}{Q:Unit->Shared->Prop}
 (I:Inv X pins σ H s) (e:H a=some (.dK kvs)) (l:kvs.length<sizeLine) (ry:RelV (kV k) u) (rv:RelV v r) (h:∀ s',Inv X pins σ (upd H a (.dK (putK kvs k v))) s'->Q () s') :
 wpAny (model X.prog X.w) A (dictSet a u r) Q E s:=by
 obtain ⟨z,hd,vs,rel,dd⟩:=z7m I.hok e
 have hz:vs.length≤sizeLine:=by rw [← rel.length];exact z
 have hl:(putK kvs k v).length≤sizeLine:=by have:=z15 kvs k v;omega
 refine wpAny_dictSet_pairs (hsz:=hz) (z7c ry) dd fun h' dd' hs=>h _ ?_
 have he:∃ q,h'.get? a=some q:=let ⟨q,_,_,hq,_⟩:=dd';⟨q,hq⟩
 exact z32 I (by rw [e];exact True.intro) hs he (z8b hl hd (rel.put k rv) dd')
def z3X (cap:List (Option Nat)) (g:TG) (ti:TT) (te tv:TE) (σ:St) (J:It) (D:Addr) (Q:Hp->Prop) (H:Hp):Prop :=
 ∃ W:Nat->Nat->Hp->Prop,(∃ m,W 0 m H)/\∀ i m H,W i m H ->
  (J.stop i H/\Q H)∨(J.go i H/\∀ x H1,J.yld i H x H1->g x (Y1 cap σ) H1 fun σ2 H2=>(∀ (j:Nat) v,(Y1 cap σ)[j]?=some (some v)->σ2[j]?=some (some v)) /\
   ti σ2 H2 fun ok H3=>if ok=true then te σ2 H3 fun y H4=>tv σ2 H4 fun v H5=>∃ k kvs,y=kV k/\H5 D=some (.dK kvs)/\kvs.length<sizeLine/\∃ m',m'<m/\W (i+1) m' (upd H5 D (.dK (putK kvs k v)))
    else ∃ m',m'<m/\W (i+1) m' H3)
section
variable {X:Cx}{elt val tg iter:Expr}{ifs:List Expr}{sc:Scope}{pos:Pos}{N':List Str}{cap:List (Option Nat)}{g:TG}{ti:TT}{te tv:TE}
theorem z7i {pins:List (Addr×Obj)}{σ:St}{H2:Hp}{s2:Shared}{it:Addr}{fp:List Addr}{tn:Nat->Heap->Prop}{J:It}{E:Value->Shared->Prop}{RR:Value->Addr->Result->Shared->Prop}{Q:Addr->Hp->Prop}
 (hc:X.calm=true) (S:CS X sc N' cap) (hg:∀ s H fp xe,PG (X.comp N' sc s H fp xe) tg g) (ht:∀ s H fp xe,PTs (X.comp N' sc s H fp xe) ifs ti) (he:∀ s H fp xe,PE (X.comp N' sc s H fp xe) elt te) (hv:∀ s H fp xe,PE (X.comp N' sc s H fp xe) val tv)
 (I2:Inv X pins σ H2 s2) (T:Turn X.prog X.w X.K tg J fp it tn) (st2:tn 0 s2.heap) (f2:∀ b∈fp,FpOk X pins H2 b)
 (hq:∀ D,H2 D=none->z3X cap g ti te tv σ J D (Q D) (upd H2 D (.dK [])))
 (hRR:∀ (D:Addr) (s3:Shared) (H3:Hp) (xe:Value->Shared->Prop) (H':Hp) (pins':List (Addr×Obj)) (σ':St) (s':Shared),Inv X pins σ H3 s3->(∀ b∈fp,FpOk X pins H3 b)->Inv (X.comp N' sc s3 H3 fp xe) pins' σ' H' s'->Q D H'->RR (.ref D) s3.heap.objs.size (.ok .next) s') :
 wpAny (model X.prog X.w) X.A newDict (fun acc s3=>wpAny (model X.prog X.w) X.A (newFunctionEnv sc X.env.globals (y4 X.env sc.names []) [] X.env.qual none .none (some X.env)) (fun cenv s4 =>
  codeAny (model X.prog X.w) X.A (.compStart (.DictComp elt val [⟨tg,iter,ifs,0⟩] sc pos) 0 (.ref it) acc { cenv with scope:=relabel sc X.env }) (RR acc cenv.locals) s4) E s3) E s2:=by
 refine wpAny_newObj_type ?_
 have I3:=I2.laid (a:=s2.heap.objs.size) (o:=.dK []) (t':=s2.toks) (h':=s2.heap.push { cls:=.type "dict",dict:=none,data:=.dict #[] }) (fun _ _ q=>Heap.get?_push_of_some _ q) (Nat.le_refl _) (z49 s2.heap I2.big)
 have hfr:H2 s2.heap.objs.size=none:=I2.fresh
 have lt2:∀ b∈fp,b<s2.heap.objs.size:=fun b hb=>by
  obtain ⟨o,e,_⟩:=T.obj _ _ st2 b hb
  exact Heap.lt_size e
 generalize hD:s2.heap.objs.size=D at I3 hfr lt2 ⊢
 have r0:=hq D hfr
 generalize hs3:({ s2 with heap:=s2.heap.push { cls:=.type "dict",dict:=none,data:=.dict #[] },toks:=s2.toks }:Shared)=s3 at I3 ⊢
 have f3:∀ b∈fp,FpOk X pins (upd H2 D (.dK [])) b:=fun b hb=>⟨by rw [y6 (Nat.ne_of_lt (lt2 b hb))];exact (f2 b hb).1,(f2 b hb).2⟩
 have kp3:∀ b o,s2.heap.get? b=some o->s3.heap.get? b=some o:=fun b o e=>by rw [← hs3];exact Heap.get?_push_of_some _ e
 have st3:tn 0 s3.heap:=T.keep _ _ _ st2 fun b hb o e=>kp3 b o e
 have lt3:∀ b∈fp,b<s3.heap.objs.size:=fun b hb=>by
  obtain ⟨o,e,_⟩:=T.obj _ _ st3 b hb
  exact Heap.lt_size e
 generalize upd H2 D (.dK [])=H3 at I3 r0 f3
 refine wpAny_newFunctionEnv S.nocell (fun x hx=>absurd hx (by simp)) (fun h1 hns hsb=>?_) S.kind
 have kp4:∀ b o,s3.heap.get? b=some o->h1.get? b=some o:=fun b o e=>by
  rw [hsb.2 b (Nat.ne_of_lt (Heap.lt_size e))]
  exact Heap.get?_push_of_some _ e
 have hns':h1.Ns s3.heap.objs.size fun _=>none:=hns
 have st4:tn 0 h1:=T.keep _ _ _ st3 fun b hb o e=>kp4 b o e
 have frees:∀ b∈fp,H3 b=none:=fun b hb=>(f3 b hb).1
 have loop:codeAny (model X.prog X.w) X.A (.compLoop (.DictComp elt val [⟨tg,iter,ifs,0⟩] sc pos) 0 (.ref it) (.ref D) (compEnvC sc (y4 X.env sc.names []) s3.heap.objs.size X.env))
  (RR (.ref D) s3.heap.objs.size) { s3 with heap:=h1,toks:=s3.toks+([]:List (Str×Value)).length }:=by
  let xe:Value->Shared->Prop:=notedBy (model X.prog X.w) X.A (compEnvC sc (y4 X.env sc.names []) s3.heap.objs.size X.env) fun e s'=>RR (.ref D) s3.heap.objs.size (.error e) s'
  have I4:Inv (X.comp N' sc s3 H3 fp xe) [] (Y1 cap σ) H3 { s3 with heap:=h1,toks:=s3.toks+([]:List (Str×Value)).length }:=I3.compIn S f3 lt3 hns' kp4
  have stat:∀ {H':Hp},(∀ b∈fp,H' b=none)->∀ b∈fp,FpOk (X.comp N' sc s3 H3 fp xe) [] H' b:=fun hn b hb=>by
   obtain ⟨q1,q2⟩:=I4.ok.exf b hb
   exact ⟨hn b hb,q1,I4.ok.exfs b hb,.inl hb,q2,fun p hp=>absurd (show p∈([]:List (Addr×Obj)) from hp) (by simp)⟩
  obtain ⟨W,⟨m0,w0⟩,turn⟩:=r0
  refine z7o (fun n s'=>∃ i H',Inv (X.comp N' sc s3 H3 fp xe) [] (Y1 cap σ) H' s'/\tn i s'.heap/\(∀ b∈fp,H' b=none)/\W i n H') ?_ m0 ⟨0,H3,I4,st4,frees,w0⟩
  rintro n s5 ⟨i,H5,I5,st5,fr5,w5⟩
  rcases turn i n H5 w5 with ⟨stop,qn⟩ | ⟨go,step⟩
  ·refine thn (T.done (X.comp N' sc s3 H3 fp xe) rfl rfl rfl hc i [] s5 _ H5 xe I5 (stat fr5) st5 stop) fun r s6 ⟨hr,I6⟩=>?_
   subst hr
   exact hRR D s3 H3 xe H5 [] _ s6 I3 f3 I6 qn
  ·refine thn (T.item (X.comp N' sc s3 H3 fp xe) rfl rfl rfl hc i [] s5 _ H5 xe I5 (stat fr5) st5 go) fun r s6 ⟨u,hr,h6⟩=>?_
   subst hr
   refine thn h6 fun _ s7 ⟨x,H7,I7,r7,y7,st7,fr7⟩=>?_
   have I7':=I7.pinned (stat fr7) (T.obj _ _ st7)
   refine thn (hg s3 H3 fp xe _ s7 _ H7 x u _ I7' r7 (step x H7 y7)) fun _ s8 ⟨σ8,H8,I8,k8,q8⟩=>?_
   refine thn (ht s3 H3 fp xe _ s8 σ8 H8 _ I8 q8) fun ok s9 ⟨H9,I9,q9⟩=>?_
   have again:∀ {σa:St} {Ha:Hp} {sa:Shared},Inv (X.comp N' sc s3 H3 fp xe) ([]++z1G fp s7.heap) σa Ha sa->(∀ (j:Nat) v,(Y1 cap σ)[j]?=some (some v)->σa[j]?=some (some v)) ->
    Inv (X.comp N' sc s3 H3 fp xe) [] (Y1 cap σ) Ha sa/\tn (i+1) sa.heap/\∀ b∈fp,Ha b=none:=fun {σa Ha sa} Ia ka=>by
    refine ⟨Ia.unpinned.weak (I5.len.trans Ia.len.symm) ka,T.keep _ _ _ st7 fun b hb o e=>(Ia.pin (b,o) (List.mem_append_right _ (List.mem_append_right _ (k9 hb e)))).1,fun b hb=>?_⟩
    obtain ⟨o,e,d⟩:=T.obj _ _ st7 b hb
    exact (Ia.pin (b,o) (List.mem_append_right _ (List.mem_append_right _ (k9 hb e)))).2.1
   cases ok with
   | false =>
    have q9':∃ m',m'<n/\W (i+1) m' H9:=by simpa using q9
    obtain ⟨m',hm,w9⟩:=q9'
    obtain ⟨a1,a2,a3⟩:=again I9 k8
    exact ⟨m',hm,i+1,H9,a1,a2,a3,w9⟩
   | true =>
    rw [if_pos rfl] at q9
    refine thn (he s3 H3 fp xe _ s9 σ8 H9 _ I9 q9) fun kv sa ⟨y,Ha,Ia,ra,qa⟩=>?_
    refine thn (hv s3 H3 fp xe _ sa σ8 Ha _ Ia qa) fun vv sb ⟨z,Hb,Ib,rb,kk,kvs,ey,eb,zb,m',hm,wb⟩=>?_
    subst ey
    refine z5c (X:=X.comp N' sc s3 H3 fp xe) Ib eb zb ra rb fun s' I'=>?_
    obtain ⟨a1,a2,a3⟩:=again I' k8
    exact ⟨m',hm,i+1,_,a1,a2,a3,wb⟩
 exact codeAny_compStart_dict loop (T.self _ 0 _ _ _ st4 loop)
def zz8 (cap:List (Option Nat)) (wi:TI) (g:TG) (ti:TT) (te tv:TE) (i:Nat):TS:=fun D σ H=>wi σ H fun J H1=>∀ d,H1 d=none->z3X cap g ti te tv σ J d (fun H'=>D.nx (σ.set i (some (.ref d))) H') (upd H1 d (.dK []))
theorem z9X {wi:TI}{y:Str}{py spos:Pos}{i:Nat}(hc:X.calm=true) (S:CS X sc N' cap) (hi:PI X tg iter wi) (hg:∀ s H fp xe,PG (X.comp N' sc s H fp xe) tg g) (ht:∀ s H fp xe,PTs (X.comp N' sc s H fp xe) ifs ti)
 (he:∀ s H fp xe,PE (X.comp N' sc s H fp xe) elt te) (hv:∀ s H fp xe,PE (X.comp N' sc s H fp xe) val tv) (hN:X.N.Nodup) (hy:X.N[i]?=some y) (hl:X.env.scope.names.lookup y=some .local)
 (hsw:swapsWith (.DictComp elt val [⟨tg,iter,ifs,0⟩] sc pos) (some (.Name y py)) spos.line X.env=pure true:=by rfl) (hs:∀ x,foldedSetIterable iter X.env x=pure x:=by intro _;rfl) :
 PS X (.Assign [.Name y py] (.DictComp elt val [⟨tg,iter,ifs,0⟩] sc pos) spos) (zz8 cap wi g ti te tv i):=by
 intro pins s σ H D I h
 rw [exec_Assign_Name_used _ _ _ _ hsw]
 refine wpAny_bind (wpAny_standAt (wpAny_bind ?_))
 show wpAny _ X.A (do let _ ← comprehension (.DictComp elt val [⟨tg,iter,ifs,0⟩] sc pos) sc X.env _ newDict false (eval iter X.env) (some (assign (.Name y py) X.env))) _ _ s
 refine wpAny_bind (wpAny_mono (wpAny_comprehension_free (use:=some (assign (.Name y py) X.env)) (Q:=fun _ s'=>SP X pins D .next s') rfl hs (z03 (S.cells I)) S.kind S.loc
  (thn (hi pins s σ H _ I h) fun v s1 h1=>thn h1 fun itv s2 h2=>?_)) (fun _ s' hq=>wpAny_pure (wpAny_pure hq)) fun _ _ z=>z)
 obtain ⟨it,fp,tn,J,H2,e,I2,T,st2,f2,rq⟩:=h2
 subst e
 refine z7i (RR:=fun acc C=>compPost (model X.prog X.w) X.A X.xe (some (assign (.Name y py) X.env)) (fun _ s'=>SP X pins D .next s') acc C) (Q:=fun d H'=>D.nx (σ.set i (some (.ref d))) H') hc S hg ht he hv I2 T st2 f2 rq ?_
 intro d s3 H3 xe H' pins' σ' s' I3 f3 J3 q
 obtain ⟨m,hn,_⟩:=id J3.loc
 have Is:Inv X pins σ H' s':=I3.compOut (h':=s'.heap) f3 J3 (Heap.SameBut.refl _ _)
 obtain ⟨oC,es,ep,hoC,hdC,hrC⟩:=id hn
 have hC:H' s3.heap.objs.size=none:=J3.free
 have neL:s3.heap.objs.size≠X.env.locals:=Nat.ne_of_gt I3.lt
 have nfs:s3.heap.objs.size∉X.fs:=I3.nofs (Nat.le_refl _)
 have Ip:Inv X (pins++[(s3.heap.objs.size,oC)]) σ H' s':=Is.pins_of fun p hp=>by
  rcases List.mem_append.mp hp with z | z
  ·exact Is.pin p (List.mem_append_right _ z)
  ·obtain rfl:p=(s3.heap.objs.size,oC):=by simpa using z
   exact ⟨hoC,hC,neL,nfs,fun v hv=>by have hdC':oC.data=_:=hdC;rw [hdC'] at hv;cases hv⟩
 show wpAny _ X.A (assign (.Name y py) X.env (.ref d)) _ _ s'
 refine thn (z3q (X:=X) (i:=i) hN hy (.inl hl) (.inr hl) _ s' σ H' (.ref d) (.ref d) (fun σ2 H2=>D.nx σ2 H2) Ip rfl q) fun _ s4 ⟨σ4,H4,I4,q4⟩=>?_
 have pn:=I4.pin (s3.heap.objs.size,oC) (List.mem_append_right _ (List.mem_append_right _ (by simp)))
 refine ⟨m,⟨oC,es,ep,pn.1,hdC,hrC⟩,fun h' hs=>⟨σ4,H4,?_,q4⟩⟩
 have I4u:Inv X pins σ4 H4 s4:=I4.unpinned
 have st:=I4u.step (g':=s4.gens) (t':=s4.toks) (d':=s4.drawn) (h':=h') (H':=H4) (ch:=[s3.heap.objs.size]) (fun b hb=>?_) (fun b o _ _ hc e _=>(hs.2 b (by simpa using hc)).trans e)
  (fun b o _ _ hc e _=>⟨o.slots,(hs.2 b (by simpa using hc)).trans e⟩) (fun _ _ _ _ n=>n) (fun b o hc e=>⟨o,(hs.2 b (by simpa using hc)).trans e⟩) (fun _ _ e=>e) (fun _ _ _ e=>e) (fun b ps e=>⟨#[],by rw [e];simp⟩) (fun m hm=>?_) (fun b u e=>?_) I4u.bare
 ·exact st
 ·have e:b=s3.heap.objs.size:=by simpa using hb
  subst e
  refine ⟨.inr I3.sz,neL,fun x c e2 z=>?_,fun p hp z=>?_⟩
  ·obtain ⟨v,q2⟩:=I3.cell x c e2
   exact absurd q2.lt (by rw [z];exact Nat.lt_irrefl _)
  ·have e3:=(I3.pin p hp).1
   exact absurd (Heap.lt_size e3) (by rw [z];exact Nat.lt_irrefl _)
 ·obtain ⟨o,es',ep',ho',r'⟩:=hm
  exact ⟨o,es',ep',(hs.2 _ (Ne.symm neL)).trans ho',r'⟩
 ·refine (I4u.hok b u e).stay (fun c v hc q=>?_) (fun _ q=>q) fun _ _ q=>q
  have n4:H4 s3.heap.objs.size=none:=pn.2.1
  have ne:c≠s3.heap.objs.size:=by
   rintro rfl
   rcases hc with z | z
   ·rw [← z,n4] at e;cases e
   ·rw [n4] at z;cases z
  exact (hs.2 c ne).trans q
end
end L2
namespace FT
open PySem PySem.Spec PyProof.Rows L2
def z8i (n:Nat) (i v:D):M Unit:=z52 (.ref n) i v
noncomputable def z0e (src:Src) (g:D->G->M G) (k:G->M Bool) (me mv:G->M D) (n0:Nat) (γ:G):List D->M Unit
 | []=>do
  let _ ← src.chk
  pure ()
 | d :: r=>do
  let _ ← src.chk
  let γ1 ← g d γ
  let t ← k γ1
  if t then do
   let y ← me γ1
   let v ← mv γ1
   let _ ← z8i n0 y v
   z0e src g k me mv n0 γ r
  else z0e src g k me mv n0 γ r
noncomputable def z9f (cap:List (Option Nat)) (mi:G->M Src) (g:D->G->M G) (k:G->M Bool) (me mv:G->M D):G->M D:=fun γ=>do
 let src ← mi γ
 let n0 ← (fun h=>.ok h.length (h++[.dK []]):M Nat)
 let _ ← z0e src g k me mv n0 (capG cap γ) src.items
 pure (.ref n0)
section
variable {X:Cx}{EX:XX}{elt val tg iter c:Expr}{ifs:List Expr}{sc:Scope}{pos:Pos}{N':List Str}{cap:List (Option Nat)}{own:List Nat}{mi:G->M Src}{g:D->G->M G}{k kr:G->M Bool}{me mv:G->M D}
theorem z7A {σ:L2.St}{H0:Hp}{ρ0:List Addr}{h0:AH}{γ:G}{src:Src}{J:It}{Dd:Addr}{P:Hp->Prop}(r0:RH X.K ρ0 h0 H0) (rg:RG X.K ρ0 H0 γ σ) (hJ:JOK X.K src ρ0 H0 J) (hD:H0 Dd=none) (hown:∀ j∈own,cap[j]?=some none)
 (fin:Fin X.K EX (ρ0++[Dd]) (upd H0 Dd (.dK [])) (fun _ ρ' h' H'=>ρ'[h0.length]?=some Dd->RH X.K ρ' h' H'->Ext X.K (upd H0 Dd (.dK [])) H'->Pre (ρ0++[Dd]) ρ'->P H') (z0e src g k me mv h0.length (capG cap γ) src.items (h0++[.dK []]))) :
 z3X cap (tGk X.K EX own g) (tT X.K EX k) (tE X.K EX me) (tE X.K EX mv) σ J Dd P (upd H0 Dd (.dK [])):=by
 have rP:RH X.K (ρ0++[Dd]) (h0++[.dK []]) (upd H0 Dd (.dK [])):=r0.pushO hD ⟨[],y0,.nil⟩
 have eP:Ext X.K H0 (upd H0 Dd (.dK [])):=Ext.upd (.inl hD)
 have at0:(ρ0++[Dd])[h0.length]?=some Dd:=by rw [← r0.len];simp
 refine ⟨fun i m H=>m+i=src.items.length/\∃ ρ h,Pre (ρ0++[Dd]) ρ/\Ext X.K (upd H0 Dd (.dK [])) H/\RH X.K ρ h H /\
  Fin X.K EX ρ H (fun _ ρ' h' H'=>ρ'[h0.length]?=some Dd->RH X.K ρ' h' H'->Ext X.K (upd H0 Dd (.dK [])) H'->Pre (ρ0++[Dd]) ρ'->P H') (z0e src g k me mv h0.length (capG cap γ) (src.items.drop i) h),
  ⟨src.items.length,rfl,_,_,Pre.refl _,Ext.refl _ _,rP,fin⟩,?_⟩
 rintro i m H1 ⟨hm,ρ1,h1,p1,e1,r1,f1⟩
 have p01:Pre ρ0 ρ1:=(Pre.app _ _).trans p1
 have e01:Ext X.K H0 H1:=eP.trans e1
 by_cases hi:i<src.items.length
 ·have hd:src.items.drop i=src.items[i] :: src.items.drop (i+1):=List.drop_eq_getElem_cons hi
  rw [hd] at f1
  unfold z0e at f1
  obtain ⟨good,f2⟩:=z0J f1 r1
  obtain ⟨j1,j2⟩:=hJ i ρ1 h1 H1 p01 e01 r1 good
  obtain ⟨go,yld⟩:=j1 src.items[i] (List.getElem?_eq_getElem hi)
  refine .inr ⟨go,fun x H2 y=>?_⟩
  obtain ⟨rd,rh,ext⟩:=yld x H2 y
  have rgc:RG X.K ρ1 H2 (capG cap γ) (Y1 cap σ):=(z4g cap rg).mono p01 (e01.trans ext)
  refine ⟨ρ1,_,h1,_,⟨rgc,rh⟩,rd,(Fin.bind (Fin.up (Pre.refl _) ext f2)).mono fun γ2 ρ3 h3 H3 p3 e3 r3 f3 σ3 g3 k3=>⟨fun j v hv=>?_,ρ3,γ2,h3,⟨g3,r3⟩,(Fin.bind f3).mono fun t ρ4 h4 H4 p4 e4 r4 f4=>?_⟩⟩
  ·rw [k3 j fun hj=>?_]
   ·exact hv
   ·have z:=hown j hj
    unfold Y1 at hv
    rw [List.getElem?_map,z] at hv
    simp at hv
  ·have pp:Pre (ρ0++[Dd]) ρ4:=(p1.trans p3).trans p4
   have ee:Ext X.K (upd H0 Dd (.dK [])) H4:=((e1.trans ext).trans e3).trans e4
   cases t with
   | false =>
    rw [if_neg (by decide)] at f4
    dsimp only
    rw [if_neg (by decide)]
    exact ⟨m - 1,by omega,by omega,ρ4,h4,pp,ee,r4,f4⟩
   | true =>
    rw [if_pos rfl] at f4
    dsimp only
    rw [if_pos rfl]
    refine ⟨ρ4,γ2,h4,⟨g3.mono p4 e4,r4⟩,(Fin.bind f4).mono fun yd ρ5 h5 H5 p5 e5 r5 f5 y ry=>⟨ρ5,γ2,h5,⟨(g3.mono p4 e4).mono p5 e5,r5⟩,(Fin.bind f5).mono fun d ρ6 h6 H6 p6 e6 r6 f6 v rv=>?_⟩⟩
    have hq:ρ6[h0.length]?=some Dd:=((pp.trans p5).trans p6) _ _ at0
    have f7:=Fin.bind f6
    unfold z8i z52 at f7
    dsimp only at f7
    cases ek:keyD yd with
    | none=>rw [ek] at f7;exact f7.elim
    | some kk =>
     rw [ek] at f7
     dsimp only at f7
     have hy:=z75 ek ry
     cases e7:h6[h0.length]? with
     | none=>rw [e7] at f7;exact f7.elim
     | some ob =>
      cases ob with
      | set ks=>rw [e7] at f7;exact f7.elim
      | dct=>rw [e7] at f7;exact f7.elim
      | lst xs=>rw [e7] at f7;exact f7.elim
      | exc c=>rw [e7] at f7;exact f7.elim
      | dF c=>rw [e7] at f7;exact f7.elim
      | dK kvs =>
       rw [e7] at f7
       dsimp only at f7
       split at f7
       ·rename_i hl
        obtain ⟨a1,n1,vs,o1,d1⟩:=r6.at e7
        rw [hq] at n1;cases n1
        have ext2:Ext X.K H6 (upd H6 Dd (.dK (L2.putK vs kk v))):=Ext.upd (.inr (r6.tracked hq e7))
        have r7:RH X.K ρ6 (h6.set h0.length (.dK (ptD kvs kk d))) (upd H6 Dd (.dK (L2.putK vs kk v))):=r6.setO e7 hq ⟨_,y0,(d1.put kk rv).mono (Pre.refl _) ext2⟩
        have hl2:=d1.len
        exact ⟨kk,vs,hy,o1,by omega,m - 1,by omega,by omega,ρ6,_,(pp.trans p5).trans p6,((ee.trans e5).trans e6).trans ext2,r7,f7 ρ6 _ (Pre.refl _) ext2 r7⟩
       ·exact f7.elim
 ·have hd:src.items.drop i=[]:=List.drop_eq_nil_of_le (by omega)
  rw [hd] at f1
  unfold z0e at f1
  obtain ⟨good,f2⟩:=z0J f1 r1
  obtain ⟨j1,j2⟩:=hJ i ρ1 h1 H1 p01 e01 r1 good
  exact .inl ⟨j2 (by omega),f2 ρ1 H1 (Pre.refl _) (Ext.refl _ _) r1 (p1 _ _ at0) r1 e1 p1⟩
noncomputable def z5L (i:Nat) (cap:List (Option Nat)) (mi:G->M Src) (g:D->G->M G) (k:G->M Bool) (me mv:G->M D):G->M Out:=sAsg (z9f cap mi g k me mv) (gN i)
theorem zl1 (i:Nat) {y:Str}{py spos:Pos}(hc:X.calm=true) (S:CS X sc N' cap) (hi:SI X EX tg iter mi) (hg:∀ s H fp xe,SGk (X.comp N' sc s H fp xe) EX tg own g) (ht:∀ s H fp xe,SCs (X.comp N' sc s H fp xe) EX ifs k)
 (he:∀ s H fp xe,SE (X.comp N' sc s H fp xe) EX elt me) (hv:∀ s H fp xe,SE (X.comp N' sc s H fp xe) EX val mv) (hN:X.N.Nodup) (hy:X.N[i]?=some y:=by rfl) (hl:X.env.scope.names.lookup y=some .local:=by rfl) (hown:∀ j∈own,cap[j]?=some none:=by decide)
 (hsw:swapsWith (.DictComp elt val [⟨tg,iter,ifs,0⟩] sc pos) (some (.Name y py)) spos.line X.env=pure true:=by rfl) (hs:∀ x,foldedSetIterable iter X.env x=pure x:=by intro _;rfl) :
 S1 X EX (.Assign [.Name y py] (.DictComp elt val [⟨tg,iter,ifs,0⟩] sc pos) spos) (z5L i cap mi g k me mv) :=
 ⟨PS.imp (z9X (g:=tGk X.K EX own g) (ti:=tT X.K EX k) (te:=tE X.K EX me) (tv:=tE X.K EX mv) hc S hi.h (fun s H fp xe=>(hg s H fp xe).h) (fun s H fp xe=>(ht s H fp xe).h) (fun s H fp xe=>(he s H fp xe).h) (fun s H fp xe=>(hv s H fp xe).h) hN hy hl hsw hs) fun σ H D ⟨ρ,γ,h,rel,fin⟩=>⟨ρ,γ,h,rel,(Fin.bind (Fin.bind fin)).mono fun src ρ0 h0 H0 p0 e0 r0 f0 J hJ Dd hD=>by
  have rP:RH X.K (ρ0++[Dd]) (h0++[.dK []]) (upd H0 Dd (.dK [])):=r0.pushO hD ⟨[],y0,.nil⟩
  have eP:Ext X.K H0 (upd H0 Dd (.dK [])):=Ext.upd (.inl hD)
  have f1:=Fin.bind f0
  have f2:=f1 (ρ0++[Dd]) _ (Pre.app _ _) eP rP
  refine z7A r0 (rel.g.mono p0 e0) hJ hD hown ((Fin.bind f2).mono fun _ ρ5 h5 H5 p5 e5 r5 f5 hat rr ee pp=>?_)
  have f6:=f5 ρ5 H5 (Pre.refl _) (Ext.refl _ _) rr
  have f7:=f6 ρ5 H5 (Pre.refl _) (Ext.refl _ _) rr
  refine f7 _ (RG.set (((rel.g.mono p0 e0).mono (Pre.app _ _) eP).mono pp ee) i ?_)
  simp only [RD]
  exact ⟨Dd,rfl,hat⟩⟩⟩
end
end FT
namespace L2
open PySem PySem.Spec PyProof.Rows
theorem zF1 {k:Key}{u:Value}(h:z10 k u=true):RelV (kV k) u:=by
 rcases j6 h with ⟨i,t,rfl,rfl⟩ | ⟨x,t,rfl,rfl⟩
 ·exact ⟨t,rfl⟩
 ·exact ⟨t,rfl⟩
theorem KV.get:∀ {kvs:List (Key×V)}{vs:List (Key×Value)},KV kvs vs->∀ {i:Nat}{k:Key}{x:V},kvs[i]?=some (k,x)->∃ u,vs[i]?=some (k,u)
 | _,_,.nil,i,k,x,e=>by simp at e
 | p :: _,q :: _,.cons a b,0,k,x,e=>by
  have e':p=(k,x):=by simpa using e
  subst e'
  obtain ⟨a1,_⟩:=a
  refine ⟨q.2,?_⟩
  show some q=_
  rw [show k=q.1 from a1]
 | _ :: _,_ :: _,.cons a b,i+1,k,x,e=>KV.get b (by simpa using e)
def Itk (a:Addr) (ob:Obj) (n:Nat):It :=
 ⟨fun i H=>∃ vs k x,H a=some (.frz ob (.dK vs))/\vs.length=n/\vs[i]?=some (k,x),fun i H y H'=>H'=H/\∀ vs,H a=some (.frz ob (.dK vs))->∃ k x,vs[i]?=some (k,x)/\y=kV k,fun i H=>i=n/\∃ vs,H a=some (.frz ob (.dK vs))/\vs.length=n⟩
theorem zg5 {X:Cx}{pins:List (Addr×Obj)}{σ:St}{H:Hp}{s:Shared}{a:Addr}{ob:Obj}{vs:List (Key×V)}{es:Array DictEntry}{ep:Nat}(I:Inv X pins σ H s) (e:H a=some (.frz ob (.dK vs))) (hob:ob.data=.dict es ep) :
 vs.length≤sizeLine/\∃ us,KV vs us/\s.heap.DictAt (k6 X.prog X.w) a us ep:=by
 obtain ⟨go,z,hd,us,rel,o,es',ep',ho,r⟩:=(show ObjOk X.prog X.w H s.heap a (.frz ob (.dK vs)) from I.hok a _ e)
 rw [go] at ho
 cases ho
 obtain ⟨r1,r2,r3⟩:=r
 have:ep'=ep:=by rw [hob] at r2;cases r2;rfl
 subst this
 exact ⟨z,us,rel,ob,es',go,r1,r2,r3⟩
theorem z5e {P:Program}{w:World}{K:PySem.W.Frag}{tg:Expr}(a it:Addr) (ob:Obj) (n ep:Nat) {es:Array DictEntry}(hob:ob.data=.dict es ep):Turn P w K tg (Itk a ob n) [it] it (fun i h=>h.IsKeyIter it a i n ep) where
 mem:=by simp
 obj:=fun i h st b hb=>by
  have e:b=it:=by simpa using hb
  subst e
  obtain ⟨o,e,c,d⟩:=st
  exact ⟨o,e,fun v z=>by rw [d] at z;cases z⟩
 keep:=fun i h h' st k=>st.at fun o e=>k it (by simp) o e
 item:=by
  intro X hP hw hK hc i pins s σ H E I hf st hg
  subst hP hw hK
  obtain ⟨vs,k,x,hq,hl,hx⟩:=hg
  obtain ⟨z,us,rel,dat⟩:=zg5 I hq hob
  obtain ⟨u,hu⟩:=rel.get hx
  have le:=rel.length
  have st':s.heap.IsKeyIter it a i us.length ep:=by rw [← le,hl];exact st
  obtain ⟨f0,f1,f2,f3,f4,f5⟩:=hf it (by simp)
  refine wpAny_pyNext_dict_item st' dat hu fun key h' hkey hit' sb=>?_
  have I1:Inv X pins σ H { s with heap:=h' }:=I.turned (t':=s.toks) (fun b o hb e=>(sb.2 b hb).trans e) f0 f1 f3 f4 f5
  have hit2:h'.IsKeyIter it a (i+1) n ep:=by rw [← hl,le];exact hit'
  obtain ⟨o,e,c,d⟩:=id hit2
  exact ⟨key,rfl,zd7 (s:={ s with heap:=h' }) e c d (by decide) ⟨kV k,H,I1,zF1 hkey,⟨rfl,fun ys hy=>by rw [hq] at hy;cases hy;exact ⟨k,x,hx,rfl⟩⟩,hit2,fun b hb=>(hf b hb).1⟩⟩
 done:=by
  intro X hP hw hK hc i pins s σ H E I hf st hg
  subst hP hw hK
  obtain ⟨hi,vs,hq,hl⟩:=hg
  obtain ⟨z,us,rel,dat⟩:=zg5 I hq hob
  have le:=rel.length
  have st':s.heap.IsKeyIter it a i us.length ep:=by rw [← le,hl];exact st
  obtain ⟨f0,f1,f2,f3,f4,f5⟩:=hf it (by simp)
  exact wpAny_pyNext_dict_end (I.ok.hd hc) st' dat (List.getElem?_eq_none (by omega)) fun h' eb=>⟨rfl,I.turned (t':=s.toks) (fun b o hb e=>eb b o hb e) f0 f1 f3 f4 f5⟩
 self:=fun _ _ _ _ _ st h=>wpAny_pyIter_keyiter st h
section
variable {X:Cx}{tg:Expr}
def zD3 (tl:TE):TI:=fun σ H R=>tl σ H fun x H1=>∃ a,x=.ref a/\((∃ vs,H1 a=some (.dK vs)/\∀ ob,R (Itk a ob vs.length) (upd H1 a (.frz ob (.dK vs))))∨∃ ob vs,H1 a=some (.frz ob (.dK vs))/\R (Itk a ob vs.length) H1)
theorem zm7 {l:Expr}{tl:TE}(hl:PE X l tl):PI X tg l (zD3 tl):=by
 intro pins s σ H R I h
 refine thn (hl pins s σ H _ I h) fun v s1 ⟨x,H1,I1,r1,q1⟩=>?_
 obtain ⟨a,e,q1⟩:=q1
 subst e
 cases r1
 rcases q1 with ⟨vs,hH,q⟩ | ⟨ob,vs,hH,q⟩
 ·obtain ⟨z,hd,us,rel,dd⟩:=z7m I1.hok hH
  obtain ⟨ob,es,ep,ho,r1,r2,r3⟩:=id dd
  have dat:s1.heap.DictAt (k6 X.prog X.w) a us ep:=⟨ob,es,ho,r1,r2,r3⟩
  refine wpAny_pyIter_dict hd dat ?_
  have le:=rel.length
  generalize hp:({ cls:=.type "dict_keyiterator",data:=.fields #[.ref a,.int 0 0,.int us.length 0,.int ep 0] }:Obj)=itO
  have I2:Inv X pins σ H1 { s1 with heap:=s1.heap.push itO }:=I1.kept (t':=s1.toks) fun b o e=>Heap.get?_push_of_some _ e
  have ho2:(s1.heap.push itO).get? a=some ob:=Heap.get?_push_of_some _ ho
  have I3:Inv X pins σ (upd H1 a (.frz ob (.dK vs))) { s1 with heap:=s1.heap.push itO }:=z32 (s:={ s1 with heap:=s1.heap.push itO }) (h':=s1.heap.push itO) (t':=s1.toks) I2 (by rw [hH];exact True.intro) (Heap.SameBut.refl _ _) ⟨_,ho2⟩ ⟨ho2,z,hd,us,rel,ob,es,ep,ho2,r1,r2,r3⟩
  refine ⟨s1.heap.objs.size,[s1.heap.objs.size],_,_,_,rfl,I3,z5e a _ ob vs.length ep r2,?_,fun b hb=>?_,q ob⟩
  ·refine ⟨itO,?_,by rw [← hp],by rw [← hp,le];rfl⟩
   exact Heap.get?_push_size _ (by rw [← hp];rfl)
  ·have e:b=s1.heap.objs.size:=by simpa using hb
   subst e
   refine I1.fpOk (Nat.le_refl _) ?_
   rw [y6 (Nat.ne_of_gt (Heap.lt_size ho))]
   exact I1.hok.fresh (Nat.le_refl _)
 ·obtain ⟨go,z,hd,us,rel,dd⟩:=(show ObjOk X.prog X.w H1 s1.heap a (.frz ob (.dK vs)) from I1.hok a _ hH)
  obtain ⟨ob',es,ep,ho,r1,r2,r3⟩:=id dd
  rw [go] at ho
  cases ho
  have dat:s1.heap.DictAt (k6 X.prog X.w) a us ep:=⟨ob,es,go,r1,r2,r3⟩
  refine wpAny_pyIter_dict hd dat ?_
  have le:=rel.length
  generalize hp:({ cls:=.type "dict_keyiterator",data:=.fields #[.ref a,.int 0 0,.int us.length 0,.int ep 0] }:Obj)=itO
  have I2:Inv X pins σ H1 { s1 with heap:=s1.heap.push itO }:=I1.kept (t':=s1.toks) fun b o e=>Heap.get?_push_of_some _ e
  refine ⟨s1.heap.objs.size,[s1.heap.objs.size],_,_,_,rfl,I2,z5e a _ ob vs.length ep r2,?_,fun b hb=>?_,q⟩
  ·refine ⟨itO,?_,by rw [← hp],by rw [← hp,le];rfl⟩
   exact Heap.get?_push_size _ (by rw [← hp];rfl)
  ·have e:b=s1.heap.objs.size:=by simpa using hb
   subst e
   exact I1.fpOk (Nat.le_refl _) (I1.hok.fresh (Nat.le_refl _))
end
end L2
namespace FT
open PySem PySem.Spec PyProof.Rows L2
def kD:Key->D
 | .inl i=>.int i
 | .inr x=>.str x
theorem ze8 {K:PySem.W.Frag}{ρ:List Addr}{H:Hp}(k:Key):RD K ρ H (kD k) (kV k):=by cases k<;>simp [kD,kV,RD]
def z11 (kvs:List (Key×D)):List D:=kvs.map fun kv=>kD kv.1
def iDic (ma:G->M D):G->M Src:=fun γ=>do
 let x ← ma γ
 match x with
 | .ref n=>fun h=>match h[n]? with
  | some (.dK kvs)=>.ok (.con (z11 kvs)) (h.set n (.dF kvs))
  | some (.dF kvs)=>.ok (.con (z11 kvs)) h
  | _=>.bad
 | _=>bad
theorem RK.get {K:PySem.W.Frag}{ρ:List Addr}{H:Hp}:∀ {kvs:List (Key×D)}{vs:List (Key×V)},RK K ρ H kvs vs->∀ {i:Nat}{d:D},(z11 kvs)[i]?=some d->∃ k x,d=kD k/\vs[i]?=some (k,x)
 | _,_,.nil,i,d,e=>by simp [z11] at e
 | p :: _,q :: _,.cons a b,0,d,e=>by
  have e':kD p.1=d:=by simpa [z11] using e
  subst e'
  exact ⟨q.1,q.2,by rw [a.1],rfl⟩
 | _ :: _,_ :: _,.cons a b,i+1,d,e=>RK.get b (by simpa [z11] using e)
theorem z67 {K:PySem.W.Frag}{ρ:List Addr}{H:Hp}{a:Addr}{ob:Obj}{kvs:List (Key×D)}{vs:List (Key×V)}(e:H a=some (.frz ob (.dK vs))) (rk:RK K ρ H kvs vs):JOK K (.con (z11 kvs)) ρ H (Itk a ob vs.length):=fun i ρ2 h2 H2 p2 e2 r2 _=>by
 have hq:=e2.d _ _ _ e
 refine ⟨fun d hd=>?_,fun hi=>?_⟩
 ·obtain ⟨k,x,rfl,g⟩:=RK.get rk hd
  refine ⟨⟨vs,k,x,hq,rfl,g⟩,fun y H3 ⟨z1,z2⟩=>?_⟩
  subst z1
  obtain ⟨k',x',g',rfl⟩:=z2 vs hq
  rw [g] at g'
  cases g'
  exact ⟨ze8 k,r2,Ext.refl _ _⟩
 ·refine ⟨?_,vs,hq,rfl⟩
  have:(z11 kvs).length=i:=hi
  unfold z11 at this
  rw [List.length_map,RK.len rk] at this
  exact this.symm
section
variable {X:Cx}{EX:XX}{a tg:Expr}{ma:G->M D}
theorem zi3 (ha:SE X EX a ma):SI X EX tg a (iDic ma) :=
 ⟨PI.imp (zm7 ha.h) fun σ H R ⟨ρ,γ,h,rel,fin⟩=>⟨ρ,γ,h,rel,(Fin.bind fin).mono fun x ρ1 h1 H1 p1 e1 r1 f1 v rv=>by
  cases x<;>first | exact (show False from f1).elim | skip
  rename_i n
  simp only [RD] at rv
  obtain ⟨q,rfl,hq⟩:=rv
  refine ⟨q,rfl,?_⟩
  dsimp only at f1
  cases e:h1[n]? with
  | none=>rw [e] at f1;exact f1.elim
  | some ob =>
   cases ob with
   | lst xs=>rw [e] at f1;exact f1.elim
   | set xs=>rw [e] at f1;exact f1.elim
   | dct=>rw [e] at f1;exact f1.elim
   | exc c=>rw [e] at f1;exact f1.elim
   | dK kvs =>
    rw [e] at f1
    dsimp only at f1
    obtain ⟨a1,n1,vs,o1,d1⟩:=r1.at e
    rw [hq] at n1;cases n1
    refine .inl ⟨vs,o1,fun ob=>?_⟩
    have ext:Ext X.K H1 (upd H1 q (.frz ob (.dK vs))):=Ext.upd (.inr ⟨_,o1,trivial⟩)
    have r2:RH X.K ρ1 (h1.set n (.dF kvs)) (upd H1 q (.frz ob (.dK vs))):=r1.setO e hq ⟨ob,vs,y0,d1.mono (Pre.refl _) ext⟩
    exact f1 ρ1 _ (Pre.refl _) ext r2 _ (z67 y0 (d1.mono (Pre.refl _) ext))
   | dF kvs =>
    rw [e] at f1
    dsimp only at f1
    obtain ⟨a1,n1,ob,vs,o1,d1⟩:=r1.at e
    rw [hq] at n1;cases n1
    exact .inr ⟨ob,vs,o1,f1 ρ1 _ (Pre.refl _) (Ext.refl _ _) r1 _ (z67 o1 d1)⟩⟩⟩
end
end FT
namespace L2
open PySem PySem.Spec PyProof.Rows
section
variable {X:Cx}{tg:Expr}
end
end L2
namespace FT
open PySem PySem.Spec PyProof.Rows L2
section
variable {X:Cx}{EX:XX}{a tg:Expr}{p pos:Pos}{ma:G->M D}
end
end FT
set_option maxHeartbeats 4000000
namespace FT
open PySem PySem.Spec PyProof.Rows L2
section
variable {P:Program}{w:World}{A:Around}{E:Value->Shared->Prop}{s:Shared}
end
section
variable {X:Cx}{EX:XX}{p pos:Pos}
end
end FT
set_option maxHeartbeats 2000000
namespace FT
open PySem PySem.Spec PyProof.Rows L2
section
variable {st:List (List Nat)}{x y z:Nat}
end
structure KS where
 seen:List Nat
 ord:List Nat
 wt:List (Nat×Bool)
section
variable {st:List (List Nat)}{V:List Nat}{s:KS}
end
section
variable {st:List (List Nat)}{V:List Nat}{s:KS}
end
section
variable {s1 s2:List (List Nat)}{V:List Nat}
end
section
variable {st:List (List Nat)}{V:List Nat}{s:KS}
end
section
variable {cap:List (Option Nat)}{mi:G->M Src}{g:D->G->M G}{kb:G->M Bool}{me mv:G->M D}{γ:G}
end
theorem sm0 {h:AH}{o o':O}{j:AH}:(h++o :: j).set h.length o'=h++o' :: j:=by rw [List.set_append_right _ _ (Nat.le_refl _),Nat.sub_self];rfl
end FT
namespace L2
open PySem PySem.Spec PyProof.Rows
section
variable {prog:Program}{w:World}{A:Around}{R:Result->Shared->Prop}{s:Shared}{elt val tg iter tg1 iter1:Expr}{ifs ifs1:List Expr}{scope:Scope}{pos:Pos}{it acc:Value}{D:Addr}{env:Env}
abbrev twoD (elt val tg iter tg1 iter1:Expr) (ifs ifs1:List Expr) (scope:Scope) (pos:Pos):Expr:=.DictComp elt val [⟨tg,iter,ifs,0⟩,⟨tg1,iter1,ifs1,0⟩] scope pos
theorem z8I:compTurn (.DictComp elt val [⟨tg,iter,ifs,0⟩,⟨tg1,iter1,ifs1,0⟩] scope pos) 1 it (.ref D) env=(do
 standAt iter1.pos
 match ← pyNext it with
 | none=>pure (.done .next)
 | some v =>
  letOwnedTupleGo tg1 it v
  assign tg1 env v
  let ok ← z0R ifs1 env
  if ok then
   (do
    let x ← eval elt env
    let y ← holding [x] (eval val env)
    standAt { elt.pos with endLine:=val.pos.endLine,endCol:=val.pos.endCol }
    holding [x,y] (dictSet D x y))
  again (.compLoop (.DictComp elt val [⟨tg,iter,ifs,0⟩,⟨tg1,iter1,ifs1,0⟩] scope pos) 1 it (.ref D) env)):=by rfl
theorem z78:compTurn (.DictComp elt val [⟨tg,iter,ifs,0⟩,⟨tg1,iter1,ifs1,0⟩] scope pos) 0 it acc env=(do
 standAt iter.pos
 match ← pyNext it with
 | none=>pure (.done .next)
 | some v =>
  letOwnedTupleGo tg it v
  assign tg env v
  let ok ← z0R ifs env
  if ok then
   let x ← eval iter1 env
   standAt iter1.pos
   let x ← foldedSetIterable iter1 env x
   let _ ← runOwn (.compStart (.DictComp elt val [⟨tg,iter,ifs,0⟩,⟨tg1,iter1,ifs1,0⟩] scope pos) 1 (← holding [x] (pyIter x)) acc env) env
  again (.compLoop (.DictComp elt val [⟨tg,iter,ifs,0⟩,⟨tg1,iter1,ifs1,0⟩] scope pos) 0 it acc env)):=by rfl
theorem z7N (I:Nat->Shared->Prop)
 (turn:∀ n s,I n s->wpAny (model prog w) A (pyNext it) (fun r s1=>match r with
  | none=>R (.ok .next) s1
  | some v=>wpAny (model prog w) A (letOwnedTupleGo tg1 it v) (fun _ s2 =>
   wpAny (model prog w) A (assign tg1 env v) (fun _ s3 =>
    wpAny (model prog w) A (z0R ifs1 env) (fun ok s4 =>
     if ok=true then wpAny (model prog w) A (eval elt env) (fun x s5 =>
      wpAny (model prog w) A (eval val env) (fun y s6=>wpAny (model prog w) A (dictSet D x y) (fun _ s7=>∃ m,m<n/\I m s7)
       (notedBy (model prog w) A env fun e s'=>R (.error e) s') s6)
       (notedBy (model prog w) A env fun e s'=>R (.error e) s') s5)
       (notedBy (model prog w) A env fun e s'=>R (.error e) s') s4
     else ∃ m,m<n/\I m s4)
     (notedBy (model prog w) A env fun e s'=>R (.error e) s') s3)
    (notedBy (model prog w) A env fun e s'=>R (.error e) s') s2)
   (notedBy (model prog w) A env fun e s'=>R (.error e) s') s1)
  (notedBy (model prog w) A env fun e s'=>R (.error e) s') s)
 (n:Nat) (h:I n s) :
 codeAny (model prog w) A (.compLoop (twoD elt val tg iter tg1 iter1 ifs ifs1 scope pos) 1 it (.ref D) env) R s:=by
 refine codeAny_loop rfl I (fun n s hI=>?_) n h
 show wpAny _ A ((compTurn (twoD elt val tg iter tg1 iter1 ifs ifs1 scope pos) 1 it (.ref D) env).onRaise
  (fun x=>do noteFrame x env;theTreesLotGoes x)) _ _ s
 refine wpAny_noted ?_
 rw [z8I]
 refine wpAny_bind (wpAny_standAt (wpAny_bind (wpAny_mono (turn n s hI) (fun r s1 h1=>?_) fun _ _ z=>z)))
 cases r with
 | none=>exact wpAny_pure h1
 | some v =>
  refine wpAny_bind (wpAny_mono h1 (fun _ s2 h2=>?_) fun _ _ z=>z)
  refine wpAny_bind (wpAny_mono h2 (fun _ s3 h3=>wpAny_bind (wpAny_mono h3 (fun ok s4 h4=>?_) fun _ _ z=>z)) fun _ _ z=>z)
  cases ok with
  | false=>exact wpAny_pure ⟨rfl,h4⟩
  | true =>
   exact wpAny_bind (wpAny_bind (wpAny_mono h4 (fun x s5 h5=>wpAny_bind (wpAny_holding (wpAny_mono h5 (fun y s6 h6=>wpAny_bind (wpAny_standAt (wpAny_holding (wpAny_mono h6 (fun _ s7 h7=>wpAny_pure ⟨rfl,h7⟩) fun _ _ z=>z)))) fun _ _ z=>z))) fun _ _ z=>z))
theorem z7g (I:Nat->Shared->Prop) (hs:∀ x,foldedSetIterable iter1 env x=pure x)
 (turn:∀ n s,I n s->wpAny (model prog w) A (pyNext it) (fun r s1=>match r with
  | none=>R (.ok .next) s1
  | some v=>wpAny (model prog w) A (letOwnedTupleGo tg it v) (fun _ s2 =>
   wpAny (model prog w) A (assign tg env v) (fun _ s3 =>
    wpAny (model prog w) A (z0R ifs env) (fun ok s4 =>
     if ok=true then wpAny (model prog w) A (eval iter1 env) (fun x s5=>wpAny (model prog w) A (pyIter x) (fun it1 s6 =>
      codeAny (model prog w) A (.compStart (twoD elt val tg iter tg1 iter1 ifs ifs1 scope pos) 1 it1 acc env) (fun r s'=>match r with
       | .ok _=>∃ m,m<n/\I m s'
       | .error e=>cameBackBy (model prog w) A env (notedBy (model prog w) A env fun e s'=>R (.error e) s') e s') s6)
       (notedBy (model prog w) A env fun e s'=>R (.error e) s') s5)
       (notedBy (model prog w) A env fun e s'=>R (.error e) s') s4
     else ∃ m,m<n/\I m s4)
     (notedBy (model prog w) A env fun e s'=>R (.error e) s') s3)
    (notedBy (model prog w) A env fun e s'=>R (.error e) s') s2)
   (notedBy (model prog w) A env fun e s'=>R (.error e) s') s1)
  (notedBy (model prog w) A env fun e s'=>R (.error e) s') s)
 (n:Nat) (h:I n s) :
 codeAny (model prog w) A (.compLoop (twoD elt val tg iter tg1 iter1 ifs ifs1 scope pos) 0 it acc env) R s:=by
 refine codeAny_loop rfl I (fun n s hI=>?_) n h
 show wpAny _ A ((compTurn (twoD elt val tg iter tg1 iter1 ifs ifs1 scope pos) 0 it acc env).onRaise
  (fun x=>do noteFrame x env;theTreesLotGoes x)) _ _ s
 refine wpAny_noted ?_
 rw [z78]
 refine wpAny_bind (wpAny_standAt (wpAny_bind (wpAny_mono (turn n s hI) (fun r s1 h1=>?_) fun _ _ z=>z)))
 cases r with
 | none=>exact wpAny_pure h1
 | some v =>
  refine wpAny_bind (wpAny_mono h1 (fun _ s2 h2=>?_) fun _ _ z=>z)
  refine wpAny_bind (wpAny_mono h2 (fun _ s3 h3=>wpAny_bind (wpAny_mono h3 (fun ok s4 h4=>?_) fun _ _ z=>z)) fun _ _ z=>z)
  cases ok with
  | false=>exact wpAny_pure ⟨rfl,h4⟩
  | true =>
   refine wpAny_bind (wpAny_mono h4 (fun x s5 h5=>?_) fun _ _ z=>z)
   refine wpAny_bind (wpAny_standAt (wpAny_bind (wpAny_of_eq (hs x) (wpAny_bind (wpAny_holding (wpAny_mono h5 (fun it1 s6 h6=>?_) fun _ _ z=>z))))))
   refine wpAny_bind (wpAny_runOwn (codeAny_mono h6 fun r s' hr=>?_))
   cases r with
   | ok f=>exact wpAny_pure ⟨rfl,hr⟩
   | error e=>exact hr
theorem zj0 (h0:codeAny (model prog w) A (.compLoop (twoD elt val tg iter tg1 iter1 ifs ifs1 scope pos) 1 it acc env) R s)
 (h:wpAny (model prog w) A (pyIter it) (fun it' s'=>codeAny (model prog w) A (.compLoop (twoD elt val tg iter tg1 iter1 ifs ifs1 scope pos) 1 it' acc env) R s')
  (notedBy (model prog w) A env fun x s'=>R (.error x) s') s) :
 codeAny (model prog w) A (.compStart (twoD elt val tg iter tg1 iter1 ifs ifs1 scope pos) 1 it acc env) R s:=by
 refine codeAny_of_tree ?_
 show wpAny _ _ ((compStart (twoD elt val tg iter tg1 iter1 ifs ifs1 scope pos) 1 it acc env).onRaise (fun x=>do noteFrame x env;standAt theWindowsPlace)) _ _ s
 refine wpAny_notedAt ?_
 unfold compStart
 show wpAny _ _ (ask >>= _) _ _ s
 refine wpAny_bind (wpAny_askSetting (wpAny_ite ?_))
 split
 ·first
   | exact wpAny_bind (wpAny_pure (wpAny_pure (And.intro rfl h0)))
   | exact wpAny_pure (And.intro rfl h0)
 ·first
   | exact wpAny_bind (wpAny_rule (wpAny_bind (wpAny_standAt (wpAny_bind (wpAny_mono h (fun it' s' h'=>wpAny_pure (And.intro rfl h')) fun _ _ x=>x)))))
   | (refine wpAny_bind (wpAny_rule ?_);show wpAny _ _ (standAt iter1.pos >>= _) _ _ s;exact wpAny_bind (wpAny_standAt (wpAny_bind (wpAny_mono h (fun it' s' h'=>wpAny_pure (And.intro rfl h')) fun _ _ x=>x))))
end
def z5A (g:TG) (ti:TT) (te tv:TE) (σ0:St) (J:It) (D:Addr) (Q:Hp->Prop) (H:Hp):Prop :=
 ∃ W:Nat->Nat->Hp->Prop,(∃ m,W 0 m H)/\∀ i m H,W i m H ->
  (J.stop i H/\Q H)∨(J.go i H/\∀ x H1,J.yld i H x H1->g x σ0 H1 fun σ2 H2=>(∀ (j:Nat) v,σ0[j]?=some (some v)->σ2[j]?=some (some v)) /\
   ti σ2 H2 fun ok H3=>if ok=true then te σ2 H3 fun y H4=>tv σ2 H4 fun v H5=>∃ k kvs,y=kV k/\H5 D=some (.dK kvs)/\kvs.length<sizeLine/\∃ m',m'<m/\W (i+1) m' (upd H5 D (.dK (putK kvs k v)))
    else ∃ m',m'<m/\W (i+1) m' H3)
def z2U (cap:List (Option Nat)) (g:TG) (wi:TI) (g1:TG) (ti:TT) (te tv:TE) (σ:St) (J:It) (D:Addr) (Q:Hp->Prop) (H:Hp):Prop :=
 ∃ W:Nat->Nat->Hp->Prop,(∃ m,W 0 m H)/\∀ i m H,W i m H ->
  (J.stop i H/\Q H)∨(J.go i H/\∀ x H1,J.yld i H x H1->g x (Y1 cap σ) H1 fun σ2 H2=>(∀ (j:Nat) v,(Y1 cap σ)[j]?=some (some v)->σ2[j]?=some (some v)) /\
   wi σ2 H2 fun J1 H3=>z5A g1 ti te tv σ2 J1 D (fun H4=>∃ m',m'<m/\W (i+1) m' H4) H3)
section
variable {X:Cx}{elt val tg iter tg1 iter1:Expr}{ifs1:List Expr}{sc:Scope}{pos:Pos}{N':List Str}{cap:List (Option Nat)}{g g1:TG}{wi1:TI}{ti:TT}{te tv:TE}
theorem z9x {pins:List (Addr×Obj)}{σ0:St}{H2:Hp}{s2:Shared}{it:Addr}{fp:List Addr}{tn:Nat->Heap->Prop}{J:It}{D:Addr}{R:Result->Shared->Prop}{Q:Hp->Prop}
 (hc:X.calm=true) (hg:PG (X.wish (notedBy (model X.prog X.w) X.A X.env fun e s'=>R (.error e) s')) tg1 g1) (ht:PTs (X.wish (notedBy (model X.prog X.w) X.A X.env fun e s'=>R (.error e) s')) ifs1 ti)
 (he:PE (X.wish (notedBy (model X.prog X.w) X.A X.env fun e s'=>R (.error e) s')) elt te) (hv:PE (X.wish (notedBy (model X.prog X.w) X.A X.env fun e s'=>R (.error e) s')) val tv)
 (I2:Inv X pins σ0 H2 s2) (T:Turn X.prog X.w X.K tg1 J fp it tn) (st2:tn 0 s2.heap) (f2:∀ b∈fp,FpOk X pins H2 b)
 (hq:z5A g1 ti te tv σ0 J D Q H2) (hR:∀ s' H',Inv X pins σ0 H' s'->Q H'->R (.ok .next) s') :
 codeAny (model X.prog X.w) X.A (.compStart (twoD elt val tg iter tg1 iter1 [] ifs1 sc pos) 1 (.ref it) (.ref D) X.env) R s2:=by
 let xe:Value->Shared->Prop:=notedBy (model X.prog X.w) X.A X.env fun e s'=>R (.error e) s'
 have stat:∀ {H':Hp},(∀ b∈fp,H' b=none)->∀ b∈fp,FpOk X pins H' b:=fun hn b hb=>⟨hn b hb,(f2 b hb).2⟩
 obtain ⟨W,⟨m0,w0⟩,turn⟩:=hq
 have loop:codeAny (model X.prog X.w) X.A (.compLoop (twoD elt val tg iter tg1 iter1 [] ifs1 sc pos) 1 (.ref it) (.ref D) X.env) R s2:=by
  refine z7N (fun n s'=>∃ i H',Inv X pins σ0 H' s'/\tn i s'.heap/\(∀ b∈fp,H' b=none)/\W i n H') ?_ m0 ⟨0,H2,I2,st2,fun b hb=>(f2 b hb).1,w0⟩
  rintro n s5 ⟨i,H5,I5,st5,fr5,w5⟩
  rcases turn i n H5 w5 with ⟨stop,qn⟩ | ⟨go,step⟩
  ·refine thn (T.done X rfl rfl rfl hc i pins s5 _ H5 xe I5 (stat fr5) st5 stop) fun r s6 ⟨hr,I6⟩=>?_
   subst hr
   exact hR s6 H5 I6 qn
  ·refine thn (T.item X rfl rfl rfl hc i pins s5 _ H5 xe I5 (stat fr5) st5 go) fun r s6 ⟨u,hr,h6⟩=>?_
   subst hr
   refine thn h6 fun _ s7 ⟨x,H7,I7,r7,y7,st7,fr7⟩=>?_
   have I7':=I7.pinned (stat fr7) (T.obj _ _ st7)
   refine thn (hg _ s7 _ H7 x u _ (I7'.wish _) r7 (step x H7 y7)) fun _ s8 ⟨σ8,H8,I8,k8,q8⟩=>?_
   refine thn (ht _ s8 σ8 H8 _ I8 q8) fun ok s9 ⟨H9,I9,q9⟩=>?_
   have again:∀ {σa:St} {Ha:Hp} {sa:Shared},Inv (X.wish xe) (pins++z1G fp s7.heap) σa Ha sa->(∀ (j:Nat) v,σ0[j]?=some (some v)->σa[j]?=some (some v)) ->
    Inv X pins σ0 Ha sa/\tn (i+1) sa.heap/\∀ b∈fp,Ha b=none:=fun {σa Ha sa} Iw ka=>by
    have Ia:=Iw.unwish
    refine ⟨Ia.unpinned.weak (I5.len.trans Ia.len.symm) ka,T.keep _ _ _ st7 fun b hb o e=>(Ia.pin (b,o) (List.mem_append_right _ (List.mem_append_right _ (k9 hb e)))).1,fun b hb=>?_⟩
    obtain ⟨o,e,d⟩:=T.obj _ _ st7 b hb
    exact (Ia.pin (b,o) (List.mem_append_right _ (List.mem_append_right _ (k9 hb e)))).2.1
   cases ok with
   | false =>
    have q9':∃ m',m'<n/\W (i+1) m' H9:=by simpa using q9
    obtain ⟨m',hm,w9⟩:=q9'
    obtain ⟨a1,a2,a3⟩:=again I9 k8
    exact ⟨m',hm,i+1,H9,a1,a2,a3,w9⟩
   | true =>
    rw [if_pos rfl] at q9
    refine thn (he _ s9 σ8 H9 _ I9 q9) fun kv sa ⟨y,Ha,Ia,ra,qa⟩=>?_
    refine thn (hv _ sa σ8 Ha _ Ia qa) fun vv sb ⟨z,Hb,Ib,rb,kk,kvs,ey,eb,zb,m',hm,wb⟩=>?_
    subst ey
    refine z5c (X:=X.wish xe) Ib eb zb ra rb fun s' I'=>?_
    obtain ⟨a1,a2,a3⟩:=again I' k8
    exact ⟨m',hm,i+1,_,a1,a2,a3,wb⟩
 exact zj0 loop (T.self _ 0 _ _ _ st2 loop)
theorem zy6 {pins:List (Addr×Obj)}{σ:St}{H2:Hp}{s2:Shared}{it:Addr}{fp:List Addr}{tn:Nat->Heap->Prop}{J:It}{E:Value->Shared->Prop}{RR:Value->Addr->Result->Shared->Prop}{Q:Addr->Hp->Prop}
 (hc:X.calm=true) (S:CS X sc N' cap) (hg:∀ s H fp xe,PG (X.comp N' sc s H fp xe) tg g) (hi1:∀ s H fp xe,PI (X.comp N' sc s H fp xe) tg1 iter1 wi1) (hg1:∀ s H fp xe,PG (X.comp N' sc s H fp xe) tg1 g1) (ht:∀ s H fp xe,PTs (X.comp N' sc s H fp xe) ifs1 ti) (he:∀ s H fp xe,PE (X.comp N' sc s H fp xe) elt te) (hv:∀ s H fp xe,PE (X.comp N' sc s H fp xe) val tv)
 (hs1:∀ env x,foldedSetIterable iter1 env x=pure x)
 (I2:Inv X pins σ H2 s2) (T:Turn X.prog X.w X.K tg J fp it tn) (st2:tn 0 s2.heap) (f2:∀ b∈fp,FpOk X pins H2 b)
 (hq:∀ D,H2 D=none->z2U cap g wi1 g1 ti te tv σ J D (Q D) (upd H2 D (.dK [])))
 (hRR:∀ (D:Addr) (s3:Shared) (H3:Hp) (xe:Value->Shared->Prop) (H':Hp) (pins':List (Addr×Obj)) (σ':St) (s':Shared),Inv X pins σ H3 s3->(∀ b∈fp,FpOk X pins H3 b)->Inv (X.comp N' sc s3 H3 fp xe) pins' σ' H' s'->Q D H'->RR (.ref D) s3.heap.objs.size (.ok .next) s') :
 wpAny (model X.prog X.w) X.A newDict (fun acc s3=>wpAny (model X.prog X.w) X.A (newFunctionEnv sc X.env.globals (y4 X.env sc.names []) [] X.env.qual none .none (some X.env)) (fun cenv s4 =>
  codeAny (model X.prog X.w) X.A (.compStart (twoD elt val tg iter tg1 iter1 [] ifs1 sc pos) 0 (.ref it) acc { cenv with scope:=relabel sc X.env }) (RR acc cenv.locals) s4) E s3) E s2:=by
 refine wpAny_newObj_type ?_
 have I3:=I2.laid (a:=s2.heap.objs.size) (o:=.dK []) (t':=s2.toks) (h':=s2.heap.push { cls:=.type "dict",dict:=none,data:=.dict #[] }) (fun _ _ q=>Heap.get?_push_of_some _ q) (Nat.le_refl _) (z49 s2.heap I2.big)
 have hfr:H2 s2.heap.objs.size=none:=I2.fresh
 have lt2:∀ b∈fp,b<s2.heap.objs.size:=fun b hb=>by
  obtain ⟨o,e,_⟩:=T.obj _ _ st2 b hb
  exact Heap.lt_size e
 generalize hD:s2.heap.objs.size=D at I3 hfr lt2 ⊢
 have r0:=hq D hfr
 generalize hs3:({ s2 with heap:=s2.heap.push { cls:=.type "dict",dict:=none,data:=.dict #[] },toks:=s2.toks }:Shared)=s3 at I3 ⊢
 have f3:∀ b∈fp,FpOk X pins (upd H2 D (.dK [])) b:=fun b hb=>⟨by rw [y6 (Nat.ne_of_lt (lt2 b hb))];exact (f2 b hb).1,(f2 b hb).2⟩
 have kp3:∀ b o,s2.heap.get? b=some o->s3.heap.get? b=some o:=fun b o e=>by rw [← hs3];exact Heap.get?_push_of_some _ e
 have st3:tn 0 s3.heap:=T.keep _ _ _ st2 fun b hb o e=>kp3 b o e
 have lt3:∀ b∈fp,b<s3.heap.objs.size:=fun b hb=>by
  obtain ⟨o,e,_⟩:=T.obj _ _ st3 b hb
  exact Heap.lt_size e
 generalize upd H2 D (.dK [])=H3 at I3 r0 f3
 refine wpAny_newFunctionEnv S.nocell (fun x hx=>absurd hx (by simp)) (fun h1 hns hsb=>?_) S.kind
 have kp4:∀ b o,s3.heap.get? b=some o->h1.get? b=some o:=fun b o e=>by
  rw [hsb.2 b (Nat.ne_of_lt (Heap.lt_size e))]
  exact Heap.get?_push_of_some _ e
 have hns':h1.Ns s3.heap.objs.size fun _=>none:=hns
 have st4:tn 0 h1:=T.keep _ _ _ st3 fun b hb o e=>kp4 b o e
 have frees:∀ b∈fp,H3 b=none:=fun b hb=>(f3 b hb).1
 have loop:codeAny (model X.prog X.w) X.A (.compLoop (twoD elt val tg iter tg1 iter1 [] ifs1 sc pos) 0 (.ref it) (.ref D) (compEnvC sc (y4 X.env sc.names []) s3.heap.objs.size X.env))
  (RR (.ref D) s3.heap.objs.size) { s3 with heap:=h1,toks:=s3.toks+([]:List (Str×Value)).length }:=by
  let xe:Value->Shared->Prop:=notedBy (model X.prog X.w) X.A (compEnvC sc (y4 X.env sc.names []) s3.heap.objs.size X.env) fun e s'=>RR (.ref D) s3.heap.objs.size (.error e) s'
  have I4:Inv (X.comp N' sc s3 H3 fp xe) [] (Y1 cap σ) H3 { s3 with heap:=h1,toks:=s3.toks+([]:List (Str×Value)).length }:=I3.compIn S f3 lt3 hns' kp4
  have stat:∀ {H':Hp},(∀ b∈fp,H' b=none)->∀ b∈fp,FpOk (X.comp N' sc s3 H3 fp xe) [] H' b:=fun hn b hb=>by
   obtain ⟨q1,q2⟩:=I4.ok.exf b hb
   exact ⟨hn b hb,q1,I4.ok.exfs b hb,.inl hb,q2,fun p hp=>absurd (show p∈([]:List (Addr×Obj)) from hp) (by simp)⟩
  obtain ⟨W,⟨m0,w0⟩,turn⟩:=r0
  refine z7g (fun n s'=>∃ i H',Inv (X.comp N' sc s3 H3 fp xe) [] (Y1 cap σ) H' s'/\tn i s'.heap/\(∀ b∈fp,H' b=none)/\W i n H') (hs1 _) ?_ m0 ⟨0,H3,I4,st4,frees,w0⟩
  rintro n s5 ⟨i,H5,I5,st5,fr5,w5⟩
  rcases turn i n H5 w5 with ⟨stop,qn⟩ | ⟨go,step⟩
  ·refine thn (T.done (X.comp N' sc s3 H3 fp xe) rfl rfl rfl hc i [] s5 _ H5 xe I5 (stat fr5) st5 stop) fun r s6 ⟨hr,I6⟩=>?_
   subst hr
   exact hRR D s3 H3 xe H5 [] _ s6 I3 f3 I6 qn
  ·refine thn (T.item (X.comp N' sc s3 H3 fp xe) rfl rfl rfl hc i [] s5 _ H5 xe I5 (stat fr5) st5 go) fun r s6 ⟨u,hr,h6⟩=>?_
   subst hr
   refine thn h6 fun _ s7 ⟨x,H7,I7,r7,y7,st7,fr7⟩=>?_
   have I7':=I7.pinned (stat fr7) (T.obj _ _ st7)
   refine thn (hg s3 H3 fp xe _ s7 _ H7 x u _ I7' r7 (step x H7 y7)) fun _ s8 ⟨σ8,H8,I8,k8,q8⟩=>?_
   have again:∀ {σa:St} {Ha:Hp} {sa:Shared},Inv (X.comp N' sc s3 H3 fp xe) ([]++z1G fp s7.heap) σa Ha sa->(∀ (j:Nat) v,(Y1 cap σ)[j]?=some (some v)->σa[j]?=some (some v)) ->
    Inv (X.comp N' sc s3 H3 fp xe) [] (Y1 cap σ) Ha sa/\tn (i+1) sa.heap/\∀ b∈fp,Ha b=none:=fun {σa Ha sa} Ia ka=>by
    refine ⟨Ia.unpinned.weak (I5.len.trans Ia.len.symm) ka,T.keep _ _ _ st7 fun b hb o e=>(Ia.pin (b,o) (List.mem_append_right _ (List.mem_append_right _ (k9 hb e)))).1,fun b hb=>?_⟩
    obtain ⟨o,e,d⟩:=T.obj _ _ st7 b hb
    exact (Ia.pin (b,o) (List.mem_append_right _ (List.mem_append_right _ (k9 hb e)))).2.1
   refine wpAny_pure ?_
   show (if true=true then _ else _)
   rw [if_pos rfl]
   refine thn (hi1 s3 H3 fp xe _ s8 σ8 H8 _ I8 q8) fun v9 s9 h9=>thn h9 fun itv sa ha=>?_
   obtain ⟨it1,fp1,tn1,J1,Ha,e,Ia,T1,sta,fa,rq⟩:=ha
   subst e
   refine z9x (X:=X.comp N' sc s3 H3 fp xe) hc (hg1 s3 H3 fp _) (ht s3 H3 fp _) (he s3 H3 fp _) (hv s3 H3 fp _) Ia T1 sta fa rq fun sb Hb Ib qb=>?_
   obtain ⟨m',hm,wb⟩:=qb
   obtain ⟨a1,a2,a3⟩:=again Ib k8
   exact ⟨m',hm,i+1,Hb,a1,a2,a3,wb⟩
 exact codeAny_compStart_dict loop (T.self _ 0 _ _ _ st4 loop)
def zp4 (cap:List (Option Nat)) (wi:TI) (g:TG) (wi1:TI) (g1:TG) (ti:TT) (te tv:TE):TE:=fun σ H Q=>wi σ H fun J H1=>∀ D,H1 D=none->z2U cap g wi1 g1 ti te tv σ J D (fun H'=>Q (.ref D) H') (upd H1 D (.dK []))
theorem z8B {wi:TI}(hc:X.calm=true) (S:CS X sc N' cap) (hi:PI X tg iter wi) (hg:∀ s H fp xe,PG (X.comp N' sc s H fp xe) tg g) (hi1:∀ s H fp xe,PI (X.comp N' sc s H fp xe) tg1 iter1 wi1) (hg1:∀ s H fp xe,PG (X.comp N' sc s H fp xe) tg1 g1) (ht:∀ s H fp xe,PTs (X.comp N' sc s H fp xe) ifs1 ti)
 (he:∀ s H fp xe,PE (X.comp N' sc s H fp xe) elt te) (hv:∀ s H fp xe,PE (X.comp N' sc s H fp xe) val tv) (hs:∀ x,foldedSetIterable iter X.env x=pure x) (hs1:∀ env x,foldedSetIterable iter1 env x=pure x):PE X (twoD elt val tg iter tg1 iter1 [] ifs1 sc pos) (zp4 cap wi g wi1 g1 ti te tv):=by
 intro pins s σ H Q I h
 rw [arm_eval_DictComp]
 refine wpAny_comprehension_free (use:=none) rfl hs (z03 (S.cells I)) S.kind S.loc (thn (hi pins s σ H _ I h) fun v s1 h1=>thn h1 fun itv s2 h2=>?_)
 obtain ⟨it,fp,tn,J,H2,e,I2,T,st2,f2,rq⟩:=h2
 subst e
 refine zy6 (RR:=fun acc C=>compPost (model X.prog X.w) X.A X.xe none (EP X pins σ Q) acc C) (Q:=fun D H'=>Q (.ref D) H') hc S hg hi1 hg1 ht he hv hs1 I2 T st2 f2 rq ?_
 intro D s3 H3 xe H' pins' σ' s' I3 f3 J3 q
 obtain ⟨m,hn,_⟩:=id J3.loc
 exact ⟨m,hn,fun h' hs=>⟨.ref D,H',I3.compOut f3 J3 hs,rfl,q⟩⟩
end
end L2
namespace FT
open PySem PySem.Spec PyProof.Rows L2
noncomputable def z0N (src:Src) (g:D->G->M G) (mi:G->M Src) (g1:D->G->M G) (k:G->M Bool) (me mv:G->M D) (n0:Nat) (γ:G):List D->M Unit
 | []=>do
  let _ ← src.chk
  pure ()
 | d :: r=>do
  let _ ← src.chk
  let γ1 ← g d γ
  let s1 ← mi γ1
  let _ ← z0e s1 g1 k me mv n0 γ1 s1.items
  z0N src g mi g1 k me mv n0 γ r
noncomputable def z4a (cap:List (Option Nat)) (mi:G->M Src) (g:D->G->M G) (mi1:G->M Src) (g1:D->G->M G) (k:G->M Bool) (me mv:G->M D):G->M D:=fun γ=>do
 let src ← mi γ
 let n0 ← (fun h=>.ok h.length (h++[.dK []]):M Nat)
 let _ ← z0N src g mi1 g1 k me mv n0 (capG cap γ) src.items
 pure (.ref n0)
section
variable {X:Cx}{EX:XX}{elt val tg iter tg1 iter1:Expr}{ifs1:List Expr}{sc:Scope}{pos:Pos}{N':List Str}{cap:List (Option Nat)}{own own1:List Nat}{mi mi1:G->M Src}{g g1:D->G->M G}{k:G->M Bool}{me mv:G->M D}
theorem ze4 {σ0:L2.St}{H0:Hp}{ρ0:List Addr}{h0:AH}{γ:G}{src:Src}{J:It}{Dd:Addr}{n0:Nat}{P:Hp->Prop}(r0:RH X.K ρ0 h0 H0) (rg:RG X.K ρ0 H0 γ σ0) (hJ:JOK X.K src ρ0 H0 J) (hD:ρ0[n0]?=some Dd) (hown:∀ j∈own1,∀ v,σ0[j]?≠some (some v))
 (fin:Fin X.K EX ρ0 H0 (fun _ ρ' h' H'=>RH X.K ρ' h' H'->Ext X.K H0 H'->Pre ρ0 ρ'->P H') (z0e src g1 k me mv n0 γ src.items h0)) :
 z5A (tGk X.K EX own1 g1) (tT X.K EX k) (tE X.K EX me) (tE X.K EX mv) σ0 J Dd P H0:=by
 refine ⟨fun i m H=>m+i=src.items.length/\∃ ρ h,Pre ρ0 ρ/\Ext X.K H0 H/\RH X.K ρ h H /\
  Fin X.K EX ρ H (fun _ ρ' h' H'=>RH X.K ρ' h' H'->Ext X.K H0 H'->Pre ρ0 ρ'->P H') (z0e src g1 k me mv n0 γ (src.items.drop i) h),
  ⟨src.items.length,rfl,_,_,Pre.refl _,Ext.refl _ _,r0,fin⟩,?_⟩
 rintro i m H1 ⟨hm,ρ1,h1,p1,e1,r1,f1⟩
 by_cases hi:i<src.items.length
 ·rw [show src.items.drop i=src.items[i] :: src.items.drop (i+1) from List.drop_eq_getElem_cons hi] at f1
  unfold z0e at f1
  obtain ⟨good,f2⟩:=z0J f1 r1
  obtain ⟨j1,j2⟩:=hJ i ρ1 h1 H1 p1 e1 r1 good
  obtain ⟨go,yld⟩:=j1 src.items[i] (List.getElem?_eq_getElem hi)
  refine .inr ⟨go,fun x H2 y=>?_⟩
  obtain ⟨rd,rh,ext⟩:=yld x H2 y
  refine ⟨ρ1,_,h1,_,⟨rg.mono p1 (e1.trans ext),rh⟩,rd,(Fin.bind (Fin.up (Pre.refl _) ext f2)).mono fun γ2 ρ3 h3 H3 p3 e3 r3 f3 σ3 g3 k3=>⟨fun j v hv=>?_,ρ3,γ2,h3,⟨g3,r3⟩,(Fin.bind f3).mono fun t ρ4 h4 H4 p4 e4 r4 f4=>?_⟩⟩
  ·rw [k3 j fun hj=>hown j hj v hv]
   exact hv
  ·have pp:Pre ρ0 ρ4:=(p1.trans p3).trans p4
   have ee:Ext X.K H0 H4:=((e1.trans ext).trans e3).trans e4
   cases t with
   | false =>
    rw [if_neg (by decide)] at f4
    dsimp only
    rw [if_neg (by decide)]
    exact ⟨m - 1,by omega,by omega,ρ4,h4,pp,ee,r4,f4⟩
   | true =>
    rw [if_pos rfl] at f4
    dsimp only
    rw [if_pos rfl]
    refine ⟨ρ4,γ2,h4,⟨g3.mono p4 e4,r4⟩,(Fin.bind f4).mono fun yd ρ5 h5 H5 p5 e5 r5 f5 y ry=>⟨ρ5,γ2,h5,⟨(g3.mono p4 e4).mono p5 e5,r5⟩,(Fin.bind f5).mono fun d ρ6 h6 H6 p6 e6 r6 f6 v rv=>?_⟩⟩
    have hq:ρ6[n0]?=some Dd:=((pp.trans p5).trans p6) _ _ hD
    have f7:=Fin.bind f6
    unfold z8i z52 at f7
    dsimp only at f7
    cases ek:keyD yd with
    | none=>rw [ek] at f7;exact f7.elim
    | some kk =>
     rw [ek] at f7
     dsimp only at f7
     have hy:=z75 ek ry
     cases e7:h6[n0]? with
     | none=>rw [e7] at f7;exact f7.elim
     | some ob =>
      cases ob with
      | set ks=>rw [e7] at f7;exact f7.elim
      | dct=>rw [e7] at f7;exact f7.elim
      | lst xs=>rw [e7] at f7;exact f7.elim
      | exc c=>rw [e7] at f7;exact f7.elim
      | dF c=>rw [e7] at f7;exact f7.elim
      | dK kvs =>
       rw [e7] at f7
       dsimp only at f7
       split at f7
       ·rename_i hl
        obtain ⟨a1,n1,vs,o1,d1⟩:=r6.at e7
        rw [hq] at n1;cases n1
        have ext2:Ext X.K H6 (upd H6 Dd (.dK (L2.putK vs kk v))):=Ext.upd (.inr (r6.tracked hq e7))
        have r7:RH X.K ρ6 (h6.set n0 (.dK (ptD kvs kk d))) (upd H6 Dd (.dK (L2.putK vs kk v))):=r6.setO e7 hq ⟨_,y0,(d1.put kk rv).mono (Pre.refl _) ext2⟩
        have hl2:=d1.len
        exact ⟨kk,vs,hy,o1,by omega,m - 1,by omega,by omega,ρ6,_,(pp.trans p5).trans p6,((ee.trans e5).trans e6).trans ext2,r7,f7 ρ6 _ (Pre.refl _) ext2 r7⟩
       ·exact f7.elim
 ·rw [show src.items.drop i=[] from List.drop_eq_nil_of_le (by omega)] at f1
  unfold z0e at f1
  obtain ⟨good,f2⟩:=z0J f1 r1
  obtain ⟨j1,j2⟩:=hJ i ρ1 h1 H1 p1 e1 r1 good
  exact .inl ⟨j2 (by omega),f2 ρ1 H1 (Pre.refl _) (Ext.refl _ _) r1 r1 e1 p1⟩
theorem z7j {σ:L2.St}{H0:Hp}{ρ0:List Addr}{h0:AH}{γ:G}{src:Src}{J:It}{Dd:Addr}{P:Hp->Prop}(r0:RH X.K ρ0 h0 H0) (rg:RG X.K ρ0 H0 γ σ) (hJ:JOK X.K src ρ0 H0 J) (hD:H0 Dd=none) (hown:∀ j∈own,cap[j]?=some none) (hown1:∀ j∈own1,cap[j]?=some none/\j∉own)
 (fin:Fin X.K EX (ρ0++[Dd]) (upd H0 Dd (.dK [])) (fun _ ρ' h' H'=>ρ'[h0.length]?=some Dd->RH X.K ρ' h' H'->Ext X.K (upd H0 Dd (.dK [])) H'->Pre (ρ0++[Dd]) ρ'->P H') (z0N src g mi1 g1 k me mv h0.length (capG cap γ) src.items (h0++[.dK []]))) :
 z2U cap (tGk X.K EX own g) (tI X.K EX mi1) (tGk X.K EX own1 g1) (tT X.K EX k) (tE X.K EX me) (tE X.K EX mv) σ J Dd P (upd H0 Dd (.dK [])):=by
 have rP:RH X.K (ρ0++[Dd]) (h0++[.dK []]) (upd H0 Dd (.dK [])):=r0.pushO hD ⟨[],y0,.nil⟩
 have eP:Ext X.K H0 (upd H0 Dd (.dK [])):=Ext.upd (.inl hD)
 have at0:(ρ0++[Dd])[h0.length]?=some Dd:=by rw [← r0.len];simp
 refine ⟨fun i m H=>m+i=src.items.length/\∃ ρ h,Pre (ρ0++[Dd]) ρ/\Ext X.K (upd H0 Dd (.dK [])) H/\RH X.K ρ h H /\
  Fin X.K EX ρ H (fun _ ρ' h' H'=>ρ'[h0.length]?=some Dd->RH X.K ρ' h' H'->Ext X.K (upd H0 Dd (.dK [])) H'->Pre (ρ0++[Dd]) ρ'->P H') (z0N src g mi1 g1 k me mv h0.length (capG cap γ) (src.items.drop i) h),
  ⟨src.items.length,rfl,_,_,Pre.refl _,Ext.refl _ _,rP,fin⟩,?_⟩
 rintro i m H1 ⟨hm,ρ1,h1,p1,e1,r1,f1⟩
 have p01:Pre ρ0 ρ1:=(Pre.app _ _).trans p1
 have e01:Ext X.K H0 H1:=eP.trans e1
 by_cases hi:i<src.items.length
 ·rw [show src.items.drop i=src.items[i] :: src.items.drop (i+1) from List.drop_eq_getElem_cons hi] at f1
  unfold z0N at f1
  obtain ⟨good,f2⟩:=z0J f1 r1
  obtain ⟨j1,j2⟩:=hJ i ρ1 h1 H1 p01 e01 r1 good
  obtain ⟨go,yld⟩:=j1 src.items[i] (List.getElem?_eq_getElem hi)
  refine .inr ⟨go,fun x H2 y=>?_⟩
  obtain ⟨rd,rh,ext⟩:=yld x H2 y
  have rgc:RG X.K ρ1 H2 (capG cap γ) (Y1 cap σ):=(z4g cap rg).mono p01 (e01.trans ext)
  have non:∀ {j:Nat} {v:V},cap[j]?=some none->(Y1 cap σ)[j]?≠some (some v):=fun {j v} z hv=>by
   unfold Y1 at hv
   rw [List.getElem?_map,z] at hv
   simp at hv
  refine ⟨ρ1,_,h1,_,⟨rgc,rh⟩,rd,(Fin.bind (Fin.up (Pre.refl _) ext f2)).mono fun γ2 ρ3 h3 H3 p3 e3 r3 f3 σ3 g3 k3=>⟨fun j v hv=>?_,ρ3,γ2,h3,⟨g3,r3⟩,(Fin.bind f3).mono fun s1 ρ4 h4 H4 p4 e4 r4 f4 J1 hJ1=>?_⟩⟩
  ·rw [k3 j fun hj=>non (hown j hj) hv]
   exact hv
  ·have pp:Pre (ρ0++[Dd]) ρ4:=(p1.trans p3).trans p4
   have ee:Ext X.K (upd H0 Dd (.dK [])) H4:=((e1.trans ext).trans e3).trans e4
   refine ze4 r4 (g3.mono p4 e4) hJ1 (pp _ _ at0) (fun j hj v hv=>?_) ((Fin.bind f4).mono fun _ ρ5 h5 H5 p5 e5 r5 f5 rr ex pr=>?_)
   ·rw [k3 j (hown1 j hj).2] at hv
    exact non (hown1 j hj).1 hv
   ·exact ⟨m - 1,by omega,by omega,ρ5,h5,pp.trans pr,ee.trans ex,rr,f5⟩
 ·rw [show src.items.drop i=[] from List.drop_eq_nil_of_le (by omega)] at f1
  unfold z0N at f1
  obtain ⟨good,f2⟩:=z0J f1 r1
  obtain ⟨j1,j2⟩:=hJ i ρ1 h1 H1 p01 e01 r1 good
  exact .inl ⟨j2 (by omega),f2 ρ1 H1 (Pre.refl _) (Ext.refl _ _) r1 (p1 _ _ at0) r1 e1 p1⟩
theorem z81 (hc:X.calm=true) (S:CS X sc N' cap) (hi:SI X EX tg iter mi) (hg:∀ s H fp xe,SGk (X.comp N' sc s H fp xe) EX tg own g) (hi1:∀ s H fp xe,SI (X.comp N' sc s H fp xe) EX tg1 iter1 mi1) (hg1:∀ s H fp xe,SGk (X.comp N' sc s H fp xe) EX tg1 own1 g1) (ht:∀ s H fp xe,SCs (X.comp N' sc s H fp xe) EX ifs1 k)
 (he:∀ s H fp xe,SE (X.comp N' sc s H fp xe) EX elt me) (hv:∀ s H fp xe,SE (X.comp N' sc s H fp xe) EX val mv) (hown:∀ j∈own,cap[j]?=some none:=by decide) (hown1:∀ j∈own1,cap[j]?=some none/\j∉own:=by decide) (hs:∀ x,foldedSetIterable iter X.env x=pure x:=by intro _;rfl) (hs1:∀ env x,foldedSetIterable iter1 env x=pure x:=by intro _ _;rfl) :
 SE X EX (.DictComp elt val [⟨tg,iter,[],0⟩,⟨tg1,iter1,ifs1,0⟩] sc pos) (z4a cap mi g mi1 g1 k me mv) :=
 ⟨PE.imp (z8B (g:=tGk X.K EX own g) (wi1:=tI X.K EX mi1) (g1:=tGk X.K EX own1 g1) (ti:=tT X.K EX k) (te:=tE X.K EX me) (tv:=tE X.K EX mv) hc S hi.h (fun s H fp xe=>(hg s H fp xe).h) (fun s H fp xe=>(hi1 s H fp xe).h) (fun s H fp xe=>(hg1 s H fp xe).h) (fun s H fp xe=>(ht s H fp xe).h) (fun s H fp xe=>(he s H fp xe).h) (fun s H fp xe=>(hv s H fp xe).h) hs hs1) fun σ H Q ⟨ρ,γ,h,rel,fin⟩=>⟨ρ,γ,h,rel,(Fin.bind fin).mono fun src ρ0 h0 H0 p0 e0 r0 f0 J hJ Dd hD=>by
  have rP:RH X.K (ρ0++[Dd]) (h0++[.dK []]) (upd H0 Dd (.dK [])):=r0.pushO hD ⟨[],y0,.nil⟩
  have eP:Ext X.K H0 (upd H0 Dd (.dK [])):=Ext.upd (.inl hD)
  have f1:=Fin.bind f0
  have f2:=f1 (ρ0++[Dd]) _ (Pre.app _ _) eP rP
  refine z7j r0 (rel.g.mono p0 e0) hJ hD hown hown1 ((Fin.bind f2).mono fun _ ρ5 h5 H5 p5 e5 r5 f5 hat rr ee pp=>?_)
  refine FE.here (d:=.ref h0.length) (h:=h5) f5 rr ?_
  simp only [RD]
  exact ⟨Dd,rfl,hat⟩⟩⟩
end
end FT
namespace L2
open PySem PySem.Spec PyProof.Rows
theorem z1o:∀ {vs:List (Key×V)}{us:List (Key×Value)},KV vs us->∀ {l:List Value},l.length=us.length->(∀ (j:Nat) v,l[j]?=some v->∃ k x,us[j]?=some (k,x)/\z10 k v=true)->Vals (vs.map fun kv=>kV kv.1) l
 | [],_,.nil,l,hl,h=>by
  cases l with
  | nil=>exact .nil
  | cons a l=>simp at hl
 | p :: vs,q :: us,.cons a b,l,hl,h=>by
  cases l with
  | nil=>simp at hl
  | cons v l =>
   obtain ⟨k,x,e1,e2⟩:=h 0 v rfl
   have e1':q=(k,x):=by simpa using e1
   subst e1'
   refine .cons ?_ (z1o b (by simpa using hl) fun j v hv=>by simpa using h (j+1) v (by simpa using hv))
   have a1:p.1=k:=a.1
   show RelV (kV p.1) v
   rw [a1]
   exact zF1 e2
section
variable {X:Cx}
end
end L2
namespace FT
open PySem PySem.Spec PyProof.Rows L2
def z31 (n:Nat):M (List (Key×D)):=fun h=>match h[n]? with
 | some (.dK kvs)=>.ok kvs h
 | some (.dF kvs)=>.ok kvs h
 | _=>.bad
theorem z4V {K:PySem.W.Frag}{EX:XX}{ρ:List Addr}{h:AH}{H:Hp}{n:Nat}{q:Addr}{Z:List (Key×D)->List Addr->AH->Hp->Prop}(r:RH K ρ h H) (hq:ρ[n]?=some q) (f:Fin K EX ρ H Z (z31 n h)) :
 ∃ kvs vs,(H q=some (.dK vs)∨∃ ob,H q=some (.frz ob (.dK vs)))/\RK K ρ H kvs vs/\Z kvs ρ h H:=by
 unfold z31 at f
 cases e:h[n]? with
 | none=>rw [e] at f;exact f.elim
 | some ob =>
  cases ob with
  | lst xs=>rw [e] at f;exact f.elim
  | set xs=>rw [e] at f;exact f.elim
  | dct=>rw [e] at f;exact f.elim
  | exc c=>rw [e] at f;exact f.elim
  | dK kvs =>
   rw [e] at f
   obtain ⟨a1,n1,vs,o1,d1⟩:=r.at e
   rw [hq] at n1;cases n1
   exact ⟨kvs,vs,.inl o1,d1,f ρ H (Pre.refl _) (Ext.refl _ _) r⟩
  | dF kvs =>
   rw [e] at f
   obtain ⟨a1,n1,ob,vs,o1,d1⟩:=r.at e
   rw [hq] at n1;cases n1
   exact ⟨kvs,vs,.inr ⟨ob,o1⟩,d1,f ρ H (Pre.refl _) (Ext.refl _ _) r⟩
theorem z2Y {K:PySem.W.Frag}{ρ:List Addr}{H:Hp}:∀ {kvs:List (Key×D)}{vs:List (Key×V)},RK K ρ H kvs vs->RDs K ρ H (z11 kvs) (vs.map fun kv=>kV kv.1)
 | _,_,.nil=>RDs.nil
 | p :: _,q :: _,.cons a b=>by
  refine RDs.cons ?_ (z2Y b)
  have a1:p.1=q.1:=a.1
  show RD K ρ H (kD p.1) (kV q.1)
  rw [a1]
  exact ze8 q.1
section
variable {X:Cx}{EX:XX}{a:Expr}{mr:G->M (List D)}{p pos:Pos}
end
section
variable {X:Cx}{EX:XX}{a o:Expr}{p pos cpos apos:Pos}{ma mo:G->M D}{mr:G->M (List D)}
end
end FT
namespace FT
section
variable {α:Type}{us:List α}
theorem ar1 (hl:us.length=1):∃ a,us=[a]:=match us,hl with | [a],_=>⟨a,rfl⟩
theorem ar2 (hl:us.length=2):∃ a b,us=[a,b]:=match us,hl with | [a,b],_=>⟨a,b,rfl⟩
theorem ar3 (hl:us.length=3):∃ a b c,us=[a,b,c]:=match us,hl with | [a,b,c],_=>⟨a,b,c,rfl⟩
theorem ar4 (hl:us.length=4):∃ a b c d,us=[a,b,c,d]:=match us,hl with | [a,b,c,d],_=>⟨a,b,c,d,rfl⟩
end
end FT
namespace FT
open PySem PySem.Spec PyProof.Rows L2
def putO (n:Nat) (k v:D):M D:=match keyD k with
 | some kk=>fun h=>match h[n]? with
  | some (.dK [])=>.ok (.ref n) (h.set n (.dK [(kk,v)]))
  | _=>.bad
 | none=>bad
noncomputable def z6u (mk mv:G->M D):G->M D:=fun γ=>do
 let n ← (fun h=>.ok h.length (h++[.dK []]):M Nat)
 let k ← mk γ
 let v ← mv γ
 putO n k v
section
variable {X:Cx}{EX:XX}{k v:Expr}{pos:Pos}{mk mv:G->M D}
theorem zb8 (hk:SE X EX k mk) (hv:SE X EX v mv):SE X EX (.Dict [some k] [v] pos) (z6u mk mv) :=
 ⟨PE.imp (zj4 (zb1 hk.h hv.h zs0) rfl rfl (by simp) (by simp)) fun σ H Q ⟨ρ,γ,h,rel,fin⟩ p hp=>by
  have rP:RH X.K (ρ++[p]) (h++[.dK []]) (upd H p (.dK [])):=rel.h.pushO hp ⟨[],y0,.nil⟩
  have eP:Ext X.K H (upd H p (.dK [])):=Ext.upd (.inl hp)
  have at0:(ρ++[p])[h.length]?=some p:=by rw [← rel.h.len];simp
  have f1:=Fin.bind fin
  have f2:=f1 (ρ++[p]) _ (Pre.app _ _) eP rP
  refine ⟨ρ++[p],γ,h++[.dK []],⟨rel.g.mono (Pre.app _ _) eP,rP⟩,(Fin.bind f2).mono fun kd ρ1 h1 H1 p1 e1 r1 f3 kv rk=>⟨ρ1,γ,h1,⟨(rel.g.mono (Pre.app _ _) eP).mono p1 e1,r1⟩,(Fin.bind f3).mono fun vd ρ2 h2 H2 p2 e2 r2 f4 vv rv=>?_⟩⟩
  have hq:ρ2[h.length]?=some p:=(p1.trans p2) _ _ at0
  unfold putO at f4
  cases ek:keyD kd with
  | none=>rw [ek] at f4;exact f4.elim
  | some kk =>
   rw [ek] at f4
   dsimp only at f4
   cases e7:h2[h.length]? with
   | none=>rw [e7] at f4;exact f4.elim
   | some ob =>
    cases ob with
    | set ks=>rw [e7] at f4;exact f4.elim
    | dct=>rw [e7] at f4;exact f4.elim
    | lst xs=>rw [e7] at f4;exact f4.elim
    | exc c=>rw [e7] at f4;exact f4.elim
    | dF c=>rw [e7] at f4;exact f4.elim
    | dK kvs =>
     cases kvs with
     | cons a b=>rw [e7] at f4;exact f4.elim
     | nil =>
      rw [e7] at f4
      dsimp only at f4
      obtain ⟨a1,n1,vs,o1,d1⟩:=r2.at e7
      rw [hq] at n1;cases n1
      cases d1
      have hy:=z75 ek rk
      refine ⟨o1,[(kk,vv)],by rw [hy];rfl,by simp,?_⟩
      have ext2:Ext X.K H2 (upd H2 p (.dK [(kk,vv)])):=Ext.upd (.inr (r2.tracked hq e7))
      have r7:RH X.K ρ2 (h2.set h.length (.dK [(kk,vd)])) (upd H2 p (.dK [(kk,vv)])):=r2.setO e7 hq ⟨_,y0,.cons ⟨rfl,rv.mono (Pre.refl _) ext2⟩ .nil⟩
      exact f4 ρ2 _ (Pre.refl _) ext2 r7 (.ref p) (by simp only [RD];exact ⟨p,rfl,hq⟩)⟩
end
section
variable {prog:Program}{w:World}{h₀:Heap}
end
section
variable {X:Cx}{pins:List (Addr×Obj)}{σ:L2.St}{H:Hp}{s:Shared}{ρ:List Addr}{h:AH}
end
section
variable {X:Cx}{EX:XX}{a:Expr}{p pos:Pos}{mr:G->M (List D)}
end
def Ths (P:Nat->D->Prop):Nat->List D->Prop
 | _,[]=>True
 | n,x :: xs=>∃ a b,P a x/\Ths P b xs/\a+b+2≤n
def Th (r:AH) (B:Nat):Nat->Nat->D->Prop
 | 0,_,_=>False
 | _+1,n,.non=>4≤n
 | _+1,n,.bl _=>5≤n
 | _+1,n,.int i=>i.natAbs≤B/\40≤n
 | _+1,n,.str x=>(reprText x).length≤n/\x.length≤1000
 | m+1,n,.tup xs=>∃ a,Ths (Th r B m) a xs/\a+4≤n
 | _+1,_,.fl _=>False
 | m+1,n,.ref i=>∃ j,i=j+3/\((∃ xs a,r[j]?=some (.lst xs)/\Ths (Th r B m) a xs/\a+4≤n)∨(r[j]?=some (.dK [])∨r[j]?=some (.dK [(.inr "a",.int 1)])/\1≤m)/\40≤n)
section
variable {P P':Nat->D->Prop}{n m:Nat}{xs ys:List D}{d:D}
end
section
variable {X:Cx}{EX:XX}{mr:G->M (List D)}
theorem z4X (hc:X.calm=true):z1y X (.builtin "max") (fun xs H Q=>∃ a b:Int,xs=[.int a,.int b]/\Q (.int (if b > a then b else a)) H):=by
 intro pins s σ H xs us Q I rv h
 obtain ⟨a,b,rfl,q⟩:=h
 obtain ⟨u,w',rfl,ru,rw'⟩:=vals2 rv
 obtain ⟨t,rfl⟩:=ru
 obtain ⟨t',rfl⟩:=rw'
 refine max_two_ints (I.ok.hd hc) fun h' tk hk=>?_
 refine ⟨.int (if b > a then b else a),H,I.kept (t':=tk) fun c o e=>hk c o e,?_,q⟩
 split
 ·exact ⟨t',rfl⟩
 ·exact ⟨t,rfl⟩
def zd1:List D->M D
 | [.int a,.int b]=>pure (.int (max a b))
 | _=>bad
theorem zo5:AR X.K EX (fun xs H Q=>∃ a b:Int,xs=[.int a,.int b]/\Q (.int (if b > a then b else a)) H) zd1:=by
 intro ρ h H ds vs Q r rd fin
 unfold zd1 at fin
 split at fin
 ·rename_i a b
  obtain ⟨v,u,rfl,rv,ru⟩:=rds2 rd
  simp only [RD] at rv ru
  subst rv;subst ru
  refine ⟨a,b,rfl,FE.here fin r ?_⟩
  simp only [RD]
  congr 1
  omega
 ·exact fin.elim
theorem zi8 {a b:Expr}{p pos:_}(hc:X.calm=true) (hg:Gl X "max") (hm:X.mg "max" = none) (ha:SA X EX [a,b] mr) (he:starEach [a,b] X.env=(false,eval a X.env) :: starEach [b] X.env:=by rfl) (hb:starEach [b] X.env=[(false,eval b X.env)]:=by rfl):SE X EX (.Call (.Name "max" p) [a,b] [] pos) (Z5 zd1 mr) :=
 z0L (z0F (z4X hc) hg hm (by decide +kernel) ha.h (by decide) (by decide) he (by rw [hb];rfl)) zo5
end
theorem ss_h {me:G->M D}{γ:G}{h h1:AH}{i:Nat}{l:List Nat}(e:me γ h=.ok (.ref i) h1) (g:h1[i]?=some (.lst (stD l))) (hl:l.length≤2000) (hd:(setN l).length<64):Z5 Y8 (z8 (Z5 z0I (z8 me aNil)) aNil) γ h=.ok (.ref (h1.length+1)) (h1++[.set (kN (dedN l)),.lst (stD (setN l))]):=by
 have dl:(dedN l).length=(setN l).length:=by unfold setN;rw [x9]
 refine z00 (z00 e (zo3 (l:=l) (by unfold seqD getL;dsimp only;rw [g]) hl)) ?_
 rw [z9g z0O (by omega),List.append_assoc]
 simp [setN]
section
variable {n i:Nat}{mf:List D->M D}{mr:G->M (List D)}{okf:Str->Bool}{ms mt:G->M Out}{γ:G}{h h1 h2:AH}{xs:List D}{Q:Out->AH->Prop}
end
theorem zN9 {k:G->M Bool}{ms mr mt:G->M Out}{γ:G}{h h1:AH}{Q:Out->AH->Prop}(b:Bool) (e:k γ h=.ok b h1) (z:W (z9 (if b=true then ms else mr) mt γ) h1 Q):W (z9 (sIf k ms mr) mt γ) h Q :=
 zO9 (W_of e z)
section
variable {prog:Program}{w:World}{A:Around}{E:Value->Shared->Prop}{s:Shared}
open PySem.W in
theorem z6w {T:String}{r d:Addr}{n:Nat}{P:Nat->Value->Prop}{OK:Heap->Prop}{R:List Value->Shared->Prop}(K:KdlSrc prog w T r d n P OK) (hh:A.handled=none) (ok:OK s.heap) (hn:n≤sizeLine)
 (z:∀ (g:Heap) (tk:Nat) (acc:Array Value),(∀ b o,s.heap.get? b=some o->g.get? b=some o)->s.heap.objs.size≤g.objs.size->ItemsOf P acc n->R acc.toList { s with heap:=g,toks:=tk }) :
 wpAny (model prog w) A (collect (.ref r)) R E s:=by
 obtain ⟨t1,t2⟩:=K.there _ ok
 obtain ⟨S,hS⟩:∃ S,S=s.heap.objs.size:=⟨_,rfl⟩
 unfold collect
 refine wpAny_bind (wpAny_runValue (codeAny_builtin entry_proto_collect' ?_))
 rw [Around.under_plainId PySem.F.plain_proto_collect _]
 show wpAny _ A.in1 (newList [] >>= fun l=>again (.builtin "list.__iadd__" ⟨[l,.ref r],[]⟩)) _ _ s
 refine wpAny_bind (wpAny_newObj_type (wpAny_pure ⟨plainId_quiet PySem.F.plain_list_iadd _,codeAny_builtin entry_list_iadd' ?_⟩))
 rw [Around.under_plainId PySem.F.plain_list_iadd _]
 obtain ⟨o0,h0⟩:∃ o0:Obj,o0={ cls:=.type "list",data:=.seq ([]:List Value).toArray }:=⟨_,rfl⟩
 rw [← h0]
 have at0:(s.heap.push o0).get? S=some { cls:=.type "list",data:=.seq #[] }:=by rw [hS,h0];exact Heap.get?_push_size _ rfl
 rw [← hS]
 show wpAny _ A.in1 (Builtin.List.listExtendWith (.ref S) (.ref r) (.ref S)) _ _ _
 have old:∀ {b:Addr} {o:Obj},s.heap.get? b=some o->b≠S:=fun e=>by rw [hS];exact Nat.ne_of_lt (Heap.lt_size e)
 have key:=kdl_extend (A:=A) (s:={ s with heap:=s.heap.push o0 })
  (R:=fun (q:Result) (s':Shared)=>∃ (g:Heap) (tk:Nat) (acc:Array Value) (c:Nat),q=.ok (.ret (.ref S))/\s'={ s with heap:=g,toks:=tk }/\(∀ b o,s.heap.get? b=some o->g.get? b=some o)/\g.get? S=some { cls:=.type "list",dict:=none,data:=.seq acc c,slots:=#[] }/\ItemsOf P acc n)
  K hh (K.keep _ _ ok fun b _ o e=>Heap.get?_push_of_some _ e) S (by rw [hS];exact Nat.ne_of_gt t1) (by rw [hS];exact Nat.ne_of_gt t2) (.ref S) 0 at0
  (fun g tk acc c kp at1 it=>⟨g,tk,acc,c,rfl,rfl,fun b o e=>kp b o (old e) (Heap.get?_push_of_some _ e),at1,it⟩) hn
 have fin:∀ (q:Result) (s2:Shared) (h:∃ (g:Heap) (tk:Nat) (acc:Array Value) (c:Nat),q=.ok (.ret (.ref S))/\s2={ s with heap:=g,toks:=tk }/\(∀ b o,s.heap.get? b=some o->g.get? b=some o)/\g.get? S=some { cls:=.type "list",dict:=none,data:=.seq acc c,slots:=#[] }/\ItemsOf P acc n),q=.ok (.ret (.ref S)):=fun q s2 ⟨_,_,_,_,e,_⟩=>e
 refine wpAny_mono key (fun f s2 x=>?_) fun e s2 x=>?_
 ·cases f with
  | done f =>
   obtain ⟨g,tk,acc,c,e,rfl,kp,at1,it⟩:=x
   cases e
   show wpAny _ A (load S >>= _) _ _ _
   refine wpAny_bind (wpAny_load at1 (wpAny_pure (z g tk acc kp ?_ it)))
   rw [← hS]
   exact Nat.le_of_lt (Heap.lt_size at1)
  | again c₁ =>
   refine ⟨x.1,codeAny_mono x.2 fun q s3 y=>?_⟩
   obtain ⟨g,tk,acc,c,rfl,rfl,kp,at1,it⟩:=y
   show wpAny _ A (load S >>= _) _ _ _
   refine wpAny_bind (wpAny_load at1 (wpAny_pure (z g tk acc kp ?_ it)))
   rw [← hS]
   exact Nat.le_of_lt (Heap.lt_size at1)
 ·obtain ⟨_,_,_,_,e',_⟩:=x
  cases e'
end
section
variable {X:Cx}{EX:XX}{mr:G->M (List D)}
theorem z4G (hc:X.calm=true):z1y X (.builtin "sorted") (fun xs H Q=>∃ a vs ns,xs=[.ref a]/\(H a=some (.dK vs)∨∃ ob,H a=some (.frz ob (.dK vs)))/\vs.map (fun kv=>kV kv.1)=ns.map V.int/\ns.length<64/\∀ q,H q=none->Q (.ref q) (upd H q (.lst ((sortI ns).map V.int)))):=by
 intro pins s σ H xs us Q I r h
 obtain ⟨a,vs,ns,rfl,hq,hk,h64,q⟩:=h
 obtain ⟨u,rfl,ru⟩:=vals1 r
 cases ru
 have vl:vs.length=ns.length:=by have:=congrArg List.length hk;simpa using this
 have go:∀ {us:List (Key×Value)} {ep:Nat},KV vs us->(a == sysModules)=false->s.heap.DictAt (k6 X.prog X.w) a us ep->wpAny (model X.prog X.w) X.A (call (.builtin "sorted") [.ref a]) (EP X pins σ Q) X.xe s:=fun {us ep} rel hd dat=>by
  have le:=rel.length
  refine Calls.call_function_entry kind_sorted plain_sorted entry_sorted (args_sorted1 _) ?_
  unfold Builtin.«sorted»
  refine wpAny_bind (m:=checkCount "sorted" 1 1 _) (wpAny_pure ?_)
  refine wpAny_bind (z6w (PySem.W.kdl_dict hd) (by simp [I.ok.hd hc]) dat (by rw [← le,vl];exact Nat.le_of_lt (Nat.lt_of_lt_of_le h64 (by decide))) fun h' tk acc kp sz it=>?_)
  have al:acc.toList.length=ns.length:=by rw [Array.length_toList,← vl,le];exact it.1
  have rv:Vals (ns.map V.int) acc.toList:=by
   rw [← hk]
   exact z1o rel (by rw [Array.length_toList];exact it.1) fun j v hv=>it.2 j v (by simpa using hv)
  have ia:=intsAre_of rv
  refine wpAny_bind (wpAny_newList ?_ (by rw [al];exact Nat.le_of_lt (Nat.lt_of_lt_of_le h64 (by decide))))
  have gL:(h'.push (seqObj "list" acc.toList.toArray 0)).get? h'.objs.size=some (seqObj "list" acc.toList.toArray 0):=Heap.get?_push_size _ rfl
  refine wpAny_bind (wpAny_holding (wpAny_call_entry slot_list_sort ⟨_,gL,rfl⟩ entry_list_sort (list_sort_tree gL ia (by rw [al];exact h64) fun out ns' a1 a2 a3=>⟨_,rfl,?_⟩) (args_list_sort _)))
  refine wpAny_pure ⟨_,rfl,?_⟩
  obtain ⟨e,ge⟩:=sortedHeap_at (out:=out) gL
  have es':ns'=sortI ns:=z40 a2 a3
  subst es'
  have un:∀ b ob,s.heap.get? b=some ob->(sortedHeap (h'.push (seqObj "list" acc.toList.toArray 0)) h'.objs.size acc.toList out).get? b=some ob:=fun b ob eb=>by
   have lt:=Heap.lt_size (kp b ob eb)
   rw [sortedHeap_old (Nat.ne_of_lt lt) (by rw [Heap.size_push];exact Nat.lt_succ_of_lt lt)]
   exact Heap.get?_push_of_some _ (kp b ob eb)
  have ho:=I.hok.laid (a:=h'.objs.size) (o:=.lst ((sortI ns).map V.int)) un sz ⟨by rw [List.length_map,(sortI_perm ns).length_eq];exact Nat.le_of_lt (Nat.lt_of_lt_of_le h64 (by decide)),out.toList,e,z3U a1,ge⟩
  exact ⟨.ref h'.objs.size,_,I.call' (s':={ s with heap:=_,toks:=tk }) (ch:=[]) rfl (Un.laid un sz (I.hok.fresh sz)) ho I.bare (fun b z=>absurd z (by simp)),rfl,q _ (I.hok.fresh sz)⟩
 rcases hq with hq | ⟨ob,hq⟩
 ·obtain ⟨z,hd,us,rel,dd⟩:=z7m I.hok hq
  obtain ⟨ob,es,ep,ho,r1,r2,r3⟩:=id dd
  exact go rel hd ⟨ob,es,ho,r1,r2,r3⟩
 ·obtain ⟨go',z,hd,us,rel,dd⟩:=(show ObjOk X.prog X.w H s.heap a (.frz ob (.dK vs)) from I.hok a _ hq)
  obtain ⟨ob',es,ep,ho,r1,r2,r3⟩:=id dd
  exact go rel hd ⟨ob',es,ho,r1,r2,r3⟩
def z06:List D->M D
 | [.ref n]=>do
  let kvs ← z31 n
  match z1x (z11 kvs) with
  | some ns=>if ns.length<64 then newL ((sortI ns).map .int) else bad
  | none=>bad
 | _=>bad
theorem z7q:AR X.K EX (fun xs H Q=>∃ a vs ns,xs=[.ref a]/\(H a=some (.dK vs)∨∃ ob,H a=some (.frz ob (.dK vs)))/\vs.map (fun kv=>kV kv.1)=ns.map V.int/\ns.length<64/\∀ q,H q=none->Q (.ref q) (upd H q (.lst ((sortI ns).map V.int)))) z06:=by
 intro ρ h H ds vs Q r rd fin
 unfold z06 at fin
 split at fin
 ·rename_i n
  obtain ⟨v,rfl,rv⟩:=rds1 rd
  simp only [RD] at rv
  obtain ⟨q,rfl,hq⟩:=rv
  have f2:=Fin.bind fin
  obtain ⟨kvs,vs,w1,rk,f3⟩:=z4V r hq f2
  cases e:z1x (z11 kvs) with
  | none=>rw [e] at f3;exact f3.elim
  | some ns =>
   rw [e] at f3
   dsimp only at f3
   split at f3
   ·rename_i l64
    have rr:=z2P e (z2Y rk)
    refine ⟨q,vs,ns,rfl,w1,rr,l64,fun q' hq'=>?_⟩
    unfold newL at f3
    split at f3
    ·exact FE.lst f3 r (z2O _) hq'
    ·exact f3.elim
   ·exact f3.elim
 ·exact fin.elim
theorem z3B {a:Expr}{p pos:Pos}(hc:X.calm=true) (hg:Gl X "sorted") (hm:X.mg "sorted" = none) (ha:SA X EX [a] mr) (he:starEach [a] X.env=[(false,eval a X.env)]:=by rfl):SE X EX (.Call (.Name "sorted" p) [a] [] pos) (Z5 z06 mr) :=
 z0L (z0F (z4G hc) hg hm (by decide +kernel) ha.h (by decide) (by decide) he rfl) z7q
def zF6 (te:TE) (tr:TA):TA:=fun σ H Q=>te σ H fun x H1=>∃ a vs,x=.ref a/\(H1 a=some (.dK vs)∨∃ ob,H1 a=some (.frz ob (.dK vs)))/\tr σ H1 fun ys H2=>Q (vs.map (fun kv=>kV kv.1)++ys) H2
theorem ze5 {e:Expr}{es:List Expr}{te:TE}{t:TA}{p:Pos}(hc:X.calm=true) (ha:PE X e te) (hr:PA X es t):PA X (.Starred e p :: es) (zF6 te t):=by
 intro pos pins s σ H Q I h
 rw [arm_starEach_Starred]
 show wpAny _ _ (spliced ((true,do let v ← eval e X.env;standAt pos;pure v) :: backTo pos (starEach es X.env))) _ _ s
 refine PySem.W.ks_spliced (thn (ha pins s σ H _ I h) fun u s1 ⟨x,H1,I1,r1,q1⟩=>?_)
 obtain ⟨a,vs,rfl,hq,q⟩:=q1
 cases r1
 obtain ⟨us,ep,rel,z,hd,dat⟩:∃ us ep,KV vs us/\vs.length≤sizeLine/\(a == sysModules)=false/\s1.heap.DictAt (k6 X.prog X.w) a us ep:=by
  rcases hq with hq | ⟨ob,hq⟩
  ·obtain ⟨z,hd,us,rel,dd⟩:=z7m I1.hok hq
   obtain ⟨ob,es,ep,ho,r1,r2,r3⟩:=id dd
   exact ⟨us,ep,rel,z,hd,ob,es,ho,r1,r2,r3⟩
  ·obtain ⟨go',z,hd,us,rel,dd⟩:=(show ObjOk X.prog X.w H1 s1.heap a (.frz ob (.dK vs)) from I1.hok a _ hq)
   obtain ⟨ob',es,ep,ho,r1,r2,r3⟩:=id dd
   exact ⟨us,ep,rel,z,hd,ob',es,ho,r1,r2,r3⟩
 have le:=rel.length
 refine z4r dat.dictOf.typeIs PySem.F.slot_dict_iter ⟨rfl,z6w (PySem.W.kdl_dict hd) (I1.ok.hd hc) dat (by rw [← le];exact z) fun h' tk acc kp sz it=>?_⟩
 have I2:Inv X pins σ H1 { s1 with heap:=h',toks:=tk }:=I1.kept (t':=tk) kp
 have rv:Vals (vs.map fun kv=>kV kv.1) acc.toList:=z1o rel (by rw [Array.length_toList];exact it.1) fun j v hv=>it.2 j v (by simpa using hv)
 exact thn (hr pos pins _ σ H1 _ I2 q) fun us s3 ⟨ys,H3,I3,r3,q3⟩=>⟨_,H3,I3,rv.append r3,q3⟩
def z3A (ma:G->M D) (mr:G->M (List D)):G->M (List D):=fun γ=>do
 let x ← ma γ
 match x with
 | .ref n=>do
  let kvs ← z31 n
  let r ← mr γ
  pure (z11 kvs++r)
 | _=>bad
theorem z9R {e:Expr}{es:List Expr}{p:Pos}{ma:G->M D}(hc:X.calm=true) (ha:SE X EX e ma) (hr:SA X EX es mr):SA X EX (.Starred e p :: es) (z3A ma mr) :=
 ⟨PA.imp (ze5 hc ha.h hr.h) fun σ H Q ⟨ρ,γ,h,rel,fin⟩=>⟨ρ,γ,h,rel,(Fin.bind fin).mono fun x ρ1 h1 H1 p1 e1 r1 f1 v rv=>by
  cases x<;>first | exact (show False from f1).elim | skip
  rename_i n
  simp only [RD] at rv
  obtain ⟨q,rfl,hq⟩:=rv
  obtain ⟨kvs,vs,w1,rk,f2⟩:=z4V r1 hq (Fin.bind f1)
  exact ⟨q,vs,rfl,w1,ρ1,γ,h1,⟨rel.g.mono p1 e1,r1⟩,(Fin.bind f2).mono fun ds ρ2 h4 H2 p2 e2 r2 f3 ws rws =>
   f3 ρ2 H2 (Pre.refl _) (Ext.refl _ _) r2 _ (((z2Y rk).mono p2 e2).append rws)⟩⟩⟩
end
end FT
set_option maxHeartbeats 1600000
namespace FT
open PySem PySem.Spec PyProof.Rows L2
theorem z70 (t:Addr) (items:Array Value) :
 Meets (Builtin.«enumerate.__new__» ⟨[.type "enumerate",.ref t],[]⟩) (fun _ R s=>s.heap.IsList t items /\
  R (.ok (.ret (.ref (s.heap.push { cls:=.type "list_iterator",data:=.fields #[.ref t,.int 0 0] }).objs.size)))
   { s with heap:=(s.heap.push { cls:=.type "list_iterator",data:=.fields #[.ref t,.int 0 0] }).push { cls:=.type "enumerate",data:=.fields #[.none,.bool false,.ref s.heap.objs.size,rawInt 0,.none,.none] } }) :=
 .of_wp fun prog w A R s h=>by
  obtain ⟨hp,g,d,tk,os⟩:=s
  obtain ⟨q1,h⟩:=h
  have hsub:=sub_enumerate
  have L1:Heap.IsList (Shared.heap ⟨hp,g,d,tk,os⟩) t items:=q1
  wp_walk
  refine wpAny_stack_any fun st=>wpAny_pure ?_
  split
  ·rename_i c _ _ _ _ _
   cases (c == Value.type "enumerate")
   ·wp_walk using wpAny_pyIter_list L1
    exact ⟨_,rfl,h⟩
   ·wp_walk using wpAny_pyIter_list L1
    exact ⟨_,rfl,h⟩
  ·wp_walk using wpAny_pyIter_list L1
   exact ⟨_,rfl,h⟩
def ItL (K:PySem.W.Frag) (t:Addr):It :=
 ⟨fun i H=>∃ xs x,SqL K H t xs/\xs[i]?=some x,
  fun i H v H'=>∃ T x,H T=none/\v=.ref T/\(∀ xs,SqL K H t xs->xs[i]?=some x)/\H'=upd H T (.tup [.int i,x]),
  fun i H=>∃ xs,SqL K H t xs/\xs.length=i⟩
theorem z7e {P:Program}{w:World}{K:PySem.W.Frag}{elts:List Expr}{kk:Nat}{pos:Pos}{e it t:Addr}(d1:e≠it) (d2:t≠it) (d3:e≠t) :
 Turn P w K (.Tuple elts kk pos) (ItL K t) [e,it] e (fun i h=>(∃ old,IsEnum h e it i old)/\h.IsListIter it t i) where
 mem:=by simp
 obj:=fun i h st b hb=>by
  obtain ⟨⟨old,ee⟩,o,ei,_,di⟩:=st
  simp at hb
  rcases hb with rfl | rfl
  ·exact ⟨_,ee,fun v q=>by cases q⟩
  ·exact ⟨_,ei,fun v q=>by rw [di] at q;cases q⟩
 keep:=fun i h h' st k=>by
  obtain ⟨⟨old,ee⟩,g⟩:=st
  exact ⟨⟨old,k e (by simp) _ ee⟩,g.at fun o q=>k it (by simp) o q⟩
 item:=by
  intro X hP hw hK hc i pins s σ H E I hf st hg
  subst hP hw hK
  obtain ⟨xs,x,q1,hx⟩:=hg
  obtain ⟨its,rv,pl,hz⟩:=I.list q1
  obtain ⟨u,hu,ru⟩:=rv.get hx
  obtain ⟨⟨old,ee⟩,g⟩:=st
  have hi:i<its.toArray.size:=by
   have:=(List.getElem?_eq_some_iff.mp hu).1
   simpa using this
  have pT:s.heap.IsList t its.toArray:=pl.isList
  refine wpAny_pyNext_enum_itemD (Draws.list (by simp [I.ok.hd hc]) it t d2 its.toArray) ee ⟨g,pT⟩ hi d1 (by simp [d1,d3]) fun y h' tk hy eo st' gT sz kp=>?_
  have ey:y=u:=by
   have:its.toArray[i]?=some u:=by simpa using hu
   rw [hy] at this
   exact Option.some.inj this
  subst ey
  refine ⟨_,rfl,wpAny_letOwnedTupleGo_enum eo fun h2 eo2 sb=>?_⟩
  have elt:e<s.heap.objs.size:=Heap.lt_size ee
  have ilt:it<s.heap.objs.size:=by obtain ⟨o,q,_⟩:=g;exact Heap.lt_size q
  have hT:IsTup0 h2 s.heap.objs.size [Value.int i tk,y].toArray:=⟨_,(sb.2 _ (Nat.ne_of_gt elt)).trans gT,⟨rfl,rfl⟩,_,rfl⟩
  have J:=zy1 (t:=tk+1) (ch:=[e,it]) (T:=s.heap.objs.size) (vs:=[.int i,x]) (its:=[.int i tk,y]) (h2:=h2) I hf
   (fun b o hb q=>by simp at hb;exact (sb.2 b hb.1).trans (kp b o hb.1 hb.2 q)) (Nat.le_refl _) hT (.cons ⟨tk,rfl⟩ (.cons ru .nil)) (by show 2≤sizeLine;decide)
  refine ⟨.ref s.heap.objs.size,_,J,rfl,⟨_,x,I.hok.fresh (Nat.le_refl _),rfl,fun xs' h'=>by rw [I.list_inj h' q1];exact hx,rfl⟩,?_,fun b hb=>?_⟩
  ·exact ⟨⟨_,by simpa using eo2⟩,st'.1.at fun o q=>(sb.2 _ (Ne.symm d1)).trans q⟩
  ·have:b<s.heap.objs.size:=by
    simp at hb
    rcases hb with rfl | rfl
    ·exact elt
    ·exact ilt
   rw [y6 (Nat.ne_of_lt this)]
   exact (hf b hb).1
 done:=by
  intro X hP hw hK hc i pins s σ H E I hf st hg
  subst hP hw hK
  obtain ⟨xs,q1,hl⟩:=hg
  obtain ⟨its,rv,pl,hz⟩:=I.list q1
  obtain ⟨⟨old,ee⟩,g⟩:=st
  have l1:=rv.length
  have pT:s.heap.IsList t its.toArray:=pl.isList
  have en:i=its.toArray.size:=by simp;omega
  refine wpAny_pyNext_enum_endD (Draws.list (by simp [I.ok.hd hc]) it t d2 its.toArray) ee ⟨by rw [← en];exact g,pT⟩ fun h' eb=>⟨rfl,?_⟩
  have hf':∀ b∈[it],FpOk X pins H b:=fun b hb=>hf b (by simp at hb;simp [hb])
  refine I.step (g':=s.gens) (t':=s.toks) (d':=s.drawn) (ch:=[it]) (fun b hb=>⟨(hf' b hb).2.2.2.1,(hf' b hb).2.1,(hf' b hb).2.2.2.2.1,(hf' b hb).2.2.2.2.2⟩) (fun b o _ _ hc e _=>?_) (fun b o _ _ hc e _=>⟨o.slots,?_⟩)
   (fun _ _ _ _ n=>n) (fun b o hc e=>⟨o,?_⟩) (fun _ _ e=>e) (fun _ _ _ e=>e) (fun b ps e=>⟨#[],by rw [e];simp⟩) (fun m hm=>?_) (fun b u e=>?_) I.bare
  ·simp at hc;exact eb b o hc e
  ·simp at hc;exact eb b o hc e
  ·simp at hc;exact eb b o hc e
  ·obtain ⟨o,es,ep,q,r⟩:=hm
   exact ⟨o,es,ep,eb _ o (fun y=>(hf' it (by simp)).2.1 y.symm) q,r⟩
  ·refine (I.hok b u e).stay (fun c v hc q=>?_) (fun _ q=>q) fun _ _ q=>q
   refine eb c v (fun y=>?_) q
   subst y
   rcases hc with y | y
   ·rw [← y,(hf' c (by simp)).1] at e;cases e
   ·rw [(hf' c (by simp)).1] at y;cases y
 self:=fun _ _ _ _ _ st h=>by
  obtain ⟨⟨old,ee⟩,g⟩:=st
  exact wpAny_pyIter_enum ee h
section
variable {X:Cx}{EX:XX}{a:Expr}{elts:List Expr}{kk:Nat}{p pos pt:Pos}{ma:G->M D}
def zr0 (K:PySem.W.Frag) (ta:TA):TI:=fun σ H R=>ta σ H fun vs H2=>∃ t xs,vs=[.ref t]/\SqL K H2 t xs/\R (ItL K t) H2
theorem zb4 {ta:TA}(hg:Gl X "enumerate") (hm:X.mg "enumerate" = none) (ha:PA X [a] ta) (hs:starEach [a] X.env=[(false,eval a X.env)]:=by rfl):PI X (.Tuple elts kk pt) (.Call (.Name "enumerate" p) [a] [] pos) (zr0 X.K ta):=by
 intro pins s σ H R I h
 refine Call_ (z3C I hg hm boot_enumerate (PyProof.Rows.callWith_type1 (thn (ha pos pins s σ H _ I h) fun us s1 ⟨vs,H1,I1,r1,q1⟩=>?_) (by rw [hs];rfl) rfl))
 obtain ⟨t,xs,e,q2,q⟩:=q1
 subst e
 obtain ⟨u,rfl,ru⟩:=vals1 r1
 cases ru
 obtain ⟨its,rv,pl,hz⟩:=I1.list q2
 have pT:s1.heap.IsList t its.toArray:=pl.isList
 have lt:t<s1.heap.objs.size:=by obtain ⟨o,n,e,_⟩:=pl;exact Heap.lt_size e
 refine callType_new PySem.F.called_enumerate (by decide) (PySem.F.typeCall_enumerate_1 _) (PySem.F.newCall_enumerate_1 _) (fun obj=>PySem.F.args_object_init_2 obj _) PySem.F.entry_enumerate_new (z70 t its.toArray) ⟨pT,?_⟩
 have y1:(s1.heap.push { cls:=.type "list_iterator",data:=.fields #[.ref t,.int 0 0] }).objs.size=s1.heap.objs.size+1:=Heap.size_push ..
 have x2:((s1.heap.push { cls:=.type "list_iterator",data:=.fields #[.ref t,.int 0 0] }).push { cls:=.type "enumerate",data:=.fields #[.none,.bool false,.ref s1.heap.objs.size,rawInt 0,.none,.none] }).get? (s1.heap.objs.size+1)=some { cls:=.type "enumerate",data:=.fields #[.none,.bool false,.ref s1.heap.objs.size,rawInt 0,.none,.none] }:=by rw [← y1];exact Heap.get?_push_size _ rfl
 have x1:((s1.heap.push { cls:=.type "list_iterator",data:=.fields #[.ref t,.int 0 0] }).push { cls:=.type "enumerate",data:=.fields #[.none,.bool false,.ref s1.heap.objs.size,rawInt 0,.none,.none] }).get? s1.heap.objs.size=some { cls:=.type "list_iterator",data:=.fields #[.ref t,.int 0 0] }:=Heap.get?_push_of_some _ (Heap.get?_push_size _ rfl)
 show _/\_
 rw [y1]
 refine ⟨⟨_,x2,rfl⟩,wpAny_pyIter_enum (e:=s1.heap.objs.size+1) (it:=s1.heap.objs.size) (i:=0) (old:=.none) x2 ?_⟩
 refine ⟨s1.heap.objs.size+1,_,_,_,H1,rfl,I1.kept (t':=s1.toks) (fun c o q=>Heap.get?_push_of_some _ (Heap.get?_push_of_some _ q)),z7e (it:=s1.heap.objs.size) (t:=t) (Nat.ne_of_gt (Nat.lt_succ_self _)) (Nat.ne_of_lt lt) (Nat.ne_of_gt (Nat.lt_succ_of_lt lt)),⟨⟨_,x2⟩,⟨_,x1,rfl,rfl⟩⟩,fun b hb=>?_,q⟩
 have hb':s1.heap.objs.size≤b:=by
  simp at hb
  rcases hb with rfl | rfl
  ·exact Nat.le_succ _
  ·exact Nat.le_refl _
 exact I1.fpOk hb' (I1.hok.fresh hb')
def z6T (ma:G->M D):G->M Src:=fun γ=>do
 let l ← z8 ma aNil γ
 match l with
 | [.ref n]=>do
  let xs ← getL n
  pure (.obj n (.lst xs) (z2q xs))
 | _=>bad
theorem zc8 (hc:X.calm=true) (hg:Gl X "enumerate") (hm:X.mg "enumerate" = none) (ha:SE X EX a ma) (hs:starEach [a] X.env=[(false,eval a X.env)]:=by rfl):SI X EX (.Tuple elts kk pt) (.Call (.Name "enumerate" p) [a] [] pos) (z6T ma) :=
 ⟨PI.imp (zb4 hg hm (z6 ha Z0 hs).h hs) fun σ H R ⟨ρ,γ,h,rel,fin⟩=>⟨ρ,γ,h,rel,(Fin.bind fin).mono fun l ρ1 h1 H1 p1 e1 r1 f1 vs rv=>by
  split at f1
  ·rename_i n
   simp only [RDs,RD] at rv
   obtain ⟨_,_,rfl,⟨t,rfl,q1⟩,rfl⟩:=rv
   have f3:=Fin.bind f1
   cases e3:getL n h1 with
   | bad=>rw [e3] at f3;exact f3.elim
   | err z hz=>exact (z0j e3).elim
   | ok xs h3 =>
    obtain ⟨rfl,g1⟩:=z0i e3
    rw [e3] at f3
    obtain ⟨a1,n1,us,o1,d1⟩:=r1.at g1
    rw [q1] at n1;cases n1
    refine ⟨t,us,rfl,SqL.of o1,f3 ρ1 H1 (Pre.refl _) (Ext.refl _ _) r1 ρ1 H1 (Pre.refl _) (Ext.refl _ _) r1 _ fun i ρ2 h4 H2 p2 e2 r2 gd=>?_⟩
    have gd:h4[n]?=some (.lst xs):=gd
    obtain ⟨a2,n2,us2,o2,d2⟩:=r2.at gd
    rw [p2 n _ q1] at n2;cases n2
    refine ⟨fun d hd=>?_,fun hi=>?_⟩
    ·have hd':(z2q xs)[i]?=some d:=hd
     obtain ⟨x,g1,rfl⟩:=z7S hd'
     obtain ⟨v1,a1,b1⟩:=d2.get g1
     refine ⟨⟨us2,v1,SqL.of o2,a1⟩,fun v H3 ⟨T,x',n1,n2,n3,n5⟩=>?_⟩
     have m1:=n3 us2 (SqL.of o2)
     rw [a1] at m1;cases m1
     subst n2;subst n5
     have ext:Ext X.K H2 (L2.upd H2 T (.tup [.int i,v1])):=Ext.upd (.inl n1)
     refine ⟨?_,r2.other n1,ext⟩
     simp only [RD]
     exact ⟨T,_,rfl,SqT.of y0,RDs.cons (by simp [RD]) (RDs.cons (b1.mono (Pre.refl _) ext) RDs.nil)⟩
    ·have hi':(z2q xs).length=i:=hi
     unfold z2q at hi'
     rw [List.length_map,List.length_range] at hi'
     have l1:=d2.length
     exact ⟨us2,SqL.of o2,by omega⟩
  ·exact (show False from f1).elim⟩⟩
end
end FT
set_option maxHeartbeats 2000000
namespace FT
open PySem PySem.Spec PyProof.Rows L2
mutual
def z0o:D->Bool
 | .int _=>true
 | .str _=>true
 | .bl _=>true
 | .non=>true
 | .tup xs=>Y9 xs
 | _=>false
def Y9:List D->Bool
 | []=>true
 | d :: r=>z0o d && Y9 r
end
theorem z3r {d:D}:∀ {ds:List D},Y9 ds=true->d∈ds->z0o d=true
 | [],_,h=>by cases h
 | x :: r,p,h=>by
  simp only [Y9,Bool.and_eq_true] at p
  rcases List.mem_cons.mp h with rfl | h
  ·exact p.1
  ·exact z3r p.2 h
section
variable {X:Cx}{pins:List (Addr×Obj)}{σ:L2.St}{H:Hp}{s:Shared}{ρ:List Addr}
mutual
theorem RD.one (I:Inv X pins σ H s):∀ {z z':D}{v:V},z0o z=true->z0o z'=true->RD X.K ρ H z v->RD X.K ρ H z' v->z=z'
 | .non,z',v,_,p,h,h'=>by
  simp only [RD] at h;subst h
  cases z'<;>simp_all [RD,z0o]
 | .bl b,z',v,_,p,h,h'=>by
  simp only [RD] at h;subst h
  cases z'<;>simp_all [RD,z0o]
 | .int i,z',v,_,p,h,h'=>by
  simp only [RD] at h;subst h
  cases z'<;>simp_all [RD,z0o]
 | .str x,z',v,_,p,h,h'=>by
  simp only [RD] at h;subst h
  cases z'<;>simp_all [RD,z0o]
 | .tup ds,z',v,q,p,h,h'=>by
  simp only [RD] at h
  obtain ⟨a,xs,rfl,h2,h3⟩:=h
  cases z' with
  | tup ds' =>
   simp only [RD] at h'
   obtain ⟨a',xs',e,h5,h6⟩:=h'
   cases e
   have e2:=I.tuple_inj h5 h2
   subst e2
   simp only [z0o] at q p
   rw [RDs.one I q p h3 h6]
  | non=>simp [RD] at h'
  | bl b=>simp [RD] at h'
  | int b=>simp [RD] at h'
  | str b=>simp [RD] at h'
  | fl b=>simp [z0o] at p
  | ref b=>simp [z0o] at p
 | .fl ds,z',v,q,p,h,h'=>by simp [z0o] at q
 | .ref ds,z',v,q,p,h,h'=>by simp [z0o] at q
theorem RDs.one (I:Inv X pins σ H s):∀ {ds ds':List D}{xs:List V},Y9 ds=true->Y9 ds'=true->RDs X.K ρ H ds xs->RDs X.K ρ H ds' xs->ds=ds'
 | [],ds',xs,_,_,h,h'=>by
  simp only [RDs] at h;subst h
  cases ds' with
  | nil=>rfl
  | cons d r=>simp [RDs] at h'
 | d :: r,ds',xs,q,p,h,h'=>by
  simp only [RDs] at h
  obtain ⟨x,xr,rfl,h2,h3⟩:=h
  cases ds' with
  | nil=>simp [RDs] at h'
  | cons d' r' =>
   simp only [RDs] at h'
   obtain ⟨x',xr',e,h5,h6⟩:=h'
   cases e
   simp only [Y9,Bool.and_eq_true] at q p
   rw [RD.one I q.1 p.1 h2 h5,RDs.one I q.2 p.2 h3 h6]
end
theorem ze3 {w w':V}{y:Value}(h:L2.RelV w y) (h':L2.RelV w' y):w=w':=by
 cases w<;>cases w'<;>simp only [L2.RelV] at h h'<;>first
  | (subst h;cases h';rfl)
  | (obtain ⟨t,rfl⟩:=h;obtain ⟨t',e⟩:=h';cases e;rfl)
  | (obtain ⟨t,rfl⟩:=h;obtain ⟨t',e⟩:=h';cases e;done)
  | (obtain ⟨t,rfl⟩:=h;cases h';done)
  | (subst h;obtain ⟨t',e⟩:=h';cases e;done)
  | (subst h;cases h';done)
open Classical in
theorem z9Q {h:AH}{d:D}{ds:List D}{x:V}{v:Value}{xs:List V}{its:List Value}{b:Bool}(hu:X.A.units+30<cLine) (I:Inv X pins σ H s) (rh:RH X.K ρ h H) (pd:Y9 ds=true) (rx:RD X.K ρ H d x) (wx:RelV x v) (rs:RDs X.K ρ H ds xs) (ws:Vals xs its) (e:inZ h d ds=some b) :
 ∃ f:Value->Bool,(∀ y∈its,SeqAt.EqAt X.A.in1 s y v (f y))/\∀ (i:Nat) (y:Value) (z:D),its[i]?=some y->ds[i]?=some z->(f y=true↔eqN 24 h z d=some true):=by
 obtain ⟨q1,q2⟩:=z2L e
 have ex:∀ y∈its,∃ a z w,z∈ds/\RD X.K ρ H z w/\RelV w y/\eqN 24 h z d=some a:=fun y hy=>by
  obtain ⟨j,hj⟩:=List.getElem?_of_mem hy
  have lj:=(List.getElem?_eq_some_iff.mp hj).1
  have a1:xs[j]?=some (xs[j]'(by rw [ws.length];exact lj)):=List.getElem?_eq_getElem _
  obtain ⟨y',c1,a2⟩:=ws.get a1
  rw [hj] at c1
  cases c1
  obtain ⟨z,b1,b2⟩:=rs.getV a1
  have zm:=List.mem_of_getElem? b1
  obtain ⟨a,c⟩:=q1 z zm
  exact ⟨a,z,_,zm,b2,a2,c⟩
 have key:∀ y∈its,∀ a,(∃ z w,z∈ds/\RD X.K ρ H z w/\RelV w y/\eqN 24 h z d=some a)->SeqAt.EqAt X.A.in1 s y v a:=fun y hy a ⟨z,w,zm,r1,r2,c⟩ =>
  (deq I rh 24 (A:=X.A.in1) (show X.A.units+1+24<cLine by omega) r1 rx r2 wx c).1
 refine ⟨fun y=>decide (∃ z w,z∈ds/\RD X.K ρ H z w/\RelV w y/\eqN 24 h z d=some true),fun y hy=>?_,fun i y z hy hz=>?_⟩
 ·by_cases c:∃ z w,z∈ds/\RD X.K ρ H z w/\RelV w y/\eqN 24 h z d=some true
  ·dsimp only
   rw [decide_eq_true c]
   exact key y hy true c
  ·dsimp only
   rw [decide_eq_false c]
   obtain ⟨a,z,w,g⟩:=ex y hy
   cases a with
   | false=>exact key y hy false ⟨z,w,g⟩
   | true=>exact absurd ⟨z,w,g⟩ c
 ·obtain ⟨w,a1,a2⟩:=rs.get hz
  obtain ⟨y',b1,b2⟩:=ws.get a1
  rw [hy] at b1
  cases b1
  have zm:=List.mem_of_getElem? hz
  rw [decide_eq_true_eq]
  constructor
  ·rintro ⟨z',w',zm',r1,r2,c⟩
   rw [ze3 r2 b2] at r1
   rw [RD.one I (z3r pd zm) (z3r pd zm') a2 r1]
   exact c
  ·exact fun c=>⟨z,w,zm,a2,b2,c⟩
end
section
variable {X:Cx}{EX:XX}{o a:Expr}{apos cpos:Pos}{mo ma:G->M D}
def z39 (h:AH) (y:D) (xs:List D):Nat:=xs.findIdx fun z=>decide (eqN 24 h z y=some true)
def zp9 (K:PySem.W.Frag):V->List V->Hp->VK->Prop:=fun x vs H Q=>∃ ρ h l d ds u xs,x=.ref l/\vs=[u]/\RH K ρ h H/\RD K ρ H d u/\SqL K H l xs/\RDs K ρ H ds xs/\Y9 ds=true/\ds.length≤100000/\inZ h d ds=some true/\Q (.int (z39 h d ds:Nat)) H
theorem z8R (hu:X.A.units+40<cLine):MtR X "list.index" (zp9 X.K):=by
 intro pins s σ H x vs v us Q I rx rv h
 obtain ⟨ρ,h,l,d,ds,u,xs,rfl,rfl,rh,rd,hq,rs,pd,hl,e,q⟩:=h
 cases rx
 obtain ⟨w,rfl,rw'⟩:=rv.one
 obtain ⟨its,ws,pl,hz⟩:=I.list hq
 obtain ⟨f,f1,f2⟩:=z9Q (by omega) I rh pd rd rw' rs ws e
 obtain ⟨⟨cls,dd,data,sl⟩,ho,hc,n,hd⟩:=id pl.isList
 simp only at hc hd
 subst hc hd
 have l1:ds.length=its.length:=by rw [rs.length,ws.length]
 have hj:z39 h d ds<ds.length:=by
  obtain ⟨_,q2⟩:=z2L e
  obtain ⟨z,zm,c⟩:=q2.mp rfl
  exact List.findIdx_lt_length_of_exists ⟨z,zm,decide_eq_true c⟩
 have at_:∀ {m:Nat} (hm:m<its.length) ,f its[m]=decide (eqN 24 h (ds[m]'(by omega)) d=some true):=fun {m} hm=>by
  have:=f2 m its[m] (ds[m]'(by omega)) (List.getElem?_eq_getElem hm) (List.getElem?_eq_getElem (by omega))
  rw [Bool.eq_iff_iff,this,decide_eq_true_eq]
 refine call_meets PySem.F.slot_list_index ⟨_,ho,rfl⟩ PySem.F.entry_list_index (PySem.F.args_list_index_2 _ _)
  (PySem.SeqAt.list_indexAt l its.toArray n dd sl w f (z39 h d ds) (by simpa [← l1] using hj) (by omega) ?_ ?_) ⟨ho,fun y hy=>?_,⟨.int _,H,I.tok _,⟨_,rfl⟩,q⟩⟩
 ·show f its[z39 h d ds]=true
  rw [at_ (by omega)]
  exact List.findIdx_getElem (p:=fun z=>decide (eqN 24 h z d=some true)) (w:=hj)
 ·intro m hm hlt
  show f its[m]=false
  rw [at_ (by simpa using hm)]
  have:=List.not_of_lt_findIdx (p:=fun z=>decide (eqN 24 h z d=some true)) (xs:=ds) (i:=m) hlt
  simpa using this
 ·exact f1 y (by simpa using hy)
def ixX (xs:List D) (y:D):M D:=fun h=>if Y9 xs=true/\xs.length≤100000/\inZ h y xs=some true then .ok (.int (z39 h y xs:Nat)) h else .bad
def z7v (n:Nat) (y:D):M D:=do
 let xs ← getL n
 ixX xs y
theorem z92 (hu:X.A.units+40<cLine) (ho:SE X EX o mo) (ha:SE X EX a ma)
 (hbase:attributeBase o "index" X.env (eval o X.env)=eval o X.env:=by rfl)
 (hfew:((backTo cpos (starEach [a] X.env)).all (fun x=>!x.1) && (backToKw cpos (keywordEach [] X.env)).all (fun x=>x.1.isSome)
  && decide (([a]:List Expr).length+([]:List Keyword).length+(if ([]:List Keyword).isEmpty then 0 else 1)<30))=true:=by rfl)
 (hline:(apos.endLine == cpos.line)=true:=by rfl) (hs:starEach [a] X.env=[(false,eval a X.env)]:=by rfl) :
 SE X EX (.Call (.Attribute o "index" apos) [a] [] cpos) (eM1 z7v mo ma) :=
 ⟨PE.imp (z9A PySem.F.plainAttrs_list PySem.F.slot_list_index PySem.F.type_list_index (z8R hu) ho.h (z0d ha.h z17 hs) hbase hfew hline hs rfl) (z9L fun ρ h H n q y u Q r hq ru fin=>by
  have f2:Fin X.K EX ρ H _ _:=Fin.bind (show Fin X.K EX ρ H (fun d ρ' _ H'=>∀ v,RD X.K ρ' H' d v->Q v H') ((getL n >>= fun xs=>ixX xs y) h) from fin)
  cases e3:getL n h with
  | bad=>rw [e3] at f2;exact f2.elim
  | err z hz=>exact (z0j e3).elim
  | ok xs h3 =>
   obtain ⟨rfl,q1⟩:=z0i e3
   rw [e3] at f2
   obtain ⟨a1,n1,vs,o1,d1⟩:=r.at q1
   rw [hq] at n1;cases n1
   have f3:FE X.K EX ρ H Q (ixX xs y _):=f2 ρ H (Pre.refl _) (Ext.refl _ _) r
   unfold ixX at f3
   split at f3
   ·rename_i c
    exact ⟨ρ,_,_,y,xs,u,vs,rfl,rfl,r,ru,SqL.of o1,d1,c.1,c.2.1,c.2.2,FE.here f3 r (by simp [RD])⟩
   ·exact f3.elim)⟩
theorem hu40 {A:Around}{k:Nat}(hr:Room k A):A.units+40<cLine:=Nat.lt_of_le_of_lt (Nat.add_le_add_left (by decide:40≤64) _) hr.units
end
abbrev Bl:=List (Nat×List Nat)
def blk (bl:Bl) (k:Nat):List Nat:=((bl.find? fun p=>decide (p.1=k)).map (·.2)).getD []
def keyOf (bl:Bl) (x:Nat):Nat:=((bl.find? fun p=>decide (x∈p.2)).map (·.1)).getD 0
structure PB (n:Nat) (bl:Bl):Prop where
 hd:∀ p∈bl,p.2.head?=some p.1
 rise:∀ p∈bl,p.2.Pairwise (·<·)
 cov:∀ x,x<n↔∃ p∈bl,x∈p.2
 dis:∀ p∈bl,∀ q∈bl,∀ x,x∈p.2->x∈q.2->p=q
 nd:(bl.map (·.1)).Nodup
theorem z1N {l:List Nat}{k:Nat}(h:l.head?=some k):k∈l:=by
 cases l with
 | nil=>cases h
 | cons a l=>simp at h;simp [h]
theorem z5N {l:List Nat}{k:Nat}(h:l.head?=some k) (r:l.Pairwise (·<·)):∀ x∈l,k≤x:=fun x hx=>by
 cases l with
 | nil=>cases h
 | cons a l =>
  simp at h
  subst h
  rcases List.mem_cons.mp hx with q | q
  ·omega
  ·exact Nat.le_of_lt (List.rel_of_pairwise_cons r q)
theorem z8t {l:List Nat}{k:Nat}(hk:k∈l) (r:l.Pairwise (·<·)) (le:∀ x∈l,k≤x):l.head?=some k:=by
 cases l with
 | nil=>cases hk
 | cons a l =>
  have a1:=le a (by simp)
  have a2:=z5N (l:=a :: l) rfl r k hk
  simp;omega
section
variable {n:Nat}{bl:Bl}
theorem PB.bmem (b:PB n bl) {p:Nat×List Nat}(h:p∈bl):p.1∈p.2:=z1N (b.hd p h)
theorem PB.uniq (b:PB n bl) {p q:Nat×List Nat}(hp:p∈bl) (hq:q∈bl) (e:p.1=q.1):p=q:=b.dis p hp q hq p.1 (b.bmem hp) (by rw [e];exact b.bmem hq)
theorem PB.blk (b:PB n bl) {p:Nat×List Nat}(h:p∈bl):FT.blk bl p.1=p.2:=by
 unfold FT.blk
 cases e:bl.find? fun q=>decide (q.1=p.1) with
 | none =>
  rw [List.find?_eq_none] at e
  exact absurd (by simp) (e p h)
 | some q =>
  have m:=List.mem_of_find?_eq_some e
  have q1:=List.find?_some e
  rw [b.uniq m h (by simpa using q1)]
  rfl
theorem PB.of_key (b:PB n bl) {k:Nat}(h:k∈bl.map (·.1)):(k,FT.blk bl k)∈bl:=by
 obtain ⟨p,hp,rfl⟩:=List.mem_map.mp h
 rw [b.blk hp]
 exact hp
theorem PB.key (b:PB n bl) {p:Nat×List Nat}(h:p∈bl) {x:Nat}(hx:x∈p.2):keyOf bl x=p.1:=by
 unfold keyOf
 cases e:bl.find? fun q=>decide (x∈q.2) with
 | none =>
  rw [List.find?_eq_none] at e
  exact absurd (by simpa using hx) (e p h)
 | some q =>
  have m:=List.mem_of_find?_eq_some e
  have q1:=List.find?_some e
  rw [b.dis q m p h x (by simpa using q1) hx]
  rfl
theorem PB.at_ (b:PB n bl) {x:Nat}(hx:x<n):(keyOf bl x,FT.blk bl (keyOf bl x))∈bl/\x∈FT.blk bl (keyOf bl x):=by
 obtain ⟨p,hp,hx⟩:=(b.cov x).mp hx
 rw [b.key hp hx,b.blk hp]
 exact ⟨hp,hx⟩
theorem PB.lt (b:PB n bl) {p:Nat×List Nat}(h:p∈bl) {x:Nat}(hx:x∈p.2):x<n:=(b.cov x).mpr ⟨p,h,hx⟩
theorem PB.klt (b:PB n bl) {k:Nat}(h:k∈bl.map (·.1)):k<n:=by
 obtain ⟨p,hp,rfl⟩:=List.mem_map.mp h
 exact b.lt hp (b.bmem hp)
theorem PB.len (b:PB n bl):bl.length≤n:=by
 have:=b.nd.length_le_of_subset (l₂:=List.range n) fun k hk=>List.mem_range.mpr (b.klt hk)
 simpa using this
theorem PB.in_blk (b:PB n bl) {k x:Nat}(hk:k∈bl.map (·.1)):x∈FT.blk bl k↔x<n/\keyOf bl x=k:=by
 have m:=b.of_key hk
 constructor
 ·intro hx
  exact ⟨b.lt m hx,b.key m hx⟩
 ·rintro ⟨hx,rfl⟩
  exact (b.at_ hx).2
theorem PB.keyin (b:PB n bl) {x:Nat}(hx:x<n):keyOf bl x∈bl.map (·.1):=List.mem_map.mpr ⟨_,(b.at_ hx).1,rfl⟩
theorem PB.keyle (b:PB n bl) {x:Nat}(hx:x<n):keyOf bl x≤x:=by
 obtain ⟨m,hm⟩:=b.at_ hx
 exact z5N (b.hd _ m) (b.rise _ m) x hm
theorem PB.keyself (b:PB n bl) {k:Nat}(hk:k∈bl.map (·.1)):keyOf bl k=k:=by
 have m:=b.of_key hk
 exact b.key m (b.bmem m)
theorem zc5 (hn:0<n):PB n [(0,List.range n)]:=by
 refine ⟨fun p hp=>?_,fun p hp=>?_,fun x=>by simp,fun p hp q hq x _ _=>?_,by simp⟩
 ·simp at hp;subst hp
  cases n with
  | zero=>omega
  | succ n=>simp [List.range_succ_eq_map]
 ·simp at hp;subst hp;exact List.pairwise_lt_range
 ·simp at hp hq;rw [hp,hq]
def putB (bl:Bl) (k:Nat) (b:List Nat):Bl:=if (bl.any fun p=>decide (p.1=k)) then bl.map (fun p=>if p.1=k then (k,b) else p) else bl++[(k,b)]
def yesL (bl:Bl) (k:Nat) (f:Nat->Bool):List Nat:=(FT.blk bl k).filter f
def noL (bl:Bl) (k:Nat) (f:Nat->Bool):List Nat:=(FT.blk bl k).filter fun x=>!f x
def cutB (bl:Bl) (k:Nat) (f:Nat->Bool):Bl:=putB (putB bl ((yesL bl k f).headD 0) (yesL bl k f)) ((noL bl k f).headD 0) (noL bl k f)
theorem z6S {bl:Bl}{k:Nat}{b:List Nat}{p:Nat×List Nat}:p∈putB bl k b↔(p∈bl/\p.1≠k)∨p=(k,b):=by
 unfold putB
 split
 ·rename_i h
  rw [List.any_eq_true] at h
  obtain ⟨q,hq,e⟩:=h
  have e:=of_decide_eq_true e
  rw [List.mem_map]
  constructor
  ·rintro ⟨r,hr,rfl⟩
   split
   ·exact .inr rfl
   ·rename_i c;exact .inl ⟨hr,c⟩
  ·rintro (⟨hp,c⟩ | rfl)
   ·exact ⟨p,hp,by rw [if_neg c]⟩
   ·exact ⟨q,hq,by rw [if_pos e]⟩
 ·rename_i h
  rw [List.any_eq_true] at h
  rw [List.mem_append,List.mem_singleton]
  constructor
  ·rintro (hp | rfl)
   ·refine .inl ⟨hp,fun e=>h ⟨p,hp,decide_eq_true e⟩⟩
   ·exact .inr rfl
  ·rintro (⟨hp,_⟩ | rfl)
   ·exact .inl hp
   ·exact .inr rfl
theorem z3f {bl:Bl}{k:Nat}{b:List Nat}:(putB bl k b).map (·.1)=if k∈bl.map (·.1) then bl.map (·.1) else bl.map (·.1)++[k]:=by
 have e:(bl.any fun p=>decide (p.1=k))=decide (k∈bl.map (·.1)):=by
  rw [Bool.eq_iff_iff,List.any_eq_true,decide_eq_true_eq,List.mem_map]
  exact ⟨fun ⟨p,hp,q⟩=>⟨p,hp,of_decide_eq_true q⟩,fun ⟨p,hp,q⟩=>⟨p,hp,decide_eq_true q⟩⟩
 unfold putB
 rw [e]
 by_cases c:k∈bl.map (·.1)
 ·rw [if_pos (decide_eq_true c),if_pos c,List.map_map]
  refine List.map_congr_left fun p _=>?_
  show (if p.1=k then (k,b) else p).1=p.1
  split
  ·rename_i q;exact q.symm
  ·rfl
 ·rw [if_neg (by simpa using c),if_neg c,List.map_append]
  rfl
structure Cut (bl:Bl) (k:Nat) (f:Nat->Bool):Prop where
 hk:k∈bl.map (·.1)
 hy:yesL bl k f≠[]
 hn:noL bl k f≠[]
theorem z0G {l:List Nat}(h:l≠[]):l.head?=some (l.headD 0):=by
 cases l with
 | nil=>exact absurd rfl h
 | cons a l=>rfl
theorem z8k (b:PB n bl) {k:Nat}{f:Nat->Bool}(c:Cut bl k f) :
 ∃ a z A Z,((a=(yesL bl k f).headD 0/\A=yesL bl k f/\z=(noL bl k f).headD 0/\Z=noL bl k f)∨(z=(yesL bl k f).headD 0/\Z=yesL bl k f/\a=(noL bl k f).headD 0/\A=noL bl k f))/\a=k/\z∉bl.map (·.1)/\A.head?=some a/\Z.head?=some z:=by
 have m:=b.of_key c.hk
 have rs:=b.rise _ m
 have km:=b.bmem m
 have le:=z5N (b.hd _ m) rs
 have rY:(yesL bl k f).Pairwise (·<·):=List.Pairwise.filter _ rs
 have rN:(noL bl k f).Pairwise (·<·):=List.Pairwise.filter _ rs
 have hY:=z0G c.hy
 have hN:=z0G c.hn
 have other:∀ {z:Nat},z∈FT.blk bl k->z≠k->z∉bl.map (·.1):=fun {z} hz ne hk=>by
  have:=b.keyself hk
  rw [b.key m hz] at this
  exact ne this.symm
 by_cases q:f k=true
 ·have hk:(yesL bl k f).head?=some k:=z8t (List.mem_filter.mpr ⟨km,q⟩) rY fun x hx=>le x (List.mem_filter.mp hx).1
  rw [hY] at hk
  have hk:=Option.some.inj hk
  have zm:=List.mem_filter.mp (z1N hN)
  refine ⟨_,_,_,_,.inl ⟨rfl,rfl,rfl,rfl⟩,hk,other zm.1 fun e=>?_,hY,hN⟩
  have:=zm.2
  rw [e,q] at this
  cases this
 ·have hk:(noL bl k f).head?=some k:=z8t (List.mem_filter.mpr ⟨km,by simpa using q⟩) rN fun x hx=>le x (List.mem_filter.mp hx).1
  rw [hN] at hk
  have hk:=Option.some.inj hk
  have zm:=List.mem_filter.mp (z1N hY)
  refine ⟨_,_,_,_,.inr ⟨rfl,rfl,rfl,rfl⟩,hk,other zm.1 fun e=>?_,hN,hY⟩
  have:=zm.2
  rw [e] at this
  exact q this
theorem z07 (b:PB n bl) {k:Nat}{f:Nat->Bool}(c:Cut bl k f) {p:Nat×List Nat}:p∈cutB bl k f↔(p∈bl/\p.1≠k)∨p=((yesL bl k f).headD 0,yesL bl k f)∨p=((noL bl k f).headD 0,noL bl k f):=by
 obtain ⟨a,z,A,Z,h,hk,hz,_,_⟩:=z8k b c
 have za:z≠a:=fun e=>hz (by rw [e,hk];exact c.hk)
 have zb:∀ p∈bl,p.1≠z:=fun p hp e=>hz (by rw [← e];exact List.mem_map.mpr ⟨p,hp,rfl⟩)
 unfold cutB
 rw [z6S,z6S]
 rcases h with ⟨e1,e2,e3,e4⟩ | ⟨e1,e2,e3,e4⟩
 ·rw [← e1,← e2,← e3,← e4,hk]
  constructor
  ·rintro (⟨⟨h1,h2⟩ | rfl,h3⟩ | rfl)
   ·exact .inl ⟨h1,h2⟩
   ·exact .inr (.inl rfl)
   ·exact .inr (.inr rfl)
  ·rintro (⟨h1,h2⟩ | rfl | rfl)
   ·exact .inl ⟨.inl ⟨h1,h2⟩,zb _ h1⟩
   ·exact .inl ⟨.inr rfl,fun e=>za (by rw [hk];exact e.symm)⟩
   ·exact .inr rfl
 ·rw [← e1,← e2,← e3,← e4,hk]
  constructor
  ·rintro (⟨⟨h1,h2⟩ | rfl,h3⟩ | rfl)
   ·exact .inl ⟨h1,h3⟩
   ·exact .inr (.inl rfl)
   ·exact .inr (.inr rfl)
  ·rintro (⟨h1,h2⟩ | rfl | rfl)
   ·exact .inl ⟨.inl ⟨h1,zb _ h1⟩,h2⟩
   ·exact .inl ⟨.inr rfl,fun e=>za (by rw [hk];exact e)⟩
   ·exact .inr rfl
theorem z8M (b:PB n bl) {k:Nat}{f:Nat->Bool}(c:Cut bl k f):PB n (cutB bl k f):=by
 have m:=b.of_key c.hk
 have rs:=b.rise _ m
 have hY:=z0G c.hy
 have hN:=z0G c.hn
 have inY:∀ {x:Nat},x∈yesL bl k f->x∈FT.blk bl k/\f x=true:=fun hx=>List.mem_filter.mp hx
 have inN:∀ {x:Nat},x∈noL bl k f->x∈FT.blk bl k/\f x=false:=fun hx=>by
  have:=List.mem_filter.mp hx
  simpa using this
 refine ⟨fun p hp=>?_,fun p hp=>?_,fun x=>?_,fun p hp q hq x hx hy=>?_,?_⟩
 ·rcases (z07 b c).mp hp with ⟨h1,_⟩ | rfl | rfl
  ·exact b.hd p h1
  ·exact hY
  ·exact hN
 ·rcases (z07 b c).mp hp with ⟨h1,_⟩ | rfl | rfl
  ·exact b.rise p h1
  ·exact List.Pairwise.filter _ rs
  ·exact List.Pairwise.filter _ rs
 ·rw [b.cov]
  constructor
  ·rintro ⟨p,hp,hx⟩
   by_cases e:p.1=k
   ·have e2:=b.blk hp
    rw [e] at e2
    rw [← e2] at hx
    by_cases q:f x=true
    ·exact ⟨_,(z07 b c).mpr (.inr (.inl rfl)),List.mem_filter.mpr ⟨hx,q⟩⟩
    ·exact ⟨_,(z07 b c).mpr (.inr (.inr rfl)),List.mem_filter.mpr ⟨hx,by simpa using q⟩⟩
   ·exact ⟨p,(z07 b c).mpr (.inl ⟨hp,e⟩),hx⟩
  ·rintro ⟨p,hp,hx⟩
   rcases (z07 b c).mp hp with ⟨h1,_⟩ | rfl | rfl
   ·exact ⟨p,h1,hx⟩
   ·exact ⟨_,m,(inY hx).1⟩
   ·exact ⟨_,m,(inN hx).1⟩
 ·have old:∀ {p:Nat×List Nat},p∈bl->p.1≠k->∀ x,x∈p.2->x∉FT.blk bl k:=fun {p} hp ne x h1 h2=>ne (by rw [b.dis p hp _ m x h1 h2])
  rcases (z07 b c).mp hp with ⟨h1,n1⟩ | rfl | rfl<;>rcases (z07 b c).mp hq with ⟨h2,n2⟩ | rfl | rfl
  ·exact b.dis p h1 q h2 x hx hy
  ·exact absurd (inY hy).1 (old h1 n1 x hx)
  ·exact absurd (inN hy).1 (old h1 n1 x hx)
  ·exact absurd (inY hx).1 (old h2 n2 x hy)
  ·rfl
  ·have a1:=(inY hx).2
   rw [(inN hy).2] at a1
   cases a1
  ·exact absurd (inN hx).1 (old h2 n2 x hy)
  ·have a1:=(inY hy).2
   rw [(inN hx).2] at a1
   cases a1
  ·rfl
 ·unfold cutB
  have one:∀ {bl:Bl} {k:Nat} {b:List Nat},(bl.map (·.1)).Nodup->((putB bl k b).map (·.1)).Nodup:=fun {bl k b} nd=>by
   rw [z3f]
   split
   ·exact nd
   ·rename_i h
    rw [List.nodup_append]
    exact ⟨nd,by simp,fun x hx y hy e=>h (by simp at hy;rw [← hy,← e];exact hx)⟩
  exact one (one b.nd)
theorem z4n (b:PB n bl) {k:Nat}{f:Nat->Bool}(c:Cut bl k f):(cutB bl k f).length=bl.length+1:=by
 obtain ⟨a,z,A,Z,h,hk,hz,_,_⟩:=z8k b c
 have ka:a∈bl.map (·.1):=by rw [hk];exact c.hk
 have e:((cutB bl k f).map (·.1)).length=(bl.map (·.1)).length+1:=by
  unfold cutB
  rw [z3f,z3f]
  rcases h with ⟨e1,_,e3,_⟩ | ⟨e1,_,e3,_⟩
  ·rw [← e1,← e3,if_pos ka,if_neg hz]
   simp
  ·rw [← e1,← e3,if_neg hz,if_pos (List.mem_append_left _ ka)]
   simp
 simpa using e
theorem z9K (b:PB n bl) {k:Nat}{f:Nat->Bool}(c:Cut bl k f) {x y:Nat}(hx:x<n) (hy:y<n):keyOf (cutB bl k f) x=keyOf (cutB bl k f) y↔keyOf bl x=keyOf bl y/\(keyOf bl x=k->f x=f y):=by
 have b':=z8M b c
 have m:=b.of_key c.hk
 have own:∀ {x:Nat},x<n->keyOf bl x=k->(f x=true/\keyOf (cutB bl k f) x=(yesL bl k f).headD 0)∨(f x=false/\keyOf (cutB bl k f) x=(noL bl k f).headD 0):=fun {x} hx e=>by
  have hm:=(b.in_blk c.hk).mpr ⟨hx,e⟩
  cases q:f x with
  | true=>exact .inl ⟨rfl,b'.key ((z07 b c).mpr (.inr (.inl rfl))) (List.mem_filter.mpr ⟨hm,q⟩)⟩
  | false=>exact .inr ⟨rfl,b'.key ((z07 b c).mpr (.inr (.inr rfl))) (List.mem_filter.mpr ⟨hm,by simp [q]⟩)⟩
 have ne:(yesL bl k f).headD 0≠(noL bl k f).headD 0:=fun e=>by
  have h1:f ((yesL bl k f).headD 0)=true:=(List.mem_filter.mp (z1N (z0G c.hy))).2
  have h2:(!f ((noL bl k f).headD 0))=true:=(List.mem_filter.mp (z1N (z0G c.hn))).2
  rw [← e,h1] at h2
  cases h2
 have out:∀ {x:Nat},x<n->keyOf bl x≠k->keyOf (cutB bl k f) x=keyOf bl x:=fun {x} hx e=>by
  obtain ⟨h1,h2⟩:=b.at_ hx
  exact b'.key ((z07 b c).mpr (.inl ⟨h1,e⟩)) h2
 have blkY:(yesL bl k f).headD 0∈FT.blk bl k:=(List.mem_filter.mp (z1N (z0G c.hy))).1
 have blkN:(noL bl k f).headD 0∈FT.blk bl k:=(List.mem_filter.mp (z1N (z0G c.hn))).1
 have alien:∀ {x z:Nat},x<n->keyOf bl x≠k->z∈FT.blk bl k->keyOf bl x≠z:=fun {x z} hx e hz q=>by
  have h1:=b.keyself (b.keyin hx)
  rw [q] at h1
  have h2:=b.key m hz
  exact e (by rw [q];exact h1.symm.trans h2)
 by_cases ex:keyOf bl x=k
 ·by_cases ey:keyOf bl y=k
  ·rcases own hx ex with ⟨fx,kx⟩ | ⟨fx,kx⟩<;>rcases own hy ey with ⟨fy,ky⟩ | ⟨fy,ky⟩<;>rw [kx,ky,ex,ey,fx,fy]
   ·simp
   ·simp only [true_and,reduceCtorEq,imp_false,not_true_eq_false,iff_false];exact ne
   ·simp only [true_and,reduceCtorEq,imp_false,not_true_eq_false,iff_false];exact fun e=>ne e.symm
   ·simp
  ·rw [out hy ey,ex]
   refine ⟨fun e=>?_,fun ⟨e,_⟩=>absurd e.symm ey⟩
   rcases own hx ex with ⟨_,kx⟩ | ⟨_,kx⟩
   ·exact absurd (kx.symm.trans e).symm (alien hy ey blkY)
   ·exact absurd (kx.symm.trans e).symm (alien hy ey blkN)
 ·by_cases ey:keyOf bl y=k
  ·rw [out hx ex,ey]
   refine ⟨fun e=>?_,fun ⟨e,_⟩=>absurd e ex⟩
   rcases own hy ey with ⟨_,ky⟩ | ⟨_,ky⟩
   ·exact absurd (e.trans ky) (alien hx ex blkY)
   ·exact absurd (e.trans ky) (alien hx ex blkN)
  ·rw [out hx ex,out hy ey]
   exact ⟨fun e=>⟨e,fun q=>absurd q ex⟩,fun e=>e.1⟩
end
theorem zj8 {st:List (List Nat)}{mk:List (List Str)}(ma:MA st mk):SQ st:=⟨ma.l1,ma.l2,ma.s2⟩
theorem zt0 (a:Str):¬ a.cps.toList<a.cps.toList:=List.lt_irrefl _
theorem z3l {l:List Str}(a:l.Pairwise fun a b=>a.cps.toList<b.cps.toList):l.Nodup:=List.Pairwise.imp (fun {x y} h (e:x=y)=>zt0 y (by rw [e] at h;exact h)) a
theorem z55 {l m:List Str}(a:l.Pairwise fun a b=>a.cps.toList<b.cps.toList) (b:m.Pairwise fun a b=>a.cps.toList<b.cps.toList) (h:∀ x,x∈l↔x∈m):l=m :=
 ((List.perm_ext_iff_of_nodup (z3l a) (z3l b)).mpr h).eq_of_pairwise (fun _ _ _ _ h1 h2=>absurd h2 (List.lt_asymm h1)) a b
def bel (st:List (List Nat)) (mk:List (List Str)) (bl:Bl) (by_:D) (x:Nat):Bool:=match by_ with
 | .str s=>bear s mk x
 | .int k=>(nx st x).any fun o=>decide (o∈FT.blk bl k.toNat)
 | _=>false
structure Stb (st:List (List Nat)) (mk:List (List Str)) (E:Nat->Nat->Prop):Prop where
 lt:∀ x y,E x y->x<st.length/\y<st.length
 sym:∀ x y,E x y->E y x
 marks:∀ x y,E x y->mkAt mk x=mkAt mk y
 steps:∀ x y,E x y->∀ o∈nx st x,∃ t∈nx st y,E o t
def ByOk (bl:Bl) (d:D):Prop:=(∃ s:Str,d=.str s)∨∃ k:Nat,d=.int (k:Nat)/\k∈bl.map (·.1)
theorem zp2 {st:List (List Nat)}{mk:List (List Str)}{bl:Bl}{E:Nat->Nat->Prop}(b:PB st.length bl) (s:Stb st mk E) (co:∀ x y,E x y->keyOf bl x=keyOf bl y) {d:D}(ok:ByOk bl d) {x y:Nat}(e:E x y):bel st mk bl d x=bel st mk bl d y:=by
 rcases ok with ⟨s',rfl⟩ | ⟨k,rfl,hk⟩
 ·show bear s' mk x=bear s' mk y
  unfold bear
  have:=s.marks x y e
  unfold mkAt at this
  rw [this]
 ·show (nx st x).any _=(nx st y).any _
  have go:∀ x y,E x y->((nx st x).any fun o=>decide (o∈FT.blk bl ((k:Nat):Int).toNat))=true->((nx st y).any fun o=>decide (o∈FT.blk bl ((k:Nat):Int).toNat))=true:=fun x y e h=>by
   rw [List.any_eq_true] at h ⊢
   obtain ⟨o,ho,q⟩:=h
   have q:=of_decide_eq_true q
   obtain ⟨t,ht,et⟩:=s.steps x y e o ho
   refine ⟨t,ht,decide_eq_true ?_⟩
   rw [Int.toNat_natCast] at q ⊢
   rw [b.in_blk hk] at q ⊢
   exact ⟨(s.lt _ _ et).2,by rw [← co o t et];exact q.2⟩
  rw [Bool.eq_iff_iff]
  exact ⟨go x y e,go y x (s.sym x y e)⟩
theorem zH2 {st:List (List Nat)}{mk:List (List Str)}{bl:Bl}{E:Nat->Nat->Prop}(b:PB st.length bl) (s:Stb st mk E) (co:∀ x y,E x y->keyOf bl x=keyOf bl y) {d:D}(ok:ByOk bl d) {k:Nat}(c:Cut bl k (bel st mk bl d)):∀ x y,E x y->keyOf (cutB bl k (bel st mk bl d)) x=keyOf (cutB bl k (bel st mk bl d)) y:=fun x y e=>by
 obtain ⟨hx,hy⟩:=s.lt x y e
 exact (z9K b c hx hy).mpr ⟨co x y e,fun _=>zp2 b s co ok e⟩
def Done (st:List (List Nat)) (mk:List (List Str)) (bl:Bl):Prop:=∀ p∈bl,∀ d,((∃ x∈p.2,∃ s∈mkAt mk x,d=.str s)∨∃ k:Nat,d=.int (k:Nat)/\k∈bl.map (·.1))->¬ Cut bl p.1 (bel st mk bl d)
theorem z5n {st:List (List Nat)}{mk:List (List Str)}{bl:Bl}(b:PB st.length bl) (dn:Done st mk bl) {x y:Nat}(hx:x<st.length) (hy:y<st.length) (e:keyOf bl x=keyOf bl y) {d:D}(ok:(∃ z∈FT.blk bl (keyOf bl x),∃ s∈mkAt mk z,d=.str s)∨∃ k:Nat,d=.int (k:Nat)/\k∈bl.map (·.1)):bel st mk bl d x=bel st mk bl d y:=by
 obtain ⟨m,hm⟩:=b.at_ hx
 obtain ⟨m2,hm2⟩:=b.at_ hy
 rw [← e] at hm2
 cases q:bel st mk bl d x with
 | true =>
  cases q2:bel st mk bl d y with
  | true=>rfl
  | false=>exact absurd ⟨b.keyin hx,List.ne_nil_of_mem (List.mem_filter.mpr ⟨hm,q⟩),List.ne_nil_of_mem (a:=y) (List.mem_filter.mpr ⟨hm2,by rw [q2];rfl⟩)⟩ (dn _ m d ok)
 | false =>
  cases q2:bel st mk bl d y with
  | false=>rfl
  | true=>exact absurd ⟨b.keyin hx,List.ne_nil_of_mem (a:=y) (List.mem_filter.mpr ⟨hm2,q2⟩),List.ne_nil_of_mem (List.mem_filter.mpr ⟨hm,by rw [q];rfl⟩)⟩ (dn _ m d ok)
theorem zc0 {st:List (List Nat)}{mk:List (List Str)}{bl:Bl}(ma:MA st mk) (b:PB st.length bl) (dn:Done st mk bl):Stb st mk fun x y=>x<st.length/\y<st.length/\keyOf bl x=keyOf bl y:=by
 refine ⟨fun x y h=>⟨h.1,h.2.1⟩,fun x y h=>⟨h.2.1,h.1,h.2.2.symm⟩,fun x y ⟨hx,hy,e⟩=>?_,fun x y ⟨hx,hy,e⟩ o ho=>?_⟩
 ·have l3:=ma.l3
  have gx:mkAt mk x∈mk:=List.mem_of_getElem? (z6C (show x<mk.length by omega))
  have gy:mkAt mk y∈mk:=List.mem_of_getElem? (z6C (show y<mk.length by omega))
  have good:∀ {l:List Str},l∈mk->∀ s∈l,s≠"":=fun hl s hs e=>by
   have:=(ma.m1 _ hl).good s hs
   rw [e] at this
   exact absurd this.1 (by decide)
  have go:∀ {x y:Nat},x<st.length->y<st.length->keyOf bl x=keyOf bl y->mkAt mk x∈mk->∀ s∈mkAt mk x,s∈mkAt mk y:=fun {x y} hx hy e gx s hs=>by
   have h:=z5n b dn hx hy e (d:=.str s) (.inl ⟨x,(b.at_ hx).2,s,hs,rfl⟩)
   have h:bear s mk x=bear s mk y:=h
   unfold bear at h
   rw [decide_eq_false (good gx s hs),Bool.false_or,Bool.false_or] at h
   have hs':s∈(mk[x]?).getD []:=hs
   rw [decide_eq_true hs'] at h
   exact of_decide_eq_true h.symm
  exact z55 (ma.m1 _ gx).rise (ma.m1 _ gy).rise fun s=>⟨go hx hy e gx s,go hy hx e.symm gy s⟩
 ·have ol:o<st.length:=zl3 (zj8 ma) ho
  have kin:=b.keyin ol
  have h:=z5n b dn hx hy e (d:=.int (keyOf bl o:Nat)) (.inr ⟨_,rfl,kin⟩)
  have h1:bel st mk bl (.int (keyOf bl o:Nat)) x=true:=by
   show (nx st x).any _=true
   rw [List.any_eq_true]
   exact ⟨o,ho,decide_eq_true (by rw [Int.toNat_natCast];exact (b.at_ ol).2)⟩
  rw [h1] at h
  have h:(nx st y).any (fun t=>decide (t∈FT.blk bl ((keyOf bl o:Nat):Int).toNat))=true:=h.symm
  rw [List.any_eq_true] at h
  obtain ⟨t,ht,q⟩:=h
  have q:=of_decide_eq_true q
  rw [Int.toNat_natCast,b.in_blk kin] at q
  exact ⟨t,ht,ol,q.1,q.2.symm⟩
def kvB (bl:Bl):List (Key×D):=bl.map fun p=>(.inl (p.1:Int),.tup (stD p.2))
theorem zp7 (bl:Bl):z11 (kvB bl)=stD (bl.map (·.1)):=by unfold z11 kvB stD;rw [List.map_map,List.map_map];rfl
theorem inl_inj {a b:Nat}:((.inl (a:Int):Key)=.inl (b:Int))↔a=b:=by
 constructor
 ·intro h;injection h with h;omega
 ·rintro rfl;rfl
theorem lkB {bl:Bl}{k:Nat}(h:k∈bl.map (·.1)):lkD (kvB bl) (.inl (k:Int))=some (.tup (stD (blk bl k))):=by
 unfold lkD kvB blk
 rw [List.find?_map]
 have:((fun kv:Key×D=>decide (kv.1=.inl (k:Int))) ∘ fun p:Nat×List Nat=>((.inl (p.1:Int):Key),D.tup (stD p.2)))=fun p=>decide (p.1=k):=by
  funext p
  show decide ((.inl (p.1:Int):Key)=.inl (k:Int))=_
  rw [decide_eq_decide]
  exact inl_inj
 rw [this]
 cases e:bl.find? fun p=>decide (p.1=k) with
 | none =>
  rw [List.find?_eq_none] at e
  obtain ⟨p,hp,q⟩:=List.mem_map.mp h
  exact absurd (by simpa using q) (e p hp)
 | some q=>rfl
theorem ptB (bl:Bl) (k:Nat) (b:List Nat):ptD (kvB bl) (.inl (k:Int)) (.tup (stD b))=kvB (putB bl k b):=by
 unfold ptD putB kvB
 have e:((bl.map fun p=>((.inl (p.1:Int):Key),D.tup (stD p.2))).any fun kv=>decide (kv.1=.inl (k:Int)))=bl.any fun p=>decide (p.1=k):=by
  rw [List.any_map]
  congr 1
  funext p
  show decide ((.inl (p.1:Int):Key)=.inl (k:Int))=_
  rw [decide_eq_decide]
  exact inl_inj
 rw [e]
 by_cases c:(bl.any fun p=>decide (p.1=k))=true
 ·rw [if_pos c,if_pos c,List.map_map,List.map_map]
  refine List.map_congr_left fun p _=>?_
  show (if (.inl (p.1:Int):Key)=.inl (k:Int) then _ else _)=_
  by_cases q:p.1=k
  ·rw [if_pos (inl_inj.mpr q)]
   show _=((.inl ((if p.1=k then (k,b) else p).1:Int):Key),D.tup (stD (if p.1=k then (k,b) else p).2))
   rw [if_pos q]
   show ((.inl (p.1:Int):Key),D.tup (stD b))=_
   rw [q]
  ·rw [if_neg (fun z=>q (inl_inj.mp z))]
   show _=((.inl ((if p.1=k then (k,b) else p).1:Int):Key),D.tup (stD (if p.1=k then (k,b) else p).2))
   rw [if_neg q]
 ·rw [if_neg c,if_neg c,List.map_append]
  rfl
theorem refB {n:Nat}(bl:Bl):w6 n ((kvB bl).map (·.2))=true:=by
 unfold kvB
 rw [List.map_map]
 exact z08 fun p=>z62 _
def Dic (h:AH) (b:Nat) (bl:Bl):Prop:=h[b]?=some (.dK (kvB bl))∨h[b]?=some (.dF (kvB bl))
theorem Dic.app {h:AH}{b:Nat}{bl:Bl}(d:Dic h b bl) (j:AH):Dic (h++j) b bl:=d.imp (fun e=>z3a e) fun e=>z3a e
theorem Dic.lt {h:AH}{b:Nat}{bl:Bl}(d:Dic h b bl):b<h.length:=by rcases d with d | d<;>exact (List.getElem?_eq_some_iff.mp d).1
theorem Dic.get {h:AH}{b:Nat}{bl:Bl}(d:Dic h b bl) {k:Nat}(hk:k∈bl.map (·.1)):z2I (.ref b) (.int (k:Nat)) h=.ok (.tup (stD (blk bl k))) h:=by
 have g:getK b h=.ok (kvB bl) h:=by rcases d with d | d<;>(unfold getK;rw [d])
 unfold z2I
 show (getK b >>= _) h=_
 rw [M.bind_ok g]
 show (match lkD (kvB bl) (.inl (k:Int)) with | some d=>pure d | none=>bad) h=_
 rw [lkB hk]
 rfl
theorem Dic.dk {h:AH}{b:Nat}{bl:Bl}(d:Dic h b bl):z31 b h=.ok (kvB bl) h:=by rcases d with d | d<;>(unfold z31;rw [d])
theorem Dic.walk {h:AH}{b:Nat}{bl:Bl}(d:Dic h b bl) {ma:G->M D}{γ:G}{h0:AH}(e:ma γ h0=.ok (.ref b) h):iDic ma γ h0=.ok (.con (stD (bl.map (·.1)))) (h.set b (.dF (kvB bl))):=by
 unfold iDic
 rw [M.bind_ok e]
 dsimp only
 rcases d with d | d
 ·rw [d]
  dsimp only
  rw [zp7]
 ·rw [d]
  dsimp only
  rw [zp7]
  congr 1
  refine List.ext_getElem? fun i=>?_
  by_cases q:b=i
  ·subst q
   rw [List.getElem?_set_self (List.getElem?_eq_some_iff.mp d).1,d]
  ·rw [List.getElem?_set_ne q]
theorem Dic.set {h:AH}{b:Nat}{bl:Bl}(d:Dic h b bl):Dic (h.set b (.dF (kvB bl))) b bl:=.inr (List.getElem?_set_self d.lt)
theorem z4f {m:M D}{h h0:AH}{i:Nat}{o:O}{j:AH}(e:m h=.ok (.ref i) (h0++j)) (l0:h0.length=h.length) (kp:Kept h h0) (hi:h.length≤i) (ei:(h0++j)[i]?=some o) (c:refO h.length o=true):cln m h=.ok (.ref h.length) (h0++[o]):=by
 have kp':Kept h (h0++j):=fun i o li e=>kp i o li (by rw [List.getElem?_append_left (by omega)] at e;exact e)
 unfold cln
 rw [e]
 dsimp only
 rw [if_pos ⟨by rw [List.length_append];omega,kp'⟩,if_neg (by simp only [J7,decide_eq_true_eq];omega),ei]
 dsimp only
 rw [if_pos c,← l0,List.take_left' rfl]
theorem zu4 {m:M D}{h h0:AH}{d:D}{j:AH}(e:m h=.ok d (h0++j)) (l0:h0.length=h.length) (kp:Kept h h0) (c:J7 0 d=true):cln m h=.ok d h0:=by
 have kp':Kept h (h0++j):=fun i o li e=>kp i o li (by rw [List.getElem?_append_left (by omega)] at e;exact e)
 unfold cln
 rw [e]
 dsimp only
 rw [if_pos ⟨by rw [List.length_append];omega,kp'⟩,if_pos (z1W (Nat.zero_le _) c),← l0,List.take_left' rfl]
theorem z6q {h:AH}{b:Nat}{o:O}(c:refO h.length o=true):Kept h (h.set b o):=fun i u li e=>by
 by_cases q:b=i
 ·subst q
  rw [List.getElem?_set_self li] at e
  cases e
  exact .inr c
 ·rw [List.getElem?_set_ne q] at e
  exact .inl e
theorem z6B (h:AH):Kept h h:=fun _ _ _ e=>.inl e
theorem z7Z {kvs:List (Key×D)}{k:Key}{v:D}(h:k∉kvs.map (·.1)):ptD kvs k v=kvs++[(k,v)]:=by
 unfold ptD
 rw [if_neg]
 rw [List.any_eq_true]
 rintro ⟨p,hp,q⟩
 exact h (List.mem_map.mpr ⟨p,hp,of_decide_eq_true q⟩)
section
variable {cap:List (Option Nat)}{mi mi1:G->M Src}{g g1:D->G->M G}{kb:G->M Bool}{me mv:G->M D}{γ:G}
theorem z8s {h:AH}{n:Nat}{kvs:List (Key×D)}{y v:D}{k:Key}(e:h[n]?=some (.dK kvs)) (hk:keyD y=some k) (hl:kvs.length<1000000) (nk:k∉kvs.map (·.1)):z8i n y v h=.ok () (h.set n (.dK (kvs++[(k,v)]))):=by
 unfold z8i z52
 dsimp only
 rw [hk]
 dsimp only
 rw [e]
 dsimp only
 rw [if_pos (Nat.lt_of_lt_of_le hl (by decide)),z7Z nk]
theorem z4o {γ':G}(f:D->Key×D) (src:Src) (h1:AH) (hg:∀ j,src.good (h1++j)):∀ (rest:List D) (kvs:List (Key×D)),(kvs.map (·.1)++rest.map fun d=>(f d).1).Nodup->kvs.length+rest.length≤1000 ->
 (∀ d∈rest,∃ γ1 y,(∀ h,g d γ' h=.ok γ1 h)/\(∀ h,kb γ1 h=.ok true h)/\keyD y=some (f d).1/\(∀ j,me γ1 (h1++j)=.ok y (h1++j))/\∀ j,mv γ1 (h1++j)=.ok (f d).2 (h1++j)) ->
 z0e src g kb me mv h1.length γ' rest (h1++[.dK kvs])=.ok () (h1++[.dK (kvs++rest.map f)])
 | [],kvs,nd,hl,hd=>by
  unfold z0e
  have c1:src.chk (h1++[.dK kvs])=.ok () (h1++[.dK kvs]):=by unfold Src.chk;rw [if_pos (hg _)]
  rw [M.bind_ok c1]
  simp
 | d :: rest,kvs,nd,hl,hd=>by
  obtain ⟨γ1,y,e1,e2,e3,e4,e5⟩:=hd d (by simp)
  have nk:(f d).1∉kvs.map (·.1):=fun q=>(List.nodup_append.mp nd).2.2 _ q _ (by simp) rfl
  have c1:src.chk (h1++[.dK kvs])=.ok () (h1++[.dK kvs]):=by unfold Src.chk;rw [if_pos (hg _)]
  have c5:=z8s (n:=h1.length) (v:=(f d).2) (z0O (h:=h1) (o:=.dK kvs)) e3 (by rw [List.length_cons] at hl;omega) nk
  rw [zf3] at c5
  have ih:=z4o (γ':=γ') f src h1 hg rest (kvs++[f d]) (by rw [List.map_append,List.append_assoc];exact nd) (by rw [List.length_append];simp at hl ⊢;omega) fun x hx=>hd x (by simp [hx])
  unfold z0e
  rw [M.bind_ok c1,M.bind_ok (e1 _),M.bind_ok (e2 _),if_pos rfl,M.bind_ok (e4 _),M.bind_ok (e5 _),M.bind_ok c5,ih]
  simp
theorem zk5 {h h1:AH}{src:Src}(f:D->Key×D) (hi:mi γ h=.ok src h1) (hg:∀ j,src.good (h1++j)) (nd:(src.items.map fun d=>(f d).1).Nodup) (hl:src.items.length≤1000)
 (hd:∀ d∈src.items,∃ γ1 y,(∀ h,g d (capG cap γ) h=.ok γ1 h)/\(∀ h,kb γ1 h=.ok true h)/\keyD y=some (f d).1/\(∀ j,me γ1 (h1++j)=.ok y (h1++j))/\∀ j,mv γ1 (h1++j)=.ok (f d).2 (h1++j)) :
 z9f cap mi g kb me mv γ h=.ok (.ref h1.length) (h1++[.dK (src.items.map f)]):=by
 have r:=z4o (γ':=capG cap γ) (kb:=kb) (me:=me) (mv:=mv) (g:=g) f src h1 hg src.items [] (by simpa using nd) (by simpa using hl) hd
 unfold z9f
 rw [M.bind_ok hi]
 show (z0e src g kb me mv h1.length (capG cap γ) src.items >>= fun _=>(pure (D.ref h1.length):M D)) (h1++[O.dK []])=_
 rw [M.bind_ok r]
 simp
theorem z4Y {γ':G}(ys:D->List D) (f:D->D->Key×D) (src:Src) (h1:AH) (hg:∀ j,src.good (h1++j)):∀ (rest:List D) (kvs:List (Key×D)),(kvs.map (·.1)++rest.flatMap fun d=>(ys d).map fun y=>(f d y).1).Nodup->kvs.length+(rest.flatMap ys).length≤1000 ->
 (∀ d∈rest,∃ γ1,(∀ h,g d γ' h=.ok γ1 h)/\(∀ j,mi1 γ1 (h1++j)=.ok (.con (ys d)) (h1++j))/\∀ y∈ys d,∃ γ2 z,(∀ h,g1 y γ1 h=.ok γ2 h)/\(∀ h,kb γ2 h=.ok true h)/\keyD z=some (f d y).1/\(∀ j,me γ2 (h1++j)=.ok z (h1++j))/\∀ j,mv γ2 (h1++j)=.ok (f d y).2 (h1++j)) ->
 z0N src g mi1 g1 kb me mv h1.length γ' rest (h1++[.dK kvs])=.ok () (h1++[.dK (kvs++rest.flatMap fun d=>(ys d).map (f d))])
 | [],kvs,nd,hl,hd=>by
  unfold z0N
  have c1:src.chk (h1++[.dK kvs])=.ok () (h1++[.dK kvs]):=by unfold Src.chk;rw [if_pos (hg _)]
  rw [M.bind_ok c1]
  simp
 | d :: rest,kvs,nd,hl,hd=>by
  obtain ⟨γ1,e1,e2,e3⟩:=hd d (by simp)
  have c1:src.chk (h1++[.dK kvs])=.ok () (h1++[.dK kvs]):=by unfold Src.chk;rw [if_pos (hg _)]
  rw [List.flatMap_cons,← List.append_assoc] at nd
  rw [List.flatMap_cons,List.length_append] at hl
  have inn:=z4o (γ':=γ1) (g:=g1) (kb:=kb) (me:=me) (mv:=mv) (f d) (.con (ys d)) h1 (fun _=>trivial) (ys d) kvs (List.Nodup.sublist (List.sublist_append_left _ _) nd) (by omega) e3
  have ih:=z4Y (γ':=γ') ys f src h1 hg rest (kvs++(ys d).map (f d)) (by
   rw [List.map_append,List.map_map]
   exact nd) (by rw [List.length_append,List.length_map];omega) fun x hx=>hd x (by simp [hx])
  unfold z0N
  rw [M.bind_ok c1,M.bind_ok (e1 _),M.bind_ok (e2 _)]
  have inn':z0e (Src.con (ys d)) g1 kb me mv h1.length γ1 (Src.con (ys d)).items (h1++[.dK kvs])=_:=inn
  rw [M.bind_ok inn',ih,List.flatMap_cons,List.append_assoc]
theorem z9w {h h1:AH}{src:Src}(ys:D->List D) (f:D->D->Key×D) (hi:mi γ h=.ok src h1) (hg:∀ j,src.good (h1++j)) (nd:(src.items.flatMap fun d=>(ys d).map fun y=>(f d y).1).Nodup) (hl:(src.items.flatMap ys).length≤1000)
 (hd:∀ d∈src.items,∃ γ1,(∀ h,g d (capG cap γ) h=.ok γ1 h)/\(∀ j,mi1 γ1 (h1++j)=.ok (.con (ys d)) (h1++j))/\∀ y∈ys d,∃ γ2 z,(∀ h,g1 y γ1 h=.ok γ2 h)/\(∀ h,kb γ2 h=.ok true h)/\keyD z=some (f d y).1/\(∀ j,me γ2 (h1++j)=.ok z (h1++j))/\∀ j,mv γ2 (h1++j)=.ok (f d y).2 (h1++j)) :
 z4a cap mi g mi1 g1 kb me mv γ h=.ok (.ref h1.length) (h1++[.dK (src.items.flatMap fun d=>(ys d).map (f d))]):=by
 have r:=z4Y (γ':=capG cap γ) (mi1:=mi1) (g1:=g1) (kb:=kb) (me:=me) (mv:=mv) (g:=g) ys f src h1 hg src.items [] (by simpa using nd) (by simpa using hl) hd
 unfold z4a
 rw [M.bind_ok hi]
 show (z0N src g mi1 g1 kb me mv h1.length (capG cap γ) src.items >>= fun _=>(pure (D.ref h1.length):M D)) (h1++[O.dK []])=_
 rw [M.bind_ok r]
 simp
theorem z6j {γ':G}(ys:D->List D) (src:Src) (h1:AH) (hg:∀ j,src.good (h1++j)):∀ (rest acc:List D),acc.length+(rest.flatMap ys).length≤1000000 ->
 (∀ d∈rest,∃ γ1,(∀ h,g d γ' h=.ok γ1 h)/\(∀ j,mi1 γ1 (h1++j)=.ok (.con (ys d)) (h1++j))/\∀ y∈ys d,∃ γ2,(∀ h,g1 y γ1 h=.ok γ2 h)/\(∀ h,kb γ2 h=.ok true h)/\∀ j,me γ2 (h1++j)=.ok y (h1++j)) ->
 z1z src g mi1 g1 kb me h1.length γ' rest (h1++[.lst acc])=.ok () (h1++[.lst (acc++rest.flatMap ys)])
 | [],acc,hl,hd=>by unfold z1z Src.chk;simp [hg]
 | d :: rest,acc,hl,hd=>by
  obtain ⟨γ1,e1,e2,e3⟩:=hd d (by simp)
  rw [List.flatMap_cons,List.length_append] at hl
  have chk:src.chk (h1++[.lst acc])=.ok () (h1++[.lst acc]):=by unfold Src.chk;simp [hg]
  unfold z1z
  rw [M.bind_ok chk,M.bind_ok (e1 _),M.bind_ok (e2 _)]
  have q:=z2S (g:=g1) (k:=kb) (me:=me) (γ:=γ1) (p:=fun _=>true) (f:=fun y=>y) (.con (ys d)) h1 (fun _=>trivial) (ys d) acc (by omega) fun y hy=>by
   obtain ⟨γ2,a1,a2,a3⟩:=e3 y hy
   exact ⟨γ2,a1,fun j=>a2 _,fun _=>a3⟩
  have q':z0S (Src.con (ys d)) g1 kb me h1.length γ1 (Src.con (ys d)).items (h1++[.lst acc])=_:=q
  rw [M.bind_ok q',filter_tt,List.map_id',z6j ys src h1 hg rest _ (by rw [List.length_append];omega) fun y hy=>hd y (by simp [hy]),List.flatMap_cons,List.append_assoc]
theorem zu8 {h h1:AH}{src:Src}(ys:D->List D) (hi:mi γ h=.ok src h1) (hg:∀ j,src.good (h1++j)) (hl:(src.items.flatMap ys).length≤1000000)
 (hd:∀ d∈src.items,∃ γ1,(∀ h,g d (capG cap γ) h=.ok γ1 h)/\(∀ j,mi1 γ1 (h1++j)=.ok (.con (ys d)) (h1++j))/\∀ y∈ys d,∃ γ2,(∀ h,g1 y γ1 h=.ok γ2 h)/\(∀ h,kb γ2 h=.ok true h)/\∀ j,me γ2 (h1++j)=.ok y (h1++j)) :
 z8w cap mi g mi1 g1 kb me γ h=.ok (.ref h1.length) (h1++[.lst (src.items.flatMap ys)]):=by
 have e:=z6j (γ':=capG cap γ) (g:=g) (mi1:=mi1) (g1:=g1) (kb:=kb) (me:=me) ys src h1 hg src.items [] (by simpa using hl) hd
 unfold z8w
 rw [M.bind_ok hi]
 show (z1z src g mi1 g1 kb me h1.length (capG cap γ) src.items >>= fun _=>(pure (D.ref h1.length):M D)) (h1++[.lst []])=_
 rw [M.bind_ok e]
 rfl
end
theorem zz5 {m:M D}{h:AH}{d:D}(e:m h=.ok d h) (c:J7 0 d=true):cln m h=.ok d h:=z1a (j:=[]) (by rw [e,List.append_nil]) (z1W (Nat.zero_le h.length) c)
theorem z8f {ma:G->M D}{γ:G}{h:AH}{d:D}{T:String}{b:Bool}(e1:ma γ h=.ok d h) (e2':fIsi T d h=.ok (.bl b) h):eIsi T ma γ h=.ok (.bl b) h:=by
 unfold eIsi
 rw [M.bind_ok e1,e2']
theorem zK2 {me:G->M D}{γ:G}{h:AH}{bs:List Bool}(e:me γ h=.ok (.ref h.length) (h++[.lst (bs.map .bl)])):clE (Z5 (fAll true) (z8 me aNil)) γ h=.ok (.bl (bs.any id)) h :=
 z1a (j:=[.lst (bs.map .bl)]) (z00 e (by
  have g:getL h.length (h++[O.lst (bs.map .bl)])=.ok (bs.map .bl) (h++[O.lst (bs.map .bl)]):=by unfold getL;rw [z0O]
  unfold fAll
  dsimp only
  rw [M.bind_ok g,z3Q]
  rfl)) rfl
theorem zB9 {ma mv:G->M D}{γ:G}{h:AH}{k v:D}{kk:Key}(e1:ma γ (h++[.dK []])=.ok k (h++[.dK []])) (hk:keyD k=some kk) (e2':mv γ (h++[.dK []])=.ok v (h++[.dK []])):z6u ma mv γ h=.ok (.ref h.length) (h++[.dK [(kk,v)]]):=by
 unfold z6u
 show (ma γ >>= fun k=>mv γ >>= fun v=>putO h.length k v) (h++[O.dK []])=_
 rw [M.bind_ok e1,M.bind_ok e2']
 unfold putO
 rw [hk]
 dsimp only
 rw [z0O]
 dsimp only
 rw [zf3]
theorem z93 {cap:List (Option Nat)}{mi:G->M Src}{g:D->G->M G}{kb:G->M Bool}{me:G->M D}{γ:G}{h h1:AH}{src:Src}{l:List Nat}(f:Nat->D) (hi:mi γ h=.ok src h1) (hs:src.items=stD l) (hg:∀ j,src.good (h1++j)) (hl:l.length≤1000000)
 (hd:∀ x∈l,∃ γ1,(∀ h,g (.int x) (capG cap γ) h=.ok γ1 h)/\(∀ j,kb γ1 (h1++j)=.ok true (h1++j))/\∀ j,me γ1 (h1++j)=.ok (f x) (h1++j)):x5 cap mi g kb me γ h=.ok (.ref h1.length) (h1++[.lst (l.map f)]):=by
 have e:=z3V (mi:=fun _=>pure src) (cap:=cap) (g:=g) (kb:=kb) (me:=me) (γ:=γ) (h:=h1) (fun _=>true) f rfl hs hg hl fun x hx=>by
  obtain ⟨γ1,a1,a2,a3⟩:=hd x hx
  exact ⟨γ1,a1,a2,fun _=>a3⟩
 rw [filter_tt] at e
 rw [← e]
 unfold x5
 rw [M.bind_ok hi]
 rfl
def Sim (st:List (List Nat)) (mk:List (List Str)) (x y:Nat):Prop:=∃ E,Stb st mk E/\E x y
abbrev Lk:=Nat×List Str×List Nat
def lkH (st:List (List Nat)) (mk:List (List Str)) (H:List Nat) (x:Nat):Lk:=(rowAt H x,mkAt mk x,setN ((nx st x).map (rowAt H)))
def lkE (l:Lk):D:=.tup [.int (l.1:Nat),.tup (l.2.1.map .str),.tup (stD l.2.2)]
theorem zg2 {h:AH}(a b:Lk):eqN 24 h (lkE a) (lkE b)=some (decide (a=b)):=by
 obtain ⟨a1,a2,a3⟩:=a
 obtain ⟨b1,b2,b3⟩:=b
 have e1:eqN 23 h (.int (a1:Nat)) (.int (b1:Nat))=some (decide (a1=b1)):=z3d a1 b1
 have e2:eqN 23 h (.tup (a2.map .str)) (.tup (b2.map .str))=some (decide (a2=b2)):=z30 z8F a2 b2
 have e3:eqN 23 h (.tup (stD a3)) (.tup (stD b3))=some (decide (a3=b3)):=z30 (enc:=fun (i:Nat)=>.int i) z3d a3 b3
 show eqZ (eqN 23 h) _ _=_
 unfold eqZ
 rw [e1]
 unfold eqZ
 rw [e2]
 unfold eqZ
 rw [e3]
 show some _=_
 rw [Option.some.injEq,Bool.eq_iff_iff]
 simp only [Bool.and_eq_true,decide_eq_true_eq,Prod.mk.injEq,and_true]
def z0P (st:List (List Nat)) (mk:List (List Str)) (H:List Nat):List Nat:=(List.range st.length).map fun x=>((List.range st.length).map (lkH st mk H)).idxOf (lkH st mk H x)
def J4 (st:List (List Nat)) (mk:List (List Str)):Nat->List Nat
 | 0=>List.replicate st.length 0
 | k+1=>z0P st mk (J4 st mk k)
structure CanH (n:Nat) (H:List Nat):Prop where
 len:H.length=n
 le:∀ x,x<n->rowAt H x≤x
 fix:∀ x,x<n->rowAt H (rowAt H x)=rowAt H x
theorem z5W {α:Type} [BEq α] [LawfulBEq α]:∀ {l:List α}{i:Nat}{x:α},l[i]?=some x->l.idxOf x≤i
 | [],i,x,h=>by simp at h
 | y :: r,0,x,h=>by simp at h;subst h;simp
 | y :: r,i+1,x,h=>by
  rw [List.idxOf_cons]
  cases e:y == x with
  | true=>simp
  | false =>
   have:=z5W (l:=r) (i:=i) (x:=x) (by simpa using h)
   simp only [cond_false]
   omega
section
variable {st:List (List Nat)}{mk:List (List Str)}{H:List Nat}
theorem z3P {x:Nat}(hx:x<st.length):rowAt (z0P st mk H) x=((List.range st.length).map (lkH st mk H)).idxOf (lkH st mk H x):=zc2 (by unfold z0P;rw [List.getElem?_map,List.getElem?_range hx];rfl)
theorem z45 {x:Nat}(hx:x<st.length):((List.range st.length).map (lkH st mk H))[x]?=some (lkH st mk H x):=by rw [List.getElem?_map,List.getElem?_range hx];rfl
theorem z2n {x:Nat}(hx:x<st.length):rowAt (z0P st mk H) x≤x:=by rw [z3P hx];exact z5W (z45 hx)
theorem z1g {x:Nat}(hx:x<st.length):lkH st mk H (rowAt (z0P st mk H) x)=lkH st mk H x:=by
 have l:=Nat.lt_of_le_of_lt (z2n (mk:=mk) (H:=H) hx) hx
 have e:=z45 (mk:=mk) (H:=H) l
 rw [z3P hx] at e ⊢
 have m:lkH st mk H x∈(List.range st.length).map (lkH st mk H):=List.mem_of_getElem? (z45 hx)
 have il:=List.idxOf_lt_length_iff.mpr m
 rw [List.getElem?_eq_getElem il,List.getElem_idxOf il] at e
 exact (Option.some.inj e).symm
theorem z2c {x y:Nat}(hx:x<st.length) (hy:y<st.length):rowAt (z0P st mk H) x=rowAt (z0P st mk H) y↔lkH st mk H x=lkH st mk H y:=by
 constructor
 ·intro e
  rw [← z1g (H:=H) hx,← z1g (H:=H) hy,e]
 ·intro e
  rw [z3P hx,z3P hy,e]
theorem next_can:CanH st.length (z0P st mk H):=⟨by unfold z0P;simp,fun x hx=>z2n hx,fun x hx=>(z2c (Nat.lt_of_le_of_lt (z2n hx) hx) hx).mpr (z1g hx)⟩
theorem z3i:∀ k,CanH st.length (J4 st mk k)
 | 0=>by
  have z:∀ x,rowAt (List.replicate st.length 0) x=0:=fun x=>by
   unfold rowAt
   rw [List.getElem?_replicate]
   split<;>rfl
  exact ⟨by simp [J4],fun x _=>by show rowAt (List.replicate st.length 0) x≤x;rw [z];omega,fun x _=>by show rowAt (List.replicate st.length 0) _=rowAt (List.replicate st.length 0) _;rw [z,z]⟩
 | k+1=>next_can
theorem zh3 {α:Type}{p q:α->Bool}:∀ {l:List α},(∀ x∈l,p x=true->q x=true)->(l.filter p).length≤(l.filter q).length/\((l.filter p).length=(l.filter q).length->∀ x∈l,q x=true->p x=true)
 | [],_=>⟨Nat.le_refl _,fun _ x hx=>by cases hx⟩
 | a :: l,h=>by
  obtain ⟨i1,i2⟩:=zh3 (l:=l) fun x hx=>h x (by simp [hx])
  have ha:=h a (by simp)
  cases e1:p a with
  | true =>
   have e2:=ha e1
   rw [List.filter_cons_of_pos e1,List.filter_cons_of_pos e2]
   refine ⟨by simpa using i1,fun e x hx q=>?_⟩
   rcases List.mem_cons.mp hx with rfl | hx
   ·exact e1
   ·exact i2 (by simpa using e) x hx q
  | false =>
   rw [List.filter_cons_of_neg (by simp [e1])]
   cases e2:q a with
   | true =>
    rw [List.filter_cons_of_pos e2]
    refine ⟨by rw [List.length_cons];omega,fun e=>?_⟩
    rw [List.length_cons] at e
    omega
   | false =>
    rw [List.filter_cons_of_neg (by simp [e2])]
    refine ⟨i1,fun e x hx q=>?_⟩
    rcases List.mem_cons.mp hx with rfl | hx
    ·rw [e2] at q;cases q
    ·exact i2 e x hx q
def repN (n:Nat) (H:List Nat):Nat:=((List.range n).filter fun x=>decide (rowAt H x=x)).length
theorem zc3 (c:CanH st.length H):repN st.length H≤repN st.length (z0P st mk H)/\(repN st.length H=repN st.length (z0P st mk H)->z0P st mk H=H):=by
 have mono:∀ x∈List.range st.length,decide (rowAt H x=x)=true->decide (rowAt (z0P st mk H) x=x)=true:=fun x hx e=>by
  have hx:=List.mem_range.mp hx
  have e:=of_decide_eq_true e
  have l:=Nat.lt_of_le_of_lt (z2n (mk:=mk) (H:=H) hx) hx
  have lk:=congrArg Prod.fst (z1g (mk:=mk) (H:=H) hx)
  have lk:rowAt H (rowAt (z0P st mk H) x)=rowAt H x:=lk
  have a1:=c.le _ l
  have a2:=z2n (mk:=mk) (H:=H) hx
  exact decide_eq_true (by omega)
 obtain ⟨h1,h2⟩:=zh3 mono
 refine ⟨h1,fun e=>?_⟩
 have back:=h2 e
 refine List.ext_getElem? fun x=>?_
 by_cases hx:x<st.length
 ·rw [z33 (show x<(z0P st mk H).length by rw [next_can.len];exact hx),z33 (show x<H.length by rw [c.len];exact hx)]
  congr 1
  have l:=Nat.lt_of_le_of_lt (z2n (mk:=mk) (H:=H) hx) hx
  have r:=of_decide_eq_true (back _ (List.mem_range.mpr l) (decide_eq_true (next_can.fix x hx)))
  have lk:rowAt H (rowAt (z0P st mk H) x)=rowAt H x:=congrArg Prod.fst (z1g (mk:=mk) (H:=H) hx)
  omega
 ·rw [List.getElem?_eq_none (by rw [next_can.len];omega),List.getElem?_eq_none (by rw [c.len];omega)]
theorem z3w (hn:1≤st.length):∀ k,(∃ j,j<k/\J4 st mk (j+1)=J4 st mk j)∨k+1≤repN st.length (J4 st mk k)
 | 0=>.inr (by
  unfold repN
  refine List.length_pos_of_mem (a:=0) (List.mem_filter.mpr ⟨List.mem_range.mpr (by omega),decide_eq_true ?_⟩)
  have:=(z3i (st:=st) (mk:=mk) 0).le 0 (by omega)
  omega)
 | k+1=>by
  rcases z3w hn k with ⟨j,hj,e⟩ | h
  ·exact .inl ⟨j,by omega,e⟩
  ·obtain ⟨h1,h2⟩:=zc3 (mk:=mk) (z3i (st:=st) (mk:=mk) k)
   by_cases q:repN st.length (J4 st mk k)=repN st.length (z0P st mk (J4 st mk k))
   ·exact .inl ⟨k,by omega,h2 q⟩
   ·exact .inr (by show k+1+1≤repN st.length (z0P st mk (J4 st mk k));omega)
theorem z3x {j:Nat}(e:J4 st mk (j+1)=J4 st mk j):∀ i,J4 st mk (j+i)=J4 st mk j
 | 0=>rfl
 | i+1=>by
  show z0P st mk (J4 st mk (j+i))=_
  rw [z3x e i]
  exact e
theorem z5o (hn:1≤st.length):z0P st mk (J4 st mk st.length)=J4 st mk st.length:=by
 rcases z3w (mk:=mk) hn st.length with ⟨j,hj,e⟩ | h
 ·have s:=z3x e
  have a1:=s (st.length - j)
  rw [show j+(st.length - j)=st.length by omega] at a1
  rw [a1]
  exact e
 ·have:=List.length_filter_le (fun x=>decide (rowAt (J4 st mk st.length) x=x)) (List.range st.length)
  unfold repN at h
  rw [List.length_range] at this
  omega
theorem z3W {E:Nat->Nat->Prop}(s:Stb st mk E):∀ k x y,E x y->rowAt (J4 st mk k) x=rowAt (J4 st mk k) y
 | 0,x,y,e=>by
  obtain ⟨hx,hy⟩:=s.lt x y e
  have a:=(z3i (st:=st) (mk:=mk) 0)
  show rowAt (List.replicate st.length 0) x=rowAt (List.replicate st.length 0) y
  unfold rowAt
  rw [List.getElem?_replicate,List.getElem?_replicate,if_pos hx,if_pos hy]
 | k+1,x,y,e=>by
  obtain ⟨hx,hy⟩:=s.lt x y e
  refine (z2c hx hy).mpr ?_
  unfold lkH
  rw [z3W s k x y e,s.marks x y e]
  congr 2
  have go:∀ x y,E x y->∀ u,u∈(nx st x).map (rowAt (J4 st mk k))->u∈(nx st y).map (rowAt (J4 st mk k)):=fun x y e u hu=>by
   obtain ⟨o,ho,rfl⟩:=List.mem_map.mp hu
   obtain ⟨t,ht,et⟩:=s.steps x y e o ho
   exact List.mem_map.mpr ⟨t,ht,(z3W s k o t et).symm⟩
  exact z9T fun u=>⟨go x y e u,go y x (s.sym x y e) u⟩
theorem zx3 (sq:SQ st) {x y:Nat}(hx:x<st.length) (hy:y<st.length):rowAt (J4 st mk st.length) x=rowAt (J4 st mk st.length) y↔Sim st mk x y:=by
 constructor
 ·intro e
  refine ⟨fun x y=>x<st.length/\y<st.length/\rowAt (J4 st mk st.length) x=rowAt (J4 st mk st.length) y,⟨fun x y h=>⟨h.1,h.2.1⟩,fun x y h=>⟨h.2.1,h.1,h.2.2.symm⟩,fun x y ⟨hx,hy,e⟩=>?_,fun x y ⟨hx,hy,e⟩ o ho=>?_⟩,hx,hy,e⟩
  ·rw [← z5o sq.l1] at e
   have:=(z2c hx hy).mp e
   exact congrArg (fun l:Lk=>l.2.1) this
  ·have e':=e
   rw [← z5o sq.l1] at e'
   have:=congrArg (fun l:Lk=>l.2.2) ((z2c hx hy).mp e')
   have this:setN ((nx st x).map (rowAt (J4 st mk st.length)))=setN ((nx st y).map (rowAt (J4 st mk st.length))):=this
   have m:rowAt (J4 st mk st.length) o∈setN ((nx st y).map (rowAt (J4 st mk st.length))):=by
    rw [← this,z2N]
    exact List.mem_map.mpr ⟨o,ho,rfl⟩
   rw [z2N] at m
   obtain ⟨t,ht,et⟩:=List.mem_map.mp m
   exact ⟨t,ht,zl3 sq ho,zl3 sq ht,et.symm⟩
 ·rintro ⟨E,s,e⟩
  exact z3W s _ x y e
end
theorem zv5 {h:AH}{l:List Lk}{a:Lk}(ha:a∈l):inZ h (lkE a) (l.map lkE)=some true/\z39 h (lkE a) (l.map lkE)=l.idxOf a:=by
 have g:∀ l:List Lk,inZ h (lkE a) (l.map lkE)=some (decide (a∈l)):=by
  intro l
  induction l with
  | nil=>rfl
  | cons b l ih =>
   rw [List.map_cons]
   unfold inZ
   rw [zg2,ih]
   dsimp only
   show some (decide (b=a) || decide (a∈l))=some (decide (a∈b :: l))
   congr 1
   rw [Bool.eq_iff_iff,Bool.or_eq_true,decide_eq_true_eq,decide_eq_true_eq,decide_eq_true_eq,List.mem_cons]
   constructor
   ·rintro (e | e)
    ·exact .inl e.symm
    ·exact .inr e
   ·rintro (e | e)
    ·exact .inl e.symm
    ·exact .inr e
 refine ⟨by rw [g,decide_eq_true ha],?_⟩
 unfold z39 List.idxOf
 rw [List.findIdx_map]
 congr 1
 funext b
 show decide (eqN 24 h (lkE b) (lkE a)=some true)=(b == a)
 rw [zg2,Bool.eq_iff_iff]
 simp
theorem zj7 (l:List Lk):Y9 (l.map lkE)=true:=by
 have ps:∀ l:List Str,Y9 (l.map .str)=true:=fun l=>by
  induction l with
  | nil=>rfl
  | cons a l ih=>simp only [List.map_cons,Y9,z0o,ih,Bool.and_self]
 have pn:∀ l:List Nat,Y9 (stD l)=true:=fun l=>by
  induction l with
  | nil=>rfl
  | cons a l ih =>
   show (z0o (.int (a:Nat)) && Y9 (stD l))=true
   rw [ih];rfl
 induction l with
 | nil=>rfl
 | cons a l ih =>
  simp only [List.map_cons,Y9,ih,Bool.and_true]
  simp only [lkE,z0o,Y9,ps,pn,Bool.and_self]
inductive Sy where
 | yes
 | mark (s:Str)
 | step (k:Nat)
 | neg (k:Nat)
 | con (a b:Nat)
abbrev Tru:=List (List Bool)
def tv (T:Tru) (i x:Nat):Bool:=(((T[i]?).getD [])[x]?).getD false
section
variable {st:List (List Nat)}{mk:List (List Str)}{R:List Sy}{r:Sy}{T S:Tru}{i x:Nat}{bl:Bl}
end
theorem zF3 {bl:Bl}{k:Nat}(h:k∉bl.map (·.1)):lkD (kvB bl) (.inl (k:Int))=none:=by
 unfold lkD
 rw [Option.map_eq_none_iff,List.find?_eq_none]
 intro p hp z
 unfold kvB at hp
 obtain ⟨q,hq,rfl⟩:=List.mem_map.mp hp
 exact h (List.mem_map.mpr ⟨q,hq,inl_inj.mp (of_decide_eq_true z)⟩)
theorem Dic.inD {h:AH}{b:Nat}{bl:Bl}(d:Dic h b bl) {k:Nat}{neg:Bool}:fInD neg (.int (k:Nat)) (.ref b) h=.ok (.bl (decide (k∈bl.map (·.1)) != neg)) h:=by
 have g:getK b h=.ok (kvB bl) h:=by rcases d with d | d<;>(unfold getK;rw [d])
 unfold fInD
 show (getK b >>= _) h=_
 rw [M.bind_ok g]
 show Res.ok (D.bl ((lkD (kvB bl) (.inl (k:Int))).isSome != neg)) h=_
 by_cases q:k∈bl.map (·.1)
 ·rw [lkB q,decide_eq_true q];rfl
 ·rw [zF3 q,decide_eq_false q];rfl
abbrev Mx (K:PySem.W.Frag) (mg:Str->Option Value) (x:Str):Prop:=∀ v,PySem.W.nsIn K mainGlobals x=some (some v)->mg x=some v
abbrev Bnd (st:Stmt) (x:Str) (ps:List Str):Prop:=∀ (kV doc pm:Value) (an:Option Addr) (cdv ct:Value) (us:List Value),us.length=ps.length->bindArgs (PySem.W.fnOf x x (z1O st) (z0h st) (j8 st) .none kV doc pm an cdv ct) ⟨us,[]⟩=pure (ps.zip us)
def scB (N P:List Str) (sc:Scope):Bool:=sc.kind == .function && !sc.isCoroutine && !sc.isGenerator && decide N.Nodup && decide (P.length≤N.length) && P.all (fun x=>sc.names.lookup x == some .local || sc.names.lookup x == some .cell) && sc.names.all fun y=>y.2 != .free
theorem zB1 {N:List Str}{n:Nat}{sc:Scope}(h:scB N (N.take n) sc=true):FnScope N (N.take n) sc:=by
 unfold scB at h
 simp only [Bool.and_eq_true,Bool.not_eq_true',decide_eq_true_eq] at h
 obtain ⟨⟨⟨⟨⟨⟨h1,h2⟩,h3⟩,h4⟩,h5⟩,h6⟩,h7⟩:=h
 refine ⟨by simpa using h1,h2,h3,h4,by simp,fun x hx=>?_,fun y hy=>?_⟩
 ·have:=List.all_eq_true.mp h6 x hx
  rw [Bool.or_eq_true] at this
  rcases this with z | z
  ·exact .inl (by simpa using z)
  ·exact .inr (by simpa using z)
 ·have:=List.all_eq_true.mp h7 y hy
  simpa using this
section
variable {P:Program}{w:World}{K:PySem.W.Frag}{mg:Str->Option Value}{base:Heap}{x:Str}{st:Stmt}{k n:Nat}
theorem dfN (N:List Str) (mb:G->M Out) (T:Y0 K x st) (mx:Mx K mg x) (hs:scB N (N.take n) (j8 st)=true) (hn:(N.take n).length=n) (hb:Bnd st x (N.take n))
 (body:∀ {f:Addr} {cdv:Value} {A:Around} {outer:List Env} {s:Shared} {H:Hp} {E:XK},PySem.W.codeIn K cdv x=true->Room k (A.deeper (envOfC x (j8 st) s.heap.objs.size f cdv))->N.Nodup ->
  SB (cxOf CX0 P w K mg base N x (j8 st) f cdv A outer s H E).nox EX0 (z0h st) mb):Fn P w K mg base (k+1) x n (runF N.length mb):=by
 obtain ⟨f,fd,hf,F⟩:=T
 exact zI4 F (zB1 hs) (F.binds hb) (mx _ hf) hn fun _ _ _ _ _ _ hcd hr=>body hcd hr (zB1 hs).nd
theorem dfC (N:List Str) (mb:G->M Out) (T:Y0 K x st) (mx:Mx K mg x) (hs:scB N (N.take n) (j8 st)=true) (hn:(N.take n).length=n) (hb:Bnd st x (N.take n))
 (body:∀ {f:Addr} {cdv:Value} {A:Around} {outer:List Env} {s:Shared} {H:Hp} {E:XK},PySem.W.codeIn K cdv x=true->Room k (A.deeper (envOfC x (j8 st) s.heap.objs.size f cdv))->N.Nodup ->
  SB (cxOf CX0 P w K mg base N x (j8 st) f cdv A outer s H E).nox EX0 (z0h st) mb):Fn P w K mg base (k+1) x n fun ds=>cln (runF N.length mb ds):=Fn.cln (dfN N mb T mx hs hn hb body)
end
end FT
set_option maxHeartbeats 4000000
namespace FT
open PySem PySem.Spec PyProof.Rows L2
variable {P:Program}{w:World}{K:PySem.W.Frag}{mg:Str->Option Value}{base:Heap}
def top (i:Nat):Stmt:=PySem.Challenge.pw_fairtrees_k66_whole_classes_are_the_coar.main.body.getD i (.Pass ⟨0,0,0,0⟩)
noncomputable def zf4:D:=.tup [.str "yes",.str "no",.str "not",.str "and",.str "or",.str "step",.str "some",.str "all",.str "next",.str "once",.str "ever",.str "until",.str "unless"]
noncomputable def z4Q:D:=.int 8
noncomputable def z3p:G->M Out :=
 (z9 (sRet (eAnd (eIsi "int" (eVar 0)) (eNot (eIsi "bool" (eVar 0))))) bNil)
noncomputable def z0a:List D->M D:=fun ds=>cln (runF 1 z3p ds)
theorem zi4 (T:Y0 K "is_number" (top 3)) (mx:Mx K mg "is_number") (z_bool:mg "bool" = none) (z_int:mg "int" = none) (z_isinstance:mg "isinstance" = none):Fn P w K mg base 1 "is_number" 1 z0a :=
 dfC ["thing"] z3p T mx (by decide +kernel) rfl (fun _ _ _ _ _ _ us hl=>(by obtain ⟨_,rfl⟩:=ar1 hl;rfl)) fun hcd hr nd =>
  (z7 (j9 (z0m (z0U rfl z_isinstance rfl z_int (by decide +kernel) (by decide) (z0 0)) (z18 (z7x (z0U rfl z_isinstance rfl z_bool (by decide +kernel) (by decide) (z0 0)))))) Z2)
noncomputable def z1b:G->M Out :=
 (z9 (sRet (eAnd (eFn 1 z0a (z8 (eVar 0) aNil)) (e3 fLe fLe (eVar 1) (eVar 0) (eVar 2)))) bNil)
noncomputable def z0l:List D->M D:=fun ds=>cln (runF 3 z1b ds)
theorem z7b (T:Y0 K "is_number_from" (top 4)) (mx:Mx K mg "is_number_from") (F_is_number:Fn P w K mg base 1 "is_number" 1 z0a):Fn P w K mg base 2 "is_number_from" 3 z0l :=
 dfC ["thing","least","most"] z1b T mx (by decide +kernel) rfl (fun _ _ _ _ _ _ us hl=>(by obtain ⟨_,_,_,rfl⟩:=ar3 hl;rfl)) fun hcd hr nd =>
  (z7 (j9 (z0m (Z4 F_is_number (hr.mono (by decide)) rfl (z6 (z0 0) Z0)) (z18 (z7T z36 z36 (z0 1) (z0 0) (z0 2))))) Z2)
noncomputable def z5g:G->M Out :=
 (z9 (sRet (eIsi "str" (eVar 0))) bNil)
noncomputable def z3e:List D->M D:=fun ds=>cln (runF 1 z5g ds)
theorem zv8 (T:Y0 K "is_text" (top 5)) (mx:Mx K mg "is_text") (z_isinstance:mg "isinstance" = none) (z_str:mg "str" = none):Fn P w K mg base 1 "is_text" 1 z3e :=
 dfC ["thing"] z5g T mx (by decide +kernel) rfl (fun _ _ _ _ _ _ us hl=>(by obtain ⟨_,rfl⟩:=ar1 hl;rfl)) fun hcd hr nd =>
  (z7 (j9 (z0U rfl z_isinstance rfl z_str (by decide +kernel) (by decide) (z0 0))) Z2)
noncomputable def z4Z:G->M Out :=
 (z9 (sIf (cOr (cNot (cVal (eFn 1 z3e (z8 (eVar 0) aNil)))) (cNot (fun γ=>do let d ← e3 fLe fLe (fun _=>pure (.int 1)) (Z5 fLen (z8 (eVar 0) aNil)) (fun _=>pure z4Q) γ;asB d))) (z9 (sRet (fun _=>pure (.bl false))) bNil) bNil) (z9 (sRet (eAnd (e2 (fIn true) (eVar 0) (fun _=>pure zf4)) (clE (Z5 (fAll false) (z8 (x5 [none] (iStr (eVar 0)) (gN 0) (fun _=>pure true) (e3 fLe fLe (fun _=>pure (.str "a")) (eVar 0) (fun _=>pure (.str "z")))) aNil))))) bNil))
noncomputable def z3o:List D->M D:=fun ds=>cln (runF 1 z4Z ds)
theorem zv9 (T:Y0 K "is_name" (top 6)) (mx:Mx K mg "is_name") (C_KEPT:Cst K mg "KEPT" zf4) (C_LONGEST:Cst K mg "LONGEST" z4Q) (z_all:mg "all" = none) (z_len:mg "len" = none) (F_is_text:Fn P w K mg base 1 "is_text" 1 z3e):Fn P w K mg base 2 "is_name" 1 z3o :=
 dfC ["thing"] z4Z T mx (by decide +kernel) rfl (fun _ _ _ _ _ _ us hl=>(by obtain ⟨_,rfl⟩:=ar1 hl;rfl)) fun hcd hr nd =>
  (z7 (s_if (SW.sc (z2W (z01 (x6 (Z4 F_is_text (hr.mono (by decide)) rfl (z6 (z0 0) Z0)))) (z28 (z01 (zK9 z36 z36 Z1 (w8 rfl z_len (z6 (z0 0) Z0)) (ze7 C_LONGEST rfl)))))) (z7 (j9 z25) Z2) Z2) (z7 (j9 (z0m (se_c z26 (z0 0) (ze7 C_KEPT rfl)) (z18 (z0x (zf6 rfl rfl z_all (z6 (J0 (N':=["sign"]) (cap:=[none]) rfl (v8 (by first | rfl | kernel_rfl!)) (zf1 rfl (z0 0)) (fun _ _ _ _=>(Z6 0 (show (["sign"]:List Str).Nodup by decide +kernel))) (fun _ _ _ _=>Y5) (fun _ _ _ _=>(z7T z36 z36 k7 (z0 0) k7))) Z0)))))) Z2))
noncomputable def z3K:G->M Out :=
 (z9 (sRet (eIsi "tuple" (eVar 0))) bNil)
noncomputable def z0W:List D->M D:=fun ds=>cln (runF 1 z3K ds)
theorem zq0 (T:Y0 K "is_tuple" (top 7)) (mx:Mx K mg "is_tuple") (z_isinstance:mg "isinstance" = none) (z_tuple:mg "tuple" = none):Fn P w K mg base 1 "is_tuple" 1 z0W :=
 dfC ["thing"] z3K T mx (by decide +kernel) rfl (fun _ _ _ _ _ _ us hl=>(by obtain ⟨_,rfl⟩:=ar1 hl;rfl)) fun hcd hr nd =>
  (z7 (j9 (z0U rfl z_isinstance rfl z_tuple (by decide +kernel) (by decide) (z0 0))) Z2)
noncomputable def z1X:G->M Out :=
 (z9 (sRet (eAnd (eFn 1 z0W (z8 (eVar 0) aNil)) (e3 fLe fLe (eVar 1) (Z5 fLen (z8 (eVar 0) aNil)) (eVar 2)))) bNil)
noncomputable def J8:List D->M D:=fun ds=>cln (runF 3 z1X ds)
theorem z9r (T:Y0 K "is_tuple_of" (top 8)) (mx:Mx K mg "is_tuple_of") (z_len:mg "len" = none) (F_is_tuple:Fn P w K mg base 1 "is_tuple" 1 z0W):Fn P w K mg base 2 "is_tuple_of" 3 J8 :=
 dfC ["thing","least","most"] z1X T mx (by decide +kernel) rfl (fun _ _ _ _ _ _ us hl=>(by obtain ⟨_,_,_,rfl⟩:=ar3 hl;rfl)) fun hcd hr nd =>
  (z7 (j9 (z0m (Z4 F_is_tuple (hr.mono (by decide)) rfl (z6 (z0 0) Z0)) (z18 (z7T z36 z36 (z0 1) (w8 rfl z_len (z6 (z0 0) Z0)) (z0 2))))) Z2)
noncomputable def z2M:G->M Out :=
 (z9 (sRet (clE (Z5 Y3 (z8 (Z5 Y8 (z8 (Z5 z0I (z8 (eVar 0) aNil)) aNil)) aNil)))) bNil)
noncomputable def z21:List D->M D:=fun ds=>cln (runF 1 z2M ds)
theorem zw1 (T:Y0 K "set_of" (top 10)) (mx:Mx K mg "set_of") (z_set:mg "set" = none) (z_sorted:mg "sorted" = none) (z_tuple:mg "tuple" = none):Fn P w K mg base 1 "set_of" 1 z21 :=
 dfC ["standings"] z2M T mx (by decide +kernel) rfl (fun _ _ _ _ _ _ us hl=>(by obtain ⟨_,rfl⟩:=ar1 hl;rfl)) fun hcd hr nd =>
  (z7 (j9 (z0x (Y6 rfl z_tuple (z6 (z0X rfl rfl z_sorted (z6 (z1V rfl rfl z_set (z6 (z0 0) Z0)) Z0)) Z0)))) Z2)
noncomputable def z47:G->M Out :=
 (z9 (sRet (eOr (e2 (fEq false) (eVar 2) (fun _=>pure (.str ""))) (e2 (fIn false) (eVar 2) (e2 fIx (e2 fIx (eVar 0) (fun _=>pure (.int 1))) (eVar 1))))) bNil)
noncomputable def z2X:List D->M D:=fun ds=>cln (runF 3 z47 ds)
theorem zI8 (T:Y0 K "bears" (top 12)) (mx:Mx K mg "bears"):Fn P w K mg base 1 "bears" 3 z2X :=
 dfC ["machine","standing","name"] z47 T mx (by decide +kernel) rfl (fun _ _ _ _ _ _ us hl=>(by obtain ⟨_,_,_,rfl⟩:=ar3 hl;rfl)) fun hcd hr nd =>
  (z7 (j9 (zg1 (se_c z5z (z0 2) k7) (z18 (se_c z79 (z0 2) (Z7 (Z7 (z0 0) Z1) (z0 1)))))) Z2)
noncomputable def v3:G->M Out :=
 (z9 (sRet (z6u (fun _=>pure (.int 0)) (eRng true (Z5 fLen (z8 (e2 fIx (eVar 0) (fun _=>pure (.int 0))) aNil))))) bNil)
noncomputable def Y4:List D->M D:=fun ds=>cln (runF 1 v3 ds)
theorem z8P (T:Y0 K "first_blocks" (top 15)) (mx:Mx K mg "first_blocks") (z_len:mg "len" = none) (z_range:mg "range" = none) (z_tuple:mg "tuple" = none):Fn P w K mg base 1 "first_blocks" 1 Y4 :=
 dfC ["machine"] v3 T mx (by decide +kernel) rfl (fun _ _ _ _ _ _ us hl=>(by obtain ⟨_,rfl⟩:=ar1 hl;rfl)) fun hcd hr nd =>
  (z7 (j9 (zb8 Z1 (zr9 rfl rfl z_tuple rfl z_range (w8 rfl z_len (z6 (Z7 (z0 0) Z1) Z0))))) Z2)
noncomputable def z27:G->M Out :=
 (z9 (sIf (cVal (eIsi "str" (eVar 3))) (z9 (sRet (eFn 3 z2X (z8 (eVar 0) (z8 (eVar 2) (z8 (eVar 3) aNil))))) bNil) bNil) (z9 (sRet (clE (Z5 (fAll true) (z8 (x5 [some 1,some 3,none] (z0c (e2 fIx (e2 fIx (eVar 0) (fun _=>pure (.int 0))) (eVar 2))) (gN 2) (fun _=>pure true) (e2 (fIn false) (eVar 2) (e2 z2I (eVar 0) (eVar 1)))) aNil)))) bNil))
noncomputable def z2f:List D->M D:=fun ds=>cln (runF 4 z27 ds)
theorem zv4 (T:Y0 K "belongs" (top 18)) (mx:Mx K mg "belongs") (z_any:mg "any" = none) (z_isinstance:mg "isinstance" = none) (z_str:mg "str" = none) (F_bears:Fn P w K mg base 1 "bears" 3 z2X):Fn P w K mg base 2 "belongs" 4 z2f :=
 dfC ["machine","blocks","standing","by"] z27 T mx (by decide +kernel) rfl (fun _ _ _ _ _ _ us hl=>(by obtain ⟨_,_,_,_,rfl⟩:=ar4 hl;rfl)) fun hcd hr nd =>
  (z7 (s_if (x6 (z0U rfl z_isinstance rfl z_str (by decide +kernel) (by decide) (z0 3))) (z7 (j9 (Z4 F_bears (hr.mono (by decide)) rfl (z6 (z0 0) (z6 (z0 2) (z6 (z0 3) Z0))))) Z2) Z2) (z7 (j9 (z0x (zI1 rfl rfl z_any (z6 (J0 (N':=["blocks","by","other"]) (cap:=[some 1,some 3,none]) rfl (v8 (by first | rfl | kernel_rfl!)) (v5 (Z7 (Z7 (z0 0) Z1) (z0 2))) (fun _ _ _ _=>(Z6 2 (show (["blocks","by","other"]:List Str).Nodup by decide +kernel))) (fun _ _ _ _=>Y5) (fun _ _ _ _=>(se_c z79 (z0 2) (z1L (z3s hr) (z0 0) (z0 1))))) Z0)))) Z2))
noncomputable def z1U:G->M Out :=
 (z9 (sAsg (clE (Z5 Y3 (z8 (x5 [some 0,some 1,some 3,none] (z0c (eVar 2)) (gN 3) (cVal (eFn 4 z2f (z8 (eVar 0) (z8 (eVar 1) (z8 (eVar 3) (z8 (eVar 2) aNil)))))) (eVar 3)) aNil))) (gN 4)) (z9 (sAsg (clE (Z5 Y3 (z8 (x5 [some 4,none] (z0c (eVar 2)) (gN 1) (fun γ=>do let d ← e2 (fIn true) (eVar 1) (eVar 0) γ;asB d) (eVar 1)) aNil))) (gN 5)) (z9 (sRet (x5 [none] (z0c (eTup (z8 (eVar 4) (z8 (eVar 5) aNil)))) (gN 0) (fun γ=>do let d ← e2 fGt (Z5 fLen (z8 (eVar 0) aNil)) (fun _=>pure (.int 0)) γ;asB d) (eVar 0))) bNil)))
noncomputable def z0K:List D->M D:=fun ds=>cln (runF 6 z1U ds)
theorem zz7 (T:Y0 K "parted" (top 17)) (mx:Mx K mg "parted") (z_len:mg "len" = none) (z_tuple:mg "tuple" = none) (F_belongs:Fn P w K mg base 2 "belongs" 4 z2f):Fn P w K mg base 3 "parted" 4 z0K :=
 dfC ["machine","blocks","block","by","yes","no"] z1U T mx (by decide +kernel) rfl (fun _ _ _ _ _ _ us hl=>(by obtain ⟨_,_,_,_,rfl⟩:=ar4 hl;rfl)) fun hcd hr nd =>
  (z7 (y9 4 nd (z0x (Y6 rfl z_tuple (z6 (J0 (N':=["machine","blocks","by","standing"]) (cap:=[some 0,some 1,some 3,none]) rfl (v8 (by first | rfl | kernel_rfl!)) (v5 (z0 2)) (fun _ _ _ _=>(Z6 3 (show (["machine","blocks","by","standing"]:List Str).Nodup by decide +kernel))) (fun _ _ _ _=>(z0b (x6 (Z4 F_belongs (hr.mono (by decide)) rfl (z6 (z0 0) (z6 (z0 1) (z6 (z0 3) (z6 (z0 2) Z0)))))))) (fun _ _ _ _=>(z0 3))) Z0)))) (z7 (y9 5 nd (z0x (Y6 rfl z_tuple (z6 (J0 (N':=["yes","standing"]) (cap:=[some 4,none]) rfl (v8 (by first | rfl | kernel_rfl!)) (v5 (z0 2)) (fun _ _ _ _=>(Z6 1 (show (["yes","standing"]:List Str).Nodup by decide +kernel))) (fun _ _ _ _=>(z0b (sc_c z26 (z0 1) (z0 0)))) (fun _ _ _ _=>(z0 1))) Z0)))) (z7 (j9 (J0 (N':=["part"]) (cap:=[none]) rfl (v8 (by first | rfl | kernel_rfl!)) (v5 (z2v (z6 (z0 4) (z6 (z0 5) Z0)))) (fun _ _ _ _=>(Z6 0 (show (["part"]:List Str).Nodup by decide +kernel))) (fun _ _ _ _=>(z0b (sc_c za7 (w8 rfl z_len (z6 (z0 0) Z0)) Z1))) (fun _ _ _ _=>(z0 0)))) Z2)))
noncomputable def z0s:G->M Out :=
 (z9 (sFor (iDic (eVar 1)) (gN 2) (z9 (sAsg (e2 z2I (eVar 1) (eVar 2)) (gN 3)) (z9 (zi6 4 [some 0,none,none] (z0c (eVar 3)) (gN 1) (z0c (e2 fIx (e2 fIx (eVar 0) (fun _=>pure (.int 1))) (eVar 1))) (gN 2) (fun _=>pure true) (eVar 2)) (z9 (sFor (z09 (eLst (z95 (eVar 4) (z3A (eVar 1) aNil)))) (gN 5) (z9 (sIf (fun γ=>do let d ← e2 (fEq false) (Z5 fLen (z8 (eFn 4 z0K (z8 (eVar 0) (z8 (eVar 1) (z8 (eVar 3) (z8 (eVar 5) aNil))))) aNil)) (fun _=>pure (.int 2)) γ;asB d) (z9 (sRet (eTup (z8 (eVar 2) (z8 (eVar 5) aNil)))) bNil) bNil) bNil)) bNil)))) (z9 (sRet (fun _=>pure .non)) bNil))
noncomputable def z0V:List D->M D:=fun ds=>cln (runF 6 z0s ds)
theorem zn7 (T:Y0 K "next_cut" (top 16)) (mx:Mx K mg "next_cut") (z_len:mg "len" = none) (F_parted:Fn P w K mg base 3 "parted" 4 z0K):Fn P w K mg base 4 "next_cut" 2 z0V :=
 dfC ["machine","blocks","least","block","names","by"] z0s T mx (by decide +kernel) rfl (fun _ _ _ _ _ _ us hl=>(by obtain ⟨_,_,rfl⟩:=ar2 hl;rfl)) fun hcd hr nd =>
  (z7 (z0A PassesOwn.never rfl (zi3 (z0 1)) (j7 2 nd) (z7 (y9 3 nd (z1L (z3s hr) (z0 1) (z0 2))) (z7 (zo7 4 (N':=["machine","standing","name"]) (cap:=[some 0,none,none]) rfl (v8 (by first | rfl | kernel_rfl!)) (v5 (z0 3)) (fun _ _ _ _=>(Z6 1 (show (["machine","standing","name"]:List Str).Nodup by decide +kernel))) (fun _ _ _ _=>(v5 (Z7 (Z7 (z0 0) Z1) (z0 1)))) (fun _ _ _ _=>(Z6 2 (show (["machine","standing","name"]:List Str).Nodup by decide +kernel))) (fun _ _ _ _=>Y5) (fun _ _ _ _=>(z0 2)) nd) (z7 (z0A PassesOwn.never rfl (x8 (z0p (zn1 (z0 4) (z9R rfl (z0 1) Z0)))) (j7 5 nd) (z7 (s_if (sc_c z5z (w8 rfl z_len (z6 (Z4 F_parted (hr.mono (by decide)) rfl (z6 (z0 0) (z6 (z0 1) (z6 (z0 3) (z6 (z0 5) Z0))))) Z0)) Z1) (z7 (j9 (z2v (z6 (z0 2) (z6 (z0 5) Z0)))) Z2) Z2) Z2)) Z2)))) (z7 (j9 z2e) Z2))
noncomputable def z1u:G->M Out :=
 (z9 (sAsg (eVar 2) (gT 2 (z0q (gN 3) (z0q (gN 4) z3T)))) (z9 (z5L 5 [some 1,none] (iDic (eVar 1)) (gN 1) (fun _=>pure true) (eVar 1) (e2 z2I (eVar 0) (eVar 1))) (z9 (sFor (z09 (eFn 4 z0K (z8 (eVar 0) (z8 (eVar 1) (z8 (e2 z2I (eVar 1) (eVar 3)) (z8 (eVar 4) aNil)))))) (gN 6) (z9 (sAsg (eVar 6) (gDx (eVar 5) (e2 fIx (eVar 6) (fun _=>pure (.int 0))))) bNil)) (z9 (sRet (eVar 5)) bNil))))
noncomputable def z1s:List D->M D:=fun ds=>cln (runF 7 z1u ds)
theorem zF5 (T:Y0 K "cut_up" (top 19)) (mx:Mx K mg "cut_up") (F_parted:Fn P w K mg base 3 "parted" 4 z0K):Fn P w K mg base 4 "cut_up" 3 z1s :=
 dfC ["machine","blocks","cut","least","by","told","part"] z1u T mx (by decide +kernel) rfl (fun _ _ _ _ _ _ us hl=>(by obtain ⟨_,_,_,rfl⟩:=ar3 hl;rfl)) fun hcd hr nd =>
  (z7 (z4k (z0 2) (z6M rfl (z0E (j7 3 nd) (z0E (j7 4 nd) z4c)))) (z7 (zl1 5 (N':=["blocks","one"]) (cap:=[some 1,none]) rfl (v8 (by first | rfl | kernel_rfl!)) (zi3 (z0 1)) (fun _ _ _ _=>(Z6 1 (show (["blocks","one"]:List Str).Nodup by decide +kernel))) (fun _ _ _ _=>Y5) (fun _ _ _ _=>(z0 1)) (fun _ _ _ _=>(z1L (z3s hr) (z0 0) (z0 1))) nd) (z7 (z0A PassesOwn.never rfl (x8 (Z4 F_parted (hr.mono (by decide)) rfl (z6 (z0 0) (z6 (z0 1) (z6 (z1L (z3s hr) (z0 1) (z0 3)) (z6 (z0 4) Z0)))))) (j7 6 nd) (z7 (z4k (z0 6) (zL6 (z3s hr) (z0 5) (Z7 (z0 6) Z1))) Z2)) (z7 (j9 (z0 5)) Z2))))
noncomputable def z22:G->M Out :=
 (z9 (sAsg (z4a [some 0,none,none,none] (z6T (Z5 z06 (z8 (eVar 0) aNil))) (gT 2 (z0q (gN 1) (z0q (gN 2) z3T))) (z0c (e2 z2I (eVar 0) (eVar 2))) (gN 3) (fun _=>pure true) (eVar 3) (eVar 1)) (gN 1)) (z9 (sRet (clE (Z5 Y3 (z8 (x5 [some 1,none] (z09 (Z5 z06 (z8 (eVar 1) aNil))) (gN 1) (fun _=>pure true) (e2 z2I (eVar 0) (eVar 1))) aNil)))) bNil))
noncomputable def z1t:List D->M D:=fun ds=>cln (runF 2 z22 ds)
theorem zE8 (T:Y0 K "row_of" (top 20)) (mx:Mx K mg "row_of") (z_enumerate:mg "enumerate" = none) (z_sorted:mg "sorted" = none) (z_tuple:mg "tuple" = none):Fn P w K mg base 1 "row_of" 1 z1t :=
 dfC ["blocks","homes"] z22 T mx (by decide +kernel) rfl (fun _ _ _ _ _ _ us hl=>(by obtain ⟨_,rfl⟩:=ar1 hl;rfl)) fun hcd hr nd =>
  (z7 (y9 1 nd (z81 (N':=["blocks","home","least","standing"]) (cap:=[some 0,none,none,none]) rfl (v8 (by first | rfl | kernel_rfl!)) (zc8 rfl rfl z_enumerate (z3B rfl rfl z_sorted (z6 (z0 0) Z0))) (fun _ _ _ _=>(z9m rfl (z1Z (Z6 1 (show (["blocks","home","least","standing"]:List Str).Nodup by decide +kernel)) (z1Z (Z6 2 (show (["blocks","home","least","standing"]:List Str).Nodup by decide +kernel)) z6A)))) (fun _ _ _ _=>(v5 (z1L (z3s hr) (z0 0) (z0 2)))) (fun _ _ _ _=>(Z6 3 (show (["blocks","home","least","standing"]:List Str).Nodup by decide +kernel))) (fun _ _ _ _=>Y5) (fun _ _ _ _=>(z0 3)) (fun _ _ _ _=>(z0 1)))) (z7 (j9 (z0x (Y6 rfl z_tuple (z6 (J0 (N':=["homes","standing"]) (cap:=[some 1,none]) rfl (v8 (by first | rfl | kernel_rfl!)) (x8 (z3B rfl rfl z_sorted (z6 (z0 1) Z0))) (fun _ _ _ _=>(Z6 1 (show (["homes","standing"]:List Str).Nodup by decide +kernel))) (fun _ _ _ _=>Y5) (fun _ _ _ _=>(z1L (z3s hr) (z0 0) (z0 1)))) Z0)))) Z2))
noncomputable def z0T:G->M Out :=
 (z9 (sAsg (eFn 1 Y4 (z8 (eVar 0) aNil)) (gN 1)) (z9 (sAsg (eLst aNil) (gN 2)) (z9 (sAsg (eFn 2 z0V (z8 (eVar 0) (z8 (eVar 1) aNil))) (gN 3)) (z9 (z1F (fun γ=>do let d ← e2 (fIs true) (eVar 3) (fun _=>pure .non) γ;asB d) (z9 (z0t (eM1 y8 (eVar 2) (eVar 3))) (z9 (sAsg (eFn 3 z1s (z8 (eVar 0) (z8 (eVar 1) (z8 (eVar 3) aNil)))) (gN 1)) (z9 (sAsg (eFn 2 z0V (z8 (eVar 0) (z8 (eVar 1) aNil))) (gN 3)) bNil))) 1000000) (z9 (sRet (eTup (z8 (eFn 1 z1t (z8 (eVar 1) aNil)) (z8 (Z5 Y3 (z8 (eVar 2) aNil)) aNil)))) bNil)))))
noncomputable def z2a:List D->M D:=fun ds=>cln (runF 4 z0T ds)
theorem zv6 (T:Y0 K "classes" (top 14)) (mx:Mx K mg "classes") (z_tuple:mg "tuple" = none) (F_cut_up:Fn P w K mg base 4 "cut_up" 3 z1s) (F_first_blocks:Fn P w K mg base 1 "first_blocks" 1 Y4) (F_next_cut:Fn P w K mg base 4 "next_cut" 2 z0V) (F_row_of:Fn P w K mg base 1 "row_of" 1 z1t):Fn P w K mg base 5 "classes" 1 z2a :=
 dfC ["machine","blocks","cuts","cut"] z0T T mx (by decide +kernel) rfl (fun _ _ _ _ _ _ us hl=>(by obtain ⟨_,rfl⟩:=ar1 hl;rfl)) fun hcd hr nd =>
  (z7 (y9 1 nd (Z4 F_first_blocks (hr.mono (by decide)) rfl (z6 (z0 0) Z0))) (z7 (y9 2 nd (z0p Z0)) (z7 (y9 3 nd (Z4 F_next_cut (hr.mono (by decide)) rfl (z6 (z0 0) (z6 (z0 1) Z0)))) (z7 (zp3 1000000 PassesOwn.never (sc_c z6n (z0 3) z2e) (z7 (z19 (x4 (z0 2) (z0 3))) (z7 (y9 1 nd (Z4 F_cut_up (hr.mono (by decide)) rfl (z6 (z0 0) (z6 (z0 1) (z6 (z0 3) Z0))))) (z7 (y9 3 nd (Z4 F_next_cut (hr.mono (by decide)) rfl (z6 (z0 0) (z6 (z0 1) Z0)))) Z2)))) (z7 (j9 (z2v (z6 (Z4 F_row_of (hr.mono (by decide)) rfl (z6 (z0 1) Z0)) (z6 (Y6 rfl z_tuple (z6 (z0 2) Z0)) Z0)))) Z2)))))
noncomputable def z6z:G->M Out :=
 (z9 (sRet (eFn 1 z21 (z8 (x5 [some 1,none] (z0c (e2 fIx (e2 fIx (eVar 0) (fun _=>pure (.int 0))) (eVar 2))) (gN 1) (fun _=>pure true) (e2 fIx (eVar 0) (eVar 1))) aNil))) bNil)
noncomputable def z4p:List D->M D:=fun ds=>cln (runF 3 z6z ds)
theorem zC2 (T:Y0 K "led_to" (top 24)) (mx:Mx K mg "led_to") (F_set_of:Fn P w K mg base 1 "set_of" 1 z21):Fn P w K mg base 2 "led_to" 3 z4p :=
 dfC ["machine","row","standing"] z6z T mx (by decide +kernel) rfl (fun _ _ _ _ _ _ us hl=>(by obtain ⟨_,_,_,rfl⟩:=ar3 hl;rfl)) fun hcd hr nd =>
  (z7 (j9 (Z4 F_set_of (hr.mono (by decide)) rfl (z6 (J0 (N':=["row","other"]) (cap:=[some 1,none]) rfl (v8 (by first | rfl | kernel_rfl!)) (v5 (Z7 (Z7 (z0 0) Z1) (z0 2))) (fun _ _ _ _=>(Z6 1 (show (["row","other"]:List Str).Nodup by decide +kernel))) (fun _ _ _ _=>Y5) (fun _ _ _ _=>(Z7 (z0 0) (z0 1)))) Z0))) Z2)
noncomputable def z3h:G->M Out :=
 (z9 (sAsg (Z5 fLen (z8 (e2 fIx (eVar 0) (fun _=>pure (.int 0))) aNil)) (gN 2)) (z9 (sIf (cNot (cVal (eFn 3 J8 (z8 (eVar 1) (z8 (eVar 2) (z8 (eVar 2) aNil)))))) (z9 (sRet (fun _=>pure (.bl false))) bNil) bNil) (z9 (sAsg (eLst aNil) (gN 3)) (z9 (sFor (zn0 (eVar 1)) (gT 2 (z0q (gN 4) (z0q (gN 5) z3T))) (z9 (sIf (cNot (cVal (eFn 3 z0l (z8 (eVar 5) (z8 (fun _=>pure (.int 0)) (z8 (Z5 fLen (z8 (eVar 3) aNil)) aNil)))))) (z9 (sRet (fun _=>pure (.bl false))) bNil) bNil) (z9 (sIf (fun γ=>do let d ← e2 (fEqX false) (eVar 5) (Z5 fLen (z8 (eVar 3) aNil)) γ;asB d) (z9 (z0t (eM1 y8 (eVar 3) (eVar 4))) bNil) bNil) bNil))) (z9 (sAsg (x5 [some 0,some 1,none] (z02 (eVar 2)) (gN 2) (fun _=>pure true) (eTup (z8 (e2 fIx (e2 fIx (eVar 0) (fun _=>pure (.int 1))) (eVar 2)) (z8 (eFn 3 z4p (z8 (eVar 0) (z8 (eVar 1) (z8 (eVar 2) aNil)))) aNil)))) (gN 6)) (z9 (sRet (clE (Z5 (fAll false) (z8 (x5 [some 6,some 3,none,none] (zn0 (eVar 1)) (gT 2 (z0q (gN 2) (z0q (gN 3) z3T))) (fun _=>pure true) (e2 (fEqX false) (e2 fIx (eVar 0) (eVar 2)) (e2 fIx (eVar 0) (e2 fIx (eVar 1) (eVar 3))))) aNil)))) bNil))))))
noncomputable def z1I:List D->M D:=fun ds=>cln (runF 7 z3h ds)
theorem zi2 (T:Y0 K "is_steady" (top 23)) (mx:Mx K mg "is_steady") (z_all:mg "all" = none) (z_enumerate:mg "enumerate" = none) (z_len:mg "len" = none) (z_range:mg "range" = none) (F_is_number_from:Fn P w K mg base 2 "is_number_from" 3 z0l) (F_is_tuple_of:Fn P w K mg base 2 "is_tuple_of" 3 J8) (F_led_to:Fn P w K mg base 2 "led_to" 3 z4p):Fn P w K mg base 3 "is_steady" 2 z1I :=
 dfC ["machine","thing","many","firsts","standing","home","likes"] z3h T mx (by decide +kernel) rfl (fun _ _ _ _ _ _ us hl=>(by obtain ⟨_,_,rfl⟩:=ar2 hl;rfl)) fun hcd hr nd =>
  (z7 (y9 2 nd (w8 rfl z_len (z6 (Z7 (z0 0) Z1) Z0))) (z7 (s_if (z01 (x6 (Z4 F_is_tuple_of (hr.mono (by decide)) rfl (z6 (z0 1) (z6 (z0 2) (z6 (z0 2) Z0)))))) (z7 (j9 z25) Z2) Z2) (z7 (y9 3 nd (z0p Z0)) (z7 (z0A PassesOwn.never rfl (z8l rfl rfl z_enumerate (z0 1)) (z6M rfl (z0E (j7 4 nd) (z0E (j7 5 nd) z4c))) (z7 (s_if (z01 (x6 (Z4 F_is_number_from (hr.mono (by decide)) rfl (z6 (z0 5) (z6 Z1 (z6 (w8 rfl z_len (z6 (z0 3) Z0)) Z0)))))) (z7 (j9 z25) Z2) Z2) (z7 (s_if (sc_c (z1S (hu30 hr)) (z0 5) (w8 rfl z_len (z6 (z0 3) Z0))) (z7 (z19 (x4 (z0 3) (z0 4))) Z2) Z2) Z2))) (z7 (y9 6 nd (J0 (N':=["machine","thing","standing"]) (cap:=[some 0,some 1,none]) rfl (v8 (by first | rfl | kernel_rfl!)) (J9 rfl z_range (z0 2)) (fun _ _ _ _=>(Z6 2 (show (["machine","thing","standing"]:List Str).Nodup by decide +kernel))) (fun _ _ _ _=>Y5) (fun _ _ _ _=>(z2v (z6 (Z7 (Z7 (z0 0) Z1) (z0 2)) (z6 (Z4 F_led_to (hr.mono (by decide)) rfl (z6 (z0 0) (z6 (z0 1) (z6 (z0 2) Z0)))) Z0)))))) (z7 (j9 (z0x (zf6 rfl rfl z_all (z6 (J0 (N':=["likes","firsts","standing","home"]) (cap:=[some 6,some 3,none,none]) rfl (v8 (by first | rfl | kernel_rfl!)) (z8l rfl rfl z_enumerate (z0 1)) (fun _ _ _ _=>(z9m rfl (z1Z (Z6 2 (show (["likes","firsts","standing","home"]:List Str).Nodup by decide +kernel)) (z1Z (Z6 3 (show (["likes","firsts","standing","home"]:List Str).Nodup by decide +kernel)) z6A)))) (fun _ _ _ _=>Y5) (fun _ _ _ _=>(se_c (z1S (hu30 hr)) (Z7 (z0 0) (z0 2)) (Z7 (z0 0) (Z7 (z0 1) (z0 3)))))) Z0)))) Z2))))))
noncomputable def z6x:G->M Out :=
 (z9 (sIf (cNot (cVal (eFn 3 J8 (z8 (eVar 1) (z8 (fun _=>pure (.int 2)) (z8 (fun _=>pure (.int 2)) aNil)))))) (z9 (sRet (fun _=>pure (.bl false))) bNil) bNil) (z9 (sAsg (eVar 1) (gT 2 (z0q (gN 2) (z0q (gN 3) z3T)))) (z9 (sRet (eAnd (eFn 1 z0a (z8 (eVar 2) aNil)) (eAnd (e2 (fInD false) (eVar 2) (eVar 0)) (eOr (eFn 1 z3o (z8 (eVar 3) aNil)) (eAnd (eFn 1 z0a (z8 (eVar 3) aNil)) (e2 (fInD false) (eVar 3) (eVar 0))))))) bNil)))
noncomputable def z42:List D->M D:=fun ds=>cln (runF 4 z6x ds)
theorem zw3 (T:Y0 K "is_cut" (top 22)) (mx:Mx K mg "is_cut") (F_is_name:Fn P w K mg base 2 "is_name" 1 z3o) (F_is_number:Fn P w K mg base 1 "is_number" 1 z0a) (F_is_tuple_of:Fn P w K mg base 2 "is_tuple_of" 3 J8):Fn P w K mg base 3 "is_cut" 2 z42 :=
 dfC ["blocks","thing","least","by"] z6x T mx (by decide +kernel) rfl (fun _ _ _ _ _ _ us hl=>(by obtain ⟨_,_,rfl⟩:=ar2 hl;rfl)) fun hcd hr nd =>
  (z7 (s_if (z01 (x6 (Z4 F_is_tuple_of (hr.mono (by decide)) rfl (z6 (z0 1) (z6 Z1 (z6 Z1 Z0)))))) (z7 (j9 z25) Z2) Z2) (z7 (z4k (z0 1) (z6M rfl (z0E (j7 2 nd) (z0E (j7 3 nd) z4c)))) (z7 (j9 (z0m (Z4 F_is_number (hr.mono (by decide)) rfl (z6 (z0 2) Z0)) (z0m (se_c (zi1 (z3s hr)) (z0 2) (z0 0)) (z18 (zg1 (Z4 F_is_name (hr.mono (by decide)) rfl (z6 (z0 3) Z0)) (z18 (z0m (Z4 F_is_number (hr.mono (by decide)) rfl (z6 (z0 3) Z0)) (z18 (se_c (zi1 (z3s hr)) (z0 3) (z0 0)))))))))) Z2)))
noncomputable def z1m:G->M Out :=
 (z9 (sIf (cNot (cVal (eFn 3 J8 (z8 (eVar 1) (z8 (fun _=>pure (.int 2)) (z8 (fun _=>pure (.int 2)) aNil)))))) (z9 (sRet (fun _=>pure (.bl false))) bNil) bNil) (z9 (sAsg (eVar 1) (gT 2 (z0q (gN 2) (z0q (gN 3) z3T)))) (z9 (sIf (cOr (cNot (cVal (eFn 2 z1I (z8 (eVar 0) (z8 (eVar 2) aNil))))) (cNot (cVal (eFn 1 z0W (z8 (eVar 3) aNil))))) (z9 (sRet (fun _=>pure (.bl false))) bNil) bNil) (z9 (sAsg (eFn 1 Y4 (z8 (eVar 0) aNil)) (gN 4)) (z9 (sFor (z0c (eVar 3)) (gN 5) (z9 (sIf (cOr (cNot (cVal (eFn 2 z42 (z8 (eVar 4) (z8 (eVar 5) aNil))))) (fun γ=>do let d ← e2 fLt (Z5 fLen (z8 (eFn 4 z0K (z8 (eVar 0) (z8 (eVar 4) (z8 (e2 z2I (eVar 4) (e2 fIx (eVar 5) (fun _=>pure (.int 0)))) (z8 (e2 fIx (eVar 5) (fun _=>pure (.int 1))) aNil))))) aNil)) (fun _=>pure (.int 2)) γ;asB d)) (z9 (sRet (fun _=>pure (.bl false))) bNil) bNil) (z9 (sAsg (eFn 3 z1s (z8 (eVar 0) (z8 (eVar 4) (z8 (eVar 5) aNil)))) (gN 4)) bNil))) (z9 (sRet (e2 (fEqX false) (eVar 2) (eFn 1 z1t (z8 (eVar 4) aNil)))) bNil))))))
noncomputable def z1p:List D->M D:=fun ds=>cln (runF 6 z1m ds)
theorem z7s (T:Y0 K "right_classes" (top 21)) (mx:Mx K mg "right_classes") (z_len:mg "len" = none) (F_cut_up:Fn P w K mg base 4 "cut_up" 3 z1s) (F_first_blocks:Fn P w K mg base 1 "first_blocks" 1 Y4) (F_is_cut:Fn P w K mg base 3 "is_cut" 2 z42) (F_is_steady:Fn P w K mg base 3 "is_steady" 2 z1I) (F_is_tuple:Fn P w K mg base 1 "is_tuple" 1 z0W) (F_is_tuple_of:Fn P w K mg base 2 "is_tuple_of" 3 J8) (F_parted:Fn P w K mg base 3 "parted" 4 z0K) (F_row_of:Fn P w K mg base 1 "row_of" 1 z1t):Fn P w K mg base 5 "right_classes" 2 z1p :=
 dfC ["machine","thing","row","cuts","blocks","cut"] z1m T mx (by decide +kernel) rfl (fun _ _ _ _ _ _ us hl=>(by obtain ⟨_,_,rfl⟩:=ar2 hl;rfl)) fun hcd hr nd =>
  (z7 (s_if (z01 (x6 (Z4 F_is_tuple_of (hr.mono (by decide)) rfl (z6 (z0 1) (z6 Z1 (z6 Z1 Z0)))))) (z7 (j9 z25) Z2) Z2) (z7 (z4k (z0 1) (z6M rfl (z0E (j7 2 nd) (z0E (j7 3 nd) z4c)))) (z7 (s_if (SW.sc (z2W (z01 (x6 (Z4 F_is_steady (hr.mono (by decide)) rfl (z6 (z0 0) (z6 (z0 2) Z0))))) (z28 (z01 (x6 (Z4 F_is_tuple (hr.mono (by decide)) rfl (z6 (z0 3) Z0))))))) (z7 (j9 z25) Z2) Z2) (z7 (y9 4 nd (Z4 F_first_blocks (hr.mono (by decide)) rfl (z6 (z0 0) Z0))) (z7 (z0A PassesOwn.never rfl (v5 (z0 3)) (j7 5 nd) (z7 (s_if (SW.sc (z2W (z01 (x6 (Z4 F_is_cut (hr.mono (by decide)) rfl (z6 (z0 4) (z6 (z0 5) Z0))))) (z28 (sc_c z8v (w8 rfl z_len (z6 (Z4 F_parted (hr.mono (by decide)) rfl (z6 (z0 0) (z6 (z0 4) (z6 (z1L (z3s hr) (z0 4) (Z7 (z0 5) Z1)) (z6 (Z7 (z0 5) Z1) Z0))))) Z0)) Z1)))) (z7 (j9 z25) Z2) Z2) (z7 (y9 4 nd (Z4 F_cut_up (hr.mono (by decide)) rfl (z6 (z0 0) (z6 (z0 4) (z6 (z0 5) Z0))))) Z2))) (z7 (j9 (se_c (z1S (hu30 hr)) (z0 2) (Z4 F_row_of (hr.mono (by decide)) rfl (z6 (z0 4) Z0)))) Z2))))))
noncomputable def z0Z:G->M Out :=
 (z9 (z2A 1 [none] (z09 (eVar 0)) (gN 0) (fun γ=>do let d ← e2 fGe (eVar 0) (e2 fPow (fun _=>pure (.int 10)) (fun _=>pure (.int 18))) γ;asB d) (eVar 0)) (z9 (sRet (eLst (z8 (eVar 1) (z8 (x5 [none] (z09 (eVar 0)) (gN 0) (fun γ=>do let d ← e2 fLt (eVar 0) (e2 fPow (fun _=>pure (.int 10)) (fun _=>pure (.int 18))) γ;asB d) (eVar 0)) (z8 (fun _=>pure (.int 5)) (z8 (fun _=>pure (.int 0)) aNil)))))) bNil))
noncomputable def z1M:List D->M D:=runF 2 z0Z
theorem zg6 (T:Y0 K "_law_pool" (top 26)) (mx:Mx K mg "_law_pool"):Fn P w K mg base 1 "_law_pool" 1 z1M :=
 dfN ["_law_script","_law_great"] z0Z T mx (by decide +kernel) rfl (fun _ _ _ _ _ _ us hl=>(by obtain ⟨_,rfl⟩:=ar1 hl;rfl)) fun hcd hr nd =>
  (z7 (z3M 1 (N':=["_law_cell"]) (cap:=[none]) rfl (v8 (by first | rfl | kernel_rfl!)) (x8 (z0 0)) (fun _ _ _ _=>(Z6 0 (show (["_law_cell"]:List Str).Nodup by decide +kernel))) (fun _ _ _ _=>(z0b (sc_c zQ1 (z0 0) (z8K Z1 Z1)))) (fun _ _ _ _=>(z0 0)) nd) (z7 (j9 (z0p (z6 (z0 1) (z6 (J0 (N':=["_law_cell"]) (cap:=[none]) rfl (v8 (by first | rfl | kernel_rfl!)) (x8 (z0 0)) (fun _ _ _ _=>(Z6 0 (show (["_law_cell"]:List Str).Nodup by decide +kernel))) (fun _ _ _ _=>(z0b (sc_c z8v (z0 0) (z8K Z1 Z1)))) (fun _ _ _ _=>(z0 0))) (z6 Z1 (z6 Z1 Z0)))))) Z2))
noncomputable def z0u:G->M Out :=
 (z9 (sIf (fun γ=>do let d ← e2 fGt (Z5 fLen (z8 (e2 fIx (eVar 0) (fun _=>pure (.int 0))) aNil)) (fun _=>pure (.int 0)) γ;asB d) (z9 (sAsg (e2 fIx (e2 fIx (eVar 0) (fun _=>pure (.int 0))) (fun _=>pure (.int 0))) (gN 2)) (z9 (sAsg (e2 fDiv (eVar 2) (eVar 1)) (gIx (e2 fIx (eVar 0) (fun _=>pure (.int 0))) (fun _=>pure (.int 0)))) (z9 (sIf (fun γ=>do let d ← e2 (fEq false) (e2 fDiv (eVar 2) (eVar 1)) (fun _=>pure (.int 0)) γ;asB d) (z9 (z0t (eM1 z24 (e2 fIx (eVar 0) (fun _=>pure (.int 0))) (fun _=>pure (.int 0)))) bNil) bNil) (z9 (sRet (e2 fMod (eVar 2) (eVar 1))) bNil)))) bNil) (z9 (sAsg (e2 fAdd (e2 fIx (eVar 0) (fun _=>pure (.int 3))) (fun _=>pure (.int 1))) (gIx (eVar 0) (fun _=>pure (.int 3)))) (z9 (sAsg (fun _=>pure (.int 0)) (gN 2)) (z9 (sIf (fun γ=>do let d ← e2 fGt (Z5 fLen (z8 (e2 fIx (eVar 0) (fun _=>pure (.int 1))) aNil)) (fun _=>pure (.int 0)) γ;asB d) (z9 (sAsg (e2 fIx (e2 fIx (eVar 0) (fun _=>pure (.int 1))) (e2 fMod (e2 fIx (eVar 0) (fun _=>pure (.int 3))) (Z5 fLen (z8 (e2 fIx (eVar 0) (fun _=>pure (.int 1))) aNil)))) (gN 2)) bNil) bNil) (z9 (sAsg (e2 z4s (e2 fMod (eVar 2) (fun _=>pure (.int 2147483629))) (e2 fAdd (e2 z4s (e2 fIx (eVar 0) (fun _=>pure (.int 3))) (e2 fIx (eVar 0) (fun _=>pure (.int 3)))) (fun _=>pure (.int 1)))) (gN 2)) (z9 (sAsg (e2 fMod (e2 fAdd (e2 fAdd (e2 z4s (e2 fIx (eVar 0) (fun _=>pure (.int 2))) (fun _=>pure (.int 48271))) (eVar 2)) (e2 z4s (fun _=>pure (.int 97)) (e2 fIx (eVar 0) (fun _=>pure (.int 3))))) (fun _=>pure (.int 2147483647))) (gIx (eVar 0) (fun _=>pure (.int 2)))) (z9 (sRet (e2 fMod (e2 fDiv (e2 fMod (e2 fPow (e2 fIx (eVar 0) (fun _=>pure (.int 2))) (fun _=>pure (.int 5))) (fun _=>pure (.int 2147483629))) (fun _=>pure (.int 64))) (eVar 1))) bNil)))))))
noncomputable def Z3:List D->M D:=runF 3 z0u
theorem zf9 (T:Y0 K "_law_draw" (top 27)) (mx:Mx K mg "_law_draw") (z_len:mg "len" = none):Fn P w K mg base 1 "_law_draw" 2 Z3 :=
 dfN ["_law_pool_here","_law_many","_law_cell"] z0u T mx (by decide +kernel) rfl (fun _ _ _ _ _ _ us hl=>(by obtain ⟨_,_,rfl⟩:=ar2 hl;rfl)) fun hcd hr nd =>
  (z7 (s_if (sc_c za7 (w8 rfl z_len (z6 (Z7 (z0 0) Z1) Z0)) Z1) (z7 (y9 2 nd (Z7 (Z7 (z0 0) Z1) Z1)) (z7 (z4k (z85 (z0 2) (z0 1)) (z7U (Z7 (z0 0) Z1) Z1)) (z7 (s_if (sc_c z5z (z85 (z0 2) (z0 1)) Z1) (z7 (z19 (z6K (Z7 (z0 0) Z1) Z1)) Z2) Z2) (z7 (j9 (z3b (z0 2) (z0 1))) Z2)))) Z2) (z7 (z4k (z0w (Z7 (z0 0) Z1) Z1) (z7U (z0 0) Z1)) (z7 (y9 2 nd Z1) (z7 (s_if (sc_c za7 (w8 rfl z_len (z6 (Z7 (z0 0) Z1) Z0)) Z1) (z7 (y9 2 nd (Z7 (Z7 (z0 0) Z1) (z3b (Z7 (z0 0) Z1) (w8 rfl z_len (z6 (Z7 (z0 0) Z1) Z0))))) Z2) Z2) (z7 (y9 2 nd (z3O (z3b (z0 2) Z1) (z0w (z3O (Z7 (z0 0) Z1) (Z7 (z0 0) Z1)) Z1))) (z7 (z4k (z3b (z0w (z0w (z3O (Z7 (z0 0) Z1) Z1) (z0 2)) (z3O Z1 (Z7 (z0 0) Z1))) Z1) (z7U (z0 0) Z1)) (z7 (j9 (z3b (z85 (z3b (z8K (Z7 (z0 0) Z1) Z1) Z1) Z1) (z0 1))) Z2)))))))
noncomputable def z0v:G->M Out :=
 (z9 (sAsg (fun _=>pure (.str "abcdefghijklmnopqrstuvwxyz")) (gN 3)) (z9 (sAsg (eVar 1) (gN 4)) (z9 (sFor (z02 (eFn 2 Z3 (z8 (eVar 0) (z8 (fun _=>pure (.int 4)) aNil)))) (gN 5) (z9 (sAsg (e2 fAdd (eVar 4) (e2 fIx (eVar 3) (eFn 2 Z3 (z8 (eVar 0) (z8 (fun _=>pure (.int 26)) aNil))))) (gN 4)) bNil)) (z9 (sAsg (eFn 2 Z3 (z8 (eVar 0) (z8 (fun _=>pure (.int 26)) aNil))) (gN 6)) (z9 (sAsg (eLst (z8 (fun _=>pure (.str "yes")) (z8 (fun _=>pure (.str "no")) (z8 (fun _=>pure (.str "not")) (z8 (fun _=>pure (.str "and")) (z8 (fun _=>pure (.str "or")) (z8 (fun _=>pure (.str "step")) (z8 (fun _=>pure (.str "some")) (z8 (fun _=>pure (.str "all")) (z8 (fun _=>pure (.str "next")) (z8 (fun _=>pure (.str "once")) (z8 (fun _=>pure (.str "ever")) (z8 (fun _=>pure (.str "until")) (z8 (fun _=>pure (.str "unless")) aNil)))))))))))))) (gN 7)) (z9 (sFor (z02 (fun _=>pure (.int 26))) (gN 5) (z9 (sAsg (e2 fAdd (eVar 4) (e2 fIx (eVar 3) (e2 fMod (e2 fAdd (eVar 6) (eVar 5)) (fun _=>pure (.int 26))))) (gN 8)) (z9 (sIf (cAnd (fun γ=>do let d ← e2 (fIn true) (eVar 8) (eVar 7) γ;asB d) (fun γ=>do let d ← e2 (fIn true) (eVar 8) (eVar 2) γ;asB d)) (z9 (sRet (eVar 8)) bNil) bNil) bNil))) (z9 (sRet (e2 fAdd (eVar 4) (fun _=>pure (.str "x")))) bNil)))))))
noncomputable def z13:List D->M D:=fun ds=>cln (runF 9 z0v ds)
theorem zg9 (T:Y0 K "_law_name" (top 28)) (mx:Mx K mg "_law_name") (z_range:mg "range" = none) (F__law_draw:Fn P w K mg base 1 "_law_draw" 2 Z3):Fn P w K mg base 2 "_law_name" 3 z13 :=
 dfC ["_law_pool_here","_law_start","_law_taken","_law_letters","_law_name_here","_law_k","_law_last","_law_words","_law_found"] z0v T mx (by decide +kernel) rfl (fun _ _ _ _ _ _ us hl=>(by obtain ⟨_,_,_,rfl⟩:=ar3 hl;rfl)) fun hcd hr nd =>
  (z7 (y9 3 nd k7) (z7 (y9 4 nd (z0 1)) (z7 (z0A PassesOwn.never rfl (J9 rfl z_range (Z4 F__law_draw (hr.mono (by decide)) rfl (z6 (z0 0) (z6 Z1 Z0)))) (j7 5 nd) (z7 (y9 4 nd (z0w (z0 4) (Z7 (z0 3) (Z4 F__law_draw (hr.mono (by decide)) rfl (z6 (z0 0) (z6 Z1 Z0)))))) Z2)) (z7 (y9 6 nd (Z4 F__law_draw (hr.mono (by decide)) rfl (z6 (z0 0) (z6 Z1 Z0)))) (z7 (y9 7 nd (z0p (z6 k7 (z6 k7 (z6 k7 (z6 k7 (z6 k7 (z6 k7 (z6 k7 (z6 k7 (z6 k7 (z6 k7 (z6 k7 (z6 k7 (z6 k7 Z0))))))))))))))) (z7 (z0A PassesOwn.never rfl (J9 rfl z_range Z1) (j7 5 nd) (z7 (y9 8 nd (z0w (z0 4) (Z7 (z0 3) (z3b (z0w (z0 6) (z0 5)) Z1)))) (z7 (s_if (SW.sc (z8r (sc_c z26 (z0 8) (z0 7)) (z5u (sc_c z26 (z0 8) (z0 2))))) (z7 (j9 (z0 8)) Z2) Z2) Z2))) (z7 (j9 (z0w (z0 4) k7)) Z2)))))))
noncomputable def z0D:G->M Out :=
 (z9 (sAsg (fun _=>pure (.str "abcdefghijklmnopqrstuvwxyz")) (gN 2)) (z9 (sAsg (fun _=>pure (.str "")) (gN 3)) (z9 (sFor (z02 (clE (e2 fIx (eLst (z8 (fun _=>pure (.int 0)) (z8 (fun _=>pure (.int 0)) (z8 (fun _=>pure (.int 1)) (z8 (fun _=>pure (.int 4)) aNil))))) (eFn 2 Z3 (z8 (eVar 0) (z8 (fun _=>pure (.int 4)) aNil)))))) (gN 4) (z9 (sAsg (e2 fAdd (eVar 3) (e2 fIx (eVar 2) (eFn 2 Z3 (z8 (eVar 0) (z8 (fun _=>pure (.int 26)) aNil))))) (gN 3)) bNil)) (z9 (sAsg (eLst aNil) (gN 5)) (z9 (sFor (z02 (eVar 1)) (gN 4) (z9 (z0t (eM1 y8 (eVar 5) (eFn 3 z13 (z8 (eVar 0) (z8 (eVar 3) (z8 (eVar 5) aNil)))))) bNil)) (z9 (sRet (eVar 5)) bNil))))))
noncomputable def z1l:List D->M D:=fun ds=>cln (runF 6 z0D ds)
theorem za5 (T:Y0 K "_law_names" (top 29)) (mx:Mx K mg "_law_names") (z_range:mg "range" = none) (F__law_draw:Fn P w K mg base 1 "_law_draw" 2 Z3) (F__law_name:Fn P w K mg base 2 "_law_name" 3 z13):Fn P w K mg base 3 "_law_names" 2 z1l :=
 dfC ["_law_pool_here","_law_many","_law_letters","_law_start","_law_k","_law_names_here"] z0D T mx (by decide +kernel) rfl (fun _ _ _ _ _ _ us hl=>(by obtain ⟨_,_,rfl⟩:=ar2 hl;rfl)) fun hcd hr nd =>
  (z7 (y9 2 nd k7) (z7 (y9 3 nd k7) (z7 (z0A PassesOwn.never rfl (J9 rfl z_range (z0x (Z7 (z0p (z6 Z1 (z6 Z1 (z6 Z1 (z6 Z1 Z0))))) (Z4 F__law_draw (hr.mono (by decide)) rfl (z6 (z0 0) (z6 Z1 Z0)))))) (j7 4 nd) (z7 (y9 3 nd (z0w (z0 3) (Z7 (z0 2) (Z4 F__law_draw (hr.mono (by decide)) rfl (z6 (z0 0) (z6 Z1 Z0)))))) Z2)) (z7 (y9 5 nd (z0p Z0)) (z7 (z0A PassesOwn.never rfl (J9 rfl z_range (z0 1)) (j7 4 nd) (z7 (z19 (x4 (z0 5) (Z4 F__law_name (hr.mono (by decide)) rfl (z6 (z0 0) (z6 (z0 3) (z6 (z0 5) Z0)))))) Z2)) (z7 (j9 (z0 5)) Z2))))))
noncomputable def z1D:G->M Out :=
 (z9 (sAsg (e2 fAdd (fun _=>pure (.int 1)) (eFn 2 Z3 (z8 (eVar 0) (z8 (eVar 2) aNil)))) (gN 3)) (z9 (sAsg (e2 fAdd (fun _=>pure (.int 1)) (eFn 2 Z3 (z8 (eVar 0) (z8 (fun _=>pure (.int 4)) aNil)))) (gN 4)) (z9 (sAsg (eLst aNil) (gN 5)) (z9 (sAsg (eLst aNil) (gN 6)) (z9 (sFor (z02 (eVar 3)) (gN 7) (z9 (z0t (eM1 y8 (eVar 5) (clE (Z5 Y3 (z8 (x5 [some 0,some 4,none] (z02 (eVar 3)) (gN 2) (fun γ=>do let d ← e2 fLt (eFn 2 Z3 (z8 (eVar 0) (z8 (fun _=>pure (.int 6)) aNil))) (eVar 1) γ;asB d) (eVar 2)) aNil))))) (z9 (z0t (eM1 y8 (eVar 6) (clE (Z5 Y3 (z8 (Z5 z0Y (z8 (x5 [some 0,none] (z09 (eVar 1)) (gN 1) (fun γ=>do let d ← e2 (fEq false) (eFn 2 Z3 (z8 (eVar 0) (z8 (fun _=>pure (.int 2)) aNil))) (fun _=>pure (.int 1)) γ;asB d) (eVar 1)) aNil)) aNil))))) bNil))) (z9 (sRet (eTup (z8 (Z5 Y3 (z8 (eVar 5) aNil)) (z8 (Z5 Y3 (z8 (eVar 6) aNil)) aNil)))) bNil))))))
noncomputable def z0M:List D->M D:=fun ds=>cln (runF 8 z1D ds)
theorem z88 (T:Y0 K "_law_machine" (top 30)) (mx:Mx K mg "_law_machine") (z_range:mg "range" = none) (z_sorted:mg "sorted" = none) (z_tuple:mg "tuple" = none) (F__law_draw:Fn P w K mg base 1 "_law_draw" 2 Z3):Fn P w K mg base 2 "_law_machine" 3 z0M :=
 dfC ["_law_pool_here","_law_names_here","_law_most","_law_many","_law_dense","_law_steps","_law_marks","_law_k"] z1D T mx (by decide +kernel) rfl (fun _ _ _ _ _ _ us hl=>(by obtain ⟨_,_,_,rfl⟩:=ar3 hl;rfl)) fun hcd hr nd =>
  (z7 (y9 3 nd (z0w Z1 (Z4 F__law_draw (hr.mono (by decide)) rfl (z6 (z0 0) (z6 (z0 2) Z0))))) (z7 (y9 4 nd (z0w Z1 (Z4 F__law_draw (hr.mono (by decide)) rfl (z6 (z0 0) (z6 Z1 Z0))))) (z7 (y9 5 nd (z0p Z0)) (z7 (y9 6 nd (z0p Z0)) (z7 (z0A PassesOwn.never rfl (J9 rfl z_range (z0 3)) (j7 7 nd) (z7 (z19 (x4 (z0 5) (z0x (Y6 rfl z_tuple (z6 (J0 (N':=["_law_pool_here","_law_dense","_law_to"]) (cap:=[some 0,some 4,none]) rfl (v8 (by first | rfl | kernel_rfl!)) (J9 rfl z_range (z0 3)) (fun _ _ _ _=>(Z6 2 (show (["_law_pool_here","_law_dense","_law_to"]:List Str).Nodup by decide +kernel))) (fun _ _ _ _=>(z0b (sc_c z8v (Z4 F__law_draw (hr.mono (by decide)) rfl (z6 (z0 0) (z6 Z1 Z0))) (z0 1)))) (fun _ _ _ _=>(z0 2))) Z0))))) (z7 (z19 (x4 (z0 6) (z0x (Y6 rfl z_tuple (z6 (z51 rfl rfl z_sorted (z6 (J0 (N':=["_law_pool_here","_law_name_here"]) (cap:=[some 0,none]) rfl (v8 (by first | rfl | kernel_rfl!)) (x8 (z0 1)) (fun _ _ _ _=>(Z6 1 (show (["_law_pool_here","_law_name_here"]:List Str).Nodup by decide +kernel))) (fun _ _ _ _=>(z0b (sc_c z5z (Z4 F__law_draw (hr.mono (by decide)) rfl (z6 (z0 0) (z6 Z1 Z0))) Z1))) (fun _ _ _ _=>(z0 1))) Z0)) Z0))))) Z2))) (z7 (j9 (z2v (z6 (Y6 rfl z_tuple (z6 (z0 5) Z0)) (z6 (Y6 rfl z_tuple (z6 (z0 6) Z0)) Z0)))) Z2))))))
noncomputable def z04:G->M Out :=
 (z9 (sRet (eAnd (eIsi "int" (eVar 0)) (eAnd (eNot (eIsi "bool" (eVar 0))) (e3 fLe fLt (eVar 1) (eVar 0) (eVar 2))))) bNil)
noncomputable def J6:List D->M D:=fun ds=>cln (runF 3 z04 ds)
theorem z9o (T:Y0 K "_law_number" (top 31)) (mx:Mx K mg "_law_number") (z_bool:mg "bool" = none) (z_int:mg "int" = none) (z_isinstance:mg "isinstance" = none):Fn P w K mg base 1 "_law_number" 3 J6 :=
 dfC ["_law_thing","_law_low","_law_high"] z04 T mx (by decide +kernel) rfl (fun _ _ _ _ _ _ us hl=>(by obtain ⟨_,_,_,rfl⟩:=ar3 hl;rfl)) fun hcd hr nd =>
  (z7 (j9 (z0m (z0U rfl z_isinstance rfl z_int (by decide +kernel) (by decide) (z0 0)) (z0m (z7x (z0U rfl z_isinstance rfl z_bool (by decide +kernel) (by decide) (z0 0))) (z18 (z7T z36 z8v (z0 1) (z0 0) (z0 2)))))) Z2)
noncomputable def z0f:G->M Out :=
 (z9 (sRet (eAnd (eIsi "tuple" (eVar 0)) (e3 fLe fLe (eVar 1) (Z5 fLen (z8 (eVar 0) aNil)) (eVar 2)))) bNil)
noncomputable def J5:List D->M D:=fun ds=>cln (runF 3 z0f ds)
theorem zb7 (T:Y0 K "_law_tuple" (top 32)) (mx:Mx K mg "_law_tuple") (z_isinstance:mg "isinstance" = none) (z_len:mg "len" = none) (z_tuple:mg "tuple" = none):Fn P w K mg base 1 "_law_tuple" 3 J5 :=
 dfC ["_law_thing","_law_least","_law_most"] z0f T mx (by decide +kernel) rfl (fun _ _ _ _ _ _ us hl=>(by obtain ⟨_,_,_,rfl⟩:=ar3 hl;rfl)) fun hcd hr nd =>
  (z7 (j9 (z0m (z0U rfl z_isinstance rfl z_tuple (by decide +kernel) (by decide) (z0 0)) (z18 (z7T z36 z36 (z0 1) (w8 rfl z_len (z6 (z0 0) Z0)) (z0 2))))) Z2)
noncomputable def Y2:G->M Out :=
 (z9 (sAsg (eLst (z8 (fun _=>pure (.str "yes")) (z8 (fun _=>pure (.str "no")) (z8 (fun _=>pure (.str "not")) (z8 (fun _=>pure (.str "and")) (z8 (fun _=>pure (.str "or")) (z8 (fun _=>pure (.str "step")) (z8 (fun _=>pure (.str "some")) (z8 (fun _=>pure (.str "all")) (z8 (fun _=>pure (.str "next")) (z8 (fun _=>pure (.str "once")) (z8 (fun _=>pure (.str "ever")) (z8 (fun _=>pure (.str "until")) (z8 (fun _=>pure (.str "unless")) aNil)))))))))))))) (gN 1)) (z9 (sIf (cOr (cNot (cVal (eIsi "str" (eVar 0)))) (cOr (fun γ=>do let d ← e2 fLt (Z5 fLen (z8 (eVar 0) aNil)) (fun _=>pure (.int 1)) γ;asB d) (cOr (fun γ=>do let d ← e2 fGt (Z5 fLen (z8 (eVar 0) aNil)) (fun _=>pure (.int 8)) γ;asB d) (fun γ=>do let d ← e2 (fIn false) (eVar 0) (eVar 1) γ;asB d)))) (z9 (sRet (fun _=>pure (.bl false))) bNil) bNil) (z9 (sRet (clE (e2 (fEqX false) (x5 [none] (iStr (eVar 0)) (gN 0) (fun γ=>do let d ← e2 (fInT true) (eVar 0) (fun _=>pure (.str "abcdefghijklmnopqrstuvwxyz")) γ;asB d) (eVar 0)) (eLst aNil)))) bNil)))
noncomputable def v7:List D->M D:=fun ds=>cln (runF 2 Y2 ds)
theorem z77 (T:Y0 K "_law_good_name" (top 33)) (mx:Mx K mg "_law_good_name") (z_isinstance:mg "isinstance" = none) (z_len:mg "len" = none) (z_str:mg "str" = none):Fn P w K mg base 1 "_law_good_name" 1 v7 :=
 dfC ["_law_thing","_law_words"] Y2 T mx (by decide +kernel) rfl (fun _ _ _ _ _ _ us hl=>(by obtain ⟨_,rfl⟩:=ar1 hl;rfl)) fun hcd hr nd =>
  (z7 (y9 1 nd (z0p (z6 k7 (z6 k7 (z6 k7 (z6 k7 (z6 k7 (z6 k7 (z6 k7 (z6 k7 (z6 k7 (z6 k7 (z6 k7 (z6 k7 (z6 k7 Z0))))))))))))))) (z7 (s_if (SW.sc (z2W (z01 (x6 (z0U rfl z_isinstance rfl z_str (by decide +kernel) (by decide) (z0 0)))) (z2W (sc_c z8v (w8 rfl z_len (z6 (z0 0) Z0)) Z1) (z2W (sc_c za7 (w8 rfl z_len (z6 (z0 0) Z0)) Z1) (z28 (sc_c z79 (z0 0) (z0 1))))))) (z7 (j9 z25) Z2) Z2) (z7 (j9 (z0x (se_c (z1S (hu30 hr)) (J0 (N':=["_law_sign"]) (cap:=[none]) rfl (v8 (by first | rfl | kernel_rfl!)) (zf1 rfl (z0 0)) (fun _ _ _ _=>(Z6 0 (show (["_law_sign"]:List Str).Nodup by decide +kernel))) (fun _ _ _ _=>(z0b (sc_c zq4 (z0 0) k7))) (fun _ _ _ _=>(z0 0))) (z0p Z0)))) Z2)))
noncomputable def z2F:G->M Out :=
 (z9 (sRet (eAnd (eIsi "bool" (eVar 0)) (e2 (fEqX false) (eVar 0) (eVar 1)))) bNil)
noncomputable def z2x:List D->M D:=fun ds=>cln (runF 2 z2F ds)
theorem z9W (T:Y0 K "_law_truth" (top 34)) (mx:Mx K mg "_law_truth") (z_bool:mg "bool" = none) (z_isinstance:mg "isinstance" = none):Fn P w K mg base 1 "_law_truth" 2 z2x :=
 dfC ["_law_found","_law_due"] z2F T mx (by decide +kernel) rfl (fun _ _ _ _ _ _ us hl=>(by obtain ⟨_,_,rfl⟩:=ar2 hl;rfl)) fun hcd hr nd =>
  (z7 (j9 (z0m (z0U rfl z_isinstance rfl z_bool (by decide +kernel) (by decide) (z0 0)) (z18 (se_c (z1S (hu30 hr)) (z0 0) (z0 1))))) Z2)
noncomputable def z2y:G->M Out :=
 (z9 (sAsg (x5 [none] (z0c (e2 fIx (eVar 0) (fun _=>pure (.int 0)))) (gN 0) (fun _=>pure true) (fun _=>pure (.int 0))) (gN 1)) (z9 (sFor (z02 (Z5 fLen (z8 (eVar 1) aNil))) (gN 2) (z9 (sAsg (eLst aNil) (gN 3)) (z9 (sFor (z02 (Z5 fLen (z8 (eVar 1) aNil))) (gN 4) (z9 (sAsg (clE (Z5 Y3 (z8 (Z5 Y8 (z8 (Z5 z0I (z8 (x5 [some 1,none] (z0c (e2 fIx (e2 fIx (eVar 0) (fun _=>pure (.int 0))) (eVar 4))) (gN 1) (fun _=>pure true) (e2 fIx (eVar 0) (eVar 1))) aNil)) aNil)) aNil))) (gN 5)) (z9 (z0t (eM1 y8 (eVar 3) (eTup (z8 (e2 fIx (eVar 1) (eVar 4)) (z8 (e2 fIx (e2 fIx (eVar 0) (fun _=>pure (.int 1))) (eVar 4)) (z8 (eVar 5) aNil)))))) bNil))) (z9 (sAsg (x5 [some 3,none] (z09 (eVar 3)) (gN 1) (fun _=>pure true) (eM1 z7v (eVar 0) (eVar 1))) (gN 1)) bNil)))) (z9 (sRet (eVar 1)) bNil)))
noncomputable def z2D:List D->M D:=fun ds=>cln (runF 6 z2y ds)
theorem z9S (T:Y0 K "_law_homes" (top 35)) (mx:Mx K mg "_law_homes") (z_len:mg "len" = none) (z_range:mg "range" = none) (z_set:mg "set" = none) (z_sorted:mg "sorted" = none) (z_tuple:mg "tuple" = none):Fn P w K mg base 1 "_law_homes" 1 z2D :=
 dfC ["_law_machine_here","_law_homes_here","_law_k","_law_looks","_law_one","_law_ahead"] z2y T mx (by decide +kernel) rfl (fun _ _ _ _ _ _ us hl=>(by obtain ⟨_,rfl⟩:=ar1 hl;rfl)) fun hcd hr nd =>
  (z7 (y9 1 nd (J0 (N':=["_law_one"]) (cap:=[none]) rfl (v8 (by first | rfl | kernel_rfl!)) (v5 (Z7 (z0 0) Z1)) (fun _ _ _ _=>(Z6 0 (show (["_law_one"]:List Str).Nodup by decide +kernel))) (fun _ _ _ _=>Y5) (fun _ _ _ _=>Z1))) (z7 (z0A PassesOwn.never rfl (J9 rfl z_range (w8 rfl z_len (z6 (z0 1) Z0))) (j7 2 nd) (z7 (y9 3 nd (z0p Z0)) (z7 (z0A PassesOwn.never rfl (J9 rfl z_range (w8 rfl z_len (z6 (z0 1) Z0))) (j7 4 nd) (z7 (y9 5 nd (z0x (Y6 rfl z_tuple (z6 (z0X rfl rfl z_sorted (z6 (z1V rfl rfl z_set (z6 (J0 (N':=["_law_homes_here","_law_to"]) (cap:=[some 1,none]) rfl (v8 (by first | rfl | kernel_rfl!)) (v5 (Z7 (Z7 (z0 0) Z1) (z0 4))) (fun _ _ _ _=>(Z6 1 (show (["_law_homes_here","_law_to"]:List Str).Nodup by decide +kernel))) (fun _ _ _ _=>Y5) (fun _ _ _ _=>(Z7 (z0 0) (z0 1)))) Z0)) Z0)) Z0)))) (z7 (z19 (x4 (z0 3) (z2v (z6 (Z7 (z0 1) (z0 4)) (z6 (Z7 (Z7 (z0 0) Z1) (z0 4)) (z6 (z0 5) Z0)))))) Z2))) (z7 (y9 1 nd (J0 (N':=["_law_looks","_law_look"]) (cap:=[some 3,none]) rfl (v8 (by first | rfl | kernel_rfl!)) (x8 (z0 3)) (fun _ _ _ _=>(Z6 1 (show (["_law_looks","_law_look"]:List Str).Nodup by decide +kernel))) (fun _ _ _ _=>Y5) (fun _ _ _ _=>(z92 (hu40 hr) (z0 0) (z0 1))))) Z2)))) (z7 (j9 (z0 1)) Z2)))
noncomputable def z1h:G->M Out :=
 (z9 (sAsg (Z5 Y8 (z8 (Z5 z0I (z8 (eVar 0) aNil)) aNil)) (gN 1)) (z9 (sRet (clE (Z5 Y3 (z8 (x5 [some 1,none] (z09 (eVar 0)) (gN 1) (fun _=>pure true) (orE (eM1 z1f (eVar 0) (eVar 1)) (z2Z (eVar 0) (eVar 1)))) aNil)))) bNil))
noncomputable def z05:List D->M D:=fun ds=>cln (runF 2 z1h ds)
theorem z7t (T:Y0 K "_law_numbered" (top 36)) (mx:Mx K mg "_law_numbered") (z_set:mg "set" = none) (z_sorted:mg "sorted" = none) (z_tuple:mg "tuple" = none):Fn P w K mg base 1 "_law_numbered" 1 z05 :=
 dfC ["_law_homes_here","_law_order"] z1h T mx (by decide +kernel) rfl (fun _ _ _ _ _ _ us hl=>(by obtain ⟨_,rfl⟩:=ar1 hl;rfl)) fun hcd hr nd =>
  (z7 (y9 1 nd (z0X rfl rfl z_sorted (z6 (z1V rfl rfl z_set (z6 (z0 0) Z0)) Z0))) (z7 (j9 (z0x (Y6 rfl z_tuple (z6 (J0 (N':=["_law_order","_law_home"]) (cap:=[some 1,none]) rfl (v8 (by first | rfl | kernel_rfl!)) (x8 (z0 0)) (fun _ _ _ _=>(Z6 1 (show (["_law_order","_law_home"]:List Str).Nodup by decide +kernel))) (fun _ _ _ _=>Y5) (fun _ _ _ _=>(zG5 (z4T (z0 0) (z0 1)) (z4x (z0 0) (z0 1))))) Z0)))) Z2))
noncomputable def z29:G->M Out :=
 (z9 (sAsg (Z5 fLen (z8 (e2 fIx (eVar 0) (fun _=>pure (.int 0))) aNil)) (gN 2)) (z9 (sIf (cNot (cVal (eFn 3 J5 (z8 (eVar 1) (z8 (eVar 2) (z8 (eVar 2) aNil)))))) (z9 (sRet (fun _=>pure (.bl false))) bNil) bNil) (z9 (sAsg (fun _=>pure (.int 0)) (gN 3)) (z9 (sFor (z0c (eVar 1)) (gN 4) (z9 (sIf (cNot (cVal (eFn 3 J6 (z8 (eVar 4) (z8 (fun _=>pure (.int 0)) (z8 (e2 fAdd (eVar 3) (fun _=>pure (.int 1))) aNil)))))) (z9 (sRet (fun _=>pure (.bl false))) bNil) bNil) (z9 (sAsg (Z5 zd1 (z8 (eVar 3) (z8 (e2 fAdd (eVar 4) (fun _=>pure (.int 1))) aNil))) (gN 3)) bNil))) (z9 (sFor (z02 (eVar 2)) (gN 4) (z9 (sAsg (orE (eM1 z1f (eVar 1) (e2 fIx (eVar 1) (eVar 4))) (z2Z (eVar 1) (e2 fIx (eVar 1) (eVar 4)))) (gN 5)) (z9 (sIf (fun γ=>do let d ← e2 (fEqX true) (e2 fIx (e2 fIx (eVar 0) (fun _=>pure (.int 1))) (eVar 4)) (e2 fIx (e2 fIx (eVar 0) (fun _=>pure (.int 1))) (eVar 5)) γ;asB d) (z9 (sRet (fun _=>pure (.bl false))) bNil) bNil) (z9 (sAsg (Z5 Y8 (z8 (Z5 z0I (z8 (x5 [some 1,none] (z0c (e2 fIx (e2 fIx (eVar 0) (fun _=>pure (.int 0))) (eVar 4))) (gN 1) (fun _=>pure true) (e2 fIx (eVar 0) (eVar 1))) aNil)) aNil)) (gN 6)) (z9 (sIf (clT (fun γ=>do let d ← e2 (fEqX true) (eVar 6) (Z5 Y8 (z8 (Z5 z0I (z8 (x5 [some 1,none] (z0c (e2 fIx (e2 fIx (eVar 0) (fun _=>pure (.int 0))) (eVar 5))) (gN 1) (fun _=>pure true) (e2 fIx (eVar 0) (eVar 1))) aNil)) aNil)) γ;asB d)) (z9 (sRet (fun _=>pure (.bl false))) bNil) bNil) bNil))))) (z9 (sRet (fun _=>pure (.bl true))) bNil))))))
noncomputable def z12:List D->M D:=fun ds=>cln (runF 7 z29 ds)
theorem z9q (T:Y0 K "_law_steady" (top 37)) (mx:Mx K mg "_law_steady") (z_len:mg "len" = none) (z_max:mg "max" = none) (z_range:mg "range" = none) (z_set:mg "set" = none) (z_sorted:mg "sorted" = none) (F__law_number:Fn P w K mg base 1 "_law_number" 3 J6) (F__law_tuple:Fn P w K mg base 1 "_law_tuple" 3 J5):Fn P w K mg base 2 "_law_steady" 2 z12 :=
 dfC ["_law_machine_here","_law_thing","_law_many","_law_top","_law_one","_law_first","_law_here"] z29 T mx (by decide +kernel) rfl (fun _ _ _ _ _ _ us hl=>(by obtain ⟨_,_,rfl⟩:=ar2 hl;rfl)) fun hcd hr nd =>
  (z7 (y9 2 nd (w8 rfl z_len (z6 (Z7 (z0 0) Z1) Z0))) (z7 (s_if (z01 (x6 (Z4 F__law_tuple (hr.mono (by decide)) rfl (z6 (z0 1) (z6 (z0 2) (z6 (z0 2) Z0)))))) (z7 (j9 z25) Z2) Z2) (z7 (y9 3 nd Z1) (z7 (z0A PassesOwn.never rfl (v5 (z0 1)) (j7 4 nd) (z7 (s_if (z01 (x6 (Z4 F__law_number (hr.mono (by decide)) rfl (z6 (z0 4) (z6 Z1 (z6 (z0w (z0 3) Z1) Z0)))))) (z7 (j9 z25) Z2) Z2) (z7 (y9 3 nd (zi8 rfl rfl z_max (z6 (z0 3) (z6 (z0w (z0 4) Z1) Z0)))) Z2))) (z7 (z0A PassesOwn.never rfl (J9 rfl z_range (z0 2)) (j7 4 nd) (z7 (y9 5 nd (zG5 (z4T (z0 1) (Z7 (z0 1) (z0 4))) (z4x (z0 1) (Z7 (z0 1) (z0 4))))) (z7 (s_if (sc_c (z96 (hu30 hr)) (Z7 (Z7 (z0 0) Z1) (z0 4)) (Z7 (Z7 (z0 0) Z1) (z0 5))) (z7 (j9 z25) Z2) Z2) (z7 (y9 6 nd (z0X rfl rfl z_sorted (z6 (z1V rfl rfl z_set (z6 (J0 (N':=["_law_thing","_law_to"]) (cap:=[some 1,none]) rfl (v8 (by first | rfl | kernel_rfl!)) (v5 (Z7 (Z7 (z0 0) Z1) (z0 4))) (fun _ _ _ _=>(Z6 1 (show (["_law_thing","_law_to"]:List Str).Nodup by decide +kernel))) (fun _ _ _ _=>Y5) (fun _ _ _ _=>(Z7 (z0 0) (z0 1)))) Z0)) Z0))) (z7 (s_if (zg3 (sc_c (z96 (hu30 hr)) (z0 6) (z0X rfl rfl z_sorted (z6 (z1V rfl rfl z_set (z6 (J0 (N':=["_law_thing","_law_to"]) (cap:=[some 1,none]) rfl (v8 (by first | rfl | kernel_rfl!)) (v5 (Z7 (Z7 (z0 0) Z1) (z0 5))) (fun _ _ _ _=>(Z6 1 (show (["_law_thing","_law_to"]:List Str).Nodup by decide +kernel))) (fun _ _ _ _=>Y5) (fun _ _ _ _=>(Z7 (z0 0) (z0 1)))) Z0)) Z0)))) (z7 (j9 z25) Z2) Z2) Z2))))) (z7 (j9 z25) Z2))))))
noncomputable def z1P:G->M Out :=
 (z9 (sAsg (eLst aNil) (gN 4)) (z9 (sFor (z02 (Z5 fLen (z8 (eVar 1) aNil))) (gN 5) (z9 (sIf (cAnd (cVal (eIsi "str" (eVar 3))) (fun γ=>do let d ← e2 (fIn false) (eVar 3) (e2 fIx (e2 fIx (eVar 0) (fun _=>pure (.int 1))) (eVar 5)) γ;asB d)) (z9 (z0t (eM1 y8 (eVar 4) (eVar 5))) bNil) bNil) (z9 (sIf (cAnd (cNot (cVal (eIsi "str" (eVar 3)))) (clT (fun γ=>do let d ← e2 (fIn false) (eVar 3) (x5 [some 1,none] (z0c (e2 fIx (e2 fIx (eVar 0) (fun _=>pure (.int 0))) (eVar 5))) (gN 1) (fun _=>pure true) (e2 fIx (eVar 0) (eVar 1))) γ;asB d))) (z9 (z0t (eM1 y8 (eVar 4) (eVar 5))) bNil) bNil) bNil))) (z9 (z2A 6 [some 1,some 2,none] (z02 (Z5 fLen (z8 (eVar 1) aNil))) (gN 2) (fun γ=>do let d ← e2 (fEqX false) (e2 fIx (eVar 0) (eVar 2)) (eVar 1) γ;asB d) (eVar 2)) (z9 (z2A 7 [some 4,none] (z09 (eVar 6)) (gN 1) (fun γ=>do let d ← e2 (fIn false) (eVar 1) (eVar 0) γ;asB d) (eVar 1)) (z9 (z2A 8 [some 4,none] (z09 (eVar 6)) (gN 1) (fun γ=>do let d ← e2 (fIn true) (eVar 1) (eVar 0) γ;asB d) (eVar 1)) (z9 (sIf (cOr (fun γ=>do let d ← e2 (fEq false) (Z5 fLen (z8 (eVar 7) aNil)) (fun _=>pure (.int 0)) γ;asB d) (fun γ=>do let d ← e2 (fEq false) (Z5 fLen (z8 (eVar 8) aNil)) (fun _=>pure (.int 0)) γ;asB d)) (z9 (sRet (fun _=>pure .non)) bNil) bNil) (z9 (sAsg (Z5 z9v (z8 (eVar 1) aNil)) (gN 9)) (z9 (sFor (z09 (eVar 7)) (gN 5) (z9 (sAsg (e2 fIx (eVar 7) (fun _=>pure (.int 0))) (gIx (eVar 9) (eVar 5))) bNil)) (z9 (sFor (z09 (eVar 8)) (gN 5) (z9 (sAsg (e2 fIx (eVar 8) (fun _=>pure (.int 0))) (gIx (eVar 9) (eVar 5))) bNil)) (z9 (sRet (eVar 9)) bNil))))))))))
noncomputable def z14:List D->M D:=fun ds=>cln (runF 10 z1P ds)
theorem z9p (T:Y0 K "_law_halved" (top 38)) (mx:Mx K mg "_law_halved") (z_isinstance:mg "isinstance" = none) (z_len:mg "len" = none) (z_list:mg "list" = none) (z_range:mg "range" = none) (z_str:mg "str" = none):Fn P w K mg base 1 "_law_halved" 4 z14 :=
 dfC ["_law_machine_here","_law_homes_here","_law_cut","_law_by","_law_chosen","_law_one","_law_block","_law_inner","_law_rest","_law_found"] z1P T mx (by decide +kernel) rfl (fun _ _ _ _ _ _ us hl=>(by obtain ⟨_,_,_,_,rfl⟩:=ar4 hl;rfl)) fun hcd hr nd =>
  (z7 (y9 4 nd (z0p Z0)) (z7 (z0A PassesOwn.never rfl (J9 rfl z_range (w8 rfl z_len (z6 (z0 1) Z0))) (j7 5 nd) (z7 (s_if (SW.sc (z8r (x6 (z0U rfl z_isinstance rfl z_str (by decide +kernel) (by decide) (z0 3))) (z5u (sc_c z79 (z0 3) (Z7 (Z7 (z0 0) Z1) (z0 5)))))) (z7 (z19 (x4 (z0 4) (z0 5))) Z2) Z2) (z7 (s_if (SW.sc (z8r (z01 (x6 (z0U rfl z_isinstance rfl z_str (by decide +kernel) (by decide) (z0 3)))) (z5u (zg3 (sc_c z79 (z0 3) (J0 (N':=["_law_homes_here","_law_to"]) (cap:=[some 1,none]) rfl (v8 (by first | rfl | kernel_rfl!)) (v5 (Z7 (Z7 (z0 0) Z1) (z0 5))) (fun _ _ _ _=>(Z6 1 (show (["_law_homes_here","_law_to"]:List Str).Nodup by decide +kernel))) (fun _ _ _ _=>Y5) (fun _ _ _ _=>(Z7 (z0 0) (z0 1))))))))) (z7 (z19 (x4 (z0 4) (z0 5))) Z2) Z2) Z2))) (z7 (z3M 6 (N':=["_law_homes_here","_law_cut","_law_one"]) (cap:=[some 1,some 2,none]) rfl (v8 (by first | rfl | kernel_rfl!)) (J9 rfl z_range (w8 rfl z_len (z6 (z0 1) Z0))) (fun _ _ _ _=>(Z6 2 (show (["_law_homes_here","_law_cut","_law_one"]:List Str).Nodup by decide +kernel))) (fun _ _ _ _=>(z0b (sc_c (z1S (hu30 hr)) (Z7 (z0 0) (z0 2)) (z0 1)))) (fun _ _ _ _=>(z0 2)) nd) (z7 (z3M 7 (N':=["_law_chosen","_law_one"]) (cap:=[some 4,none]) rfl (v8 (by first | rfl | kernel_rfl!)) (x8 (z0 6)) (fun _ _ _ _=>(Z6 1 (show (["_law_chosen","_law_one"]:List Str).Nodup by decide +kernel))) (fun _ _ _ _=>(z0b (sc_c z79 (z0 1) (z0 0)))) (fun _ _ _ _=>(z0 1)) nd) (z7 (z3M 8 (N':=["_law_chosen","_law_one"]) (cap:=[some 4,none]) rfl (v8 (by first | rfl | kernel_rfl!)) (x8 (z0 6)) (fun _ _ _ _=>(Z6 1 (show (["_law_chosen","_law_one"]:List Str).Nodup by decide +kernel))) (fun _ _ _ _=>(z0b (sc_c z26 (z0 1) (z0 0)))) (fun _ _ _ _=>(z0 1)) nd) (z7 (s_if (SW.sc (z2W (sc_c z5z (w8 rfl z_len (z6 (z0 7) Z0)) Z1) (z28 (sc_c z5z (w8 rfl z_len (z6 (z0 8) Z0)) Z1)))) (z7 (j9 z2e) Z2) Z2) (z7 (y9 9 nd (zq2 rfl z_list (z6 (z0 1) Z0))) (z7 (z0A PassesOwn.never rfl (x8 (z0 7)) (j7 5 nd) (z7 (z4k (Z7 (z0 7) Z1) (z7U (z0 9) (z0 5))) Z2)) (z7 (z0A PassesOwn.never rfl (x8 (z0 8)) (j7 5 nd) (z7 (z4k (Z7 (z0 8) Z1) (z7U (z0 9) (z0 5))) Z2)) (z7 (j9 (z0 9)) Z2))))))))))
noncomputable def z1n:G->M Out :=
 (z9 (z2A 2 [none] (z0c (e2 fIx (eVar 0) (fun _=>pure (.int 0)))) (gN 0) (fun _=>pure true) (fun _=>pure (.int 0))) (z9 (sIf (cNot (cVal (eIsi "tuple" (eVar 1)))) (z9 (sRet (fun _=>pure .non)) bNil) bNil) (z9 (sFor (z0c (eVar 1)) (gN 3) (z9 (sIf (cOr (cNot (cVal (eFn 3 J5 (z8 (eVar 3) (z8 (fun _=>pure (.int 2)) (z8 (fun _=>pure (.int 2)) aNil)))))) (cNot (cVal (eFn 3 J6 (z8 (e2 fIx (eVar 3) (fun _=>pure (.int 0))) (z8 (fun _=>pure (.int 0)) (z8 (Z5 fLen (z8 (eVar 2) aNil)) aNil))))))) (z9 (sRet (fun _=>pure .non)) bNil) bNil) (z9 (sIf (cNot (cVal (eFn 1 v7 (z8 (e2 fIx (eVar 3) (fun _=>pure (.int 1))) aNil)))) (z9 (sIf (cOr (cNot (cVal (eFn 3 J6 (z8 (e2 fIx (eVar 3) (fun _=>pure (.int 1))) (z8 (fun _=>pure (.int 0)) (z8 (Z5 fLen (z8 (eVar 2) aNil)) aNil)))))) (fun γ=>do let d ← e2 (fEqX true) (e2 fIx (eVar 2) (e2 fIx (eVar 3) (fun _=>pure (.int 1)))) (e2 fIx (eVar 3) (fun _=>pure (.int 1))) γ;asB d)) (z9 (sRet (fun _=>pure .non)) bNil) bNil) bNil) bNil) (z9 (sAsg (eFn 4 z14 (z8 (eVar 0) (z8 (eVar 2) (z8 (e2 fIx (eVar 3) (fun _=>pure (.int 0))) (z8 (e2 fIx (eVar 3) (fun _=>pure (.int 1))) aNil))))) (gN 2)) (z9 (sIf (fun γ=>do let d ← e2 (fIs false) (eVar 2) (fun _=>pure .non) γ;asB d) (z9 (sRet (fun _=>pure .non)) bNil) bNil) bNil))))) (z9 (sRet (eVar 2)) bNil))))
noncomputable def z0y:List D->M D:=fun ds=>cln (runF 4 z1n ds)
theorem z7r (T:Y0 K "_law_cuts_end" (top 39)) (mx:Mx K mg "_law_cuts_end") (z_isinstance:mg "isinstance" = none) (z_len:mg "len" = none) (z_tuple:mg "tuple" = none) (F__law_good_name:Fn P w K mg base 1 "_law_good_name" 1 v7) (F__law_halved:Fn P w K mg base 1 "_law_halved" 4 z14) (F__law_number:Fn P w K mg base 1 "_law_number" 3 J6) (F__law_tuple:Fn P w K mg base 1 "_law_tuple" 3 J5):Fn P w K mg base 2 "_law_cuts_end" 2 z0y :=
 dfC ["_law_machine_here","_law_cuts","_law_homes_here","_law_pair"] z1n T mx (by decide +kernel) rfl (fun _ _ _ _ _ _ us hl=>(by obtain ⟨_,_,rfl⟩:=ar2 hl;rfl)) fun hcd hr nd =>
  (z7 (z3M 2 (N':=["_law_one"]) (cap:=[none]) rfl (v8 (by first | rfl | kernel_rfl!)) (v5 (Z7 (z0 0) Z1)) (fun _ _ _ _=>(Z6 0 (show (["_law_one"]:List Str).Nodup by decide +kernel))) (fun _ _ _ _=>Y5) (fun _ _ _ _=>Z1) nd) (z7 (s_if (z01 (x6 (z0U rfl z_isinstance rfl z_tuple (by decide +kernel) (by decide) (z0 1)))) (z7 (j9 z2e) Z2) Z2) (z7 (z0A PassesOwn.never rfl (v5 (z0 1)) (j7 3 nd) (z7 (s_if (SW.sc (z2W (z01 (x6 (Z4 F__law_tuple (hr.mono (by decide)) rfl (z6 (z0 3) (z6 Z1 (z6 Z1 Z0)))))) (z28 (z01 (x6 (Z4 F__law_number (hr.mono (by decide)) rfl (z6 (Z7 (z0 3) Z1) (z6 Z1 (z6 (w8 rfl z_len (z6 (z0 2) Z0)) Z0))))))))) (z7 (j9 z2e) Z2) Z2) (z7 (s_if (z01 (x6 (Z4 F__law_good_name (hr.mono (by decide)) rfl (z6 (Z7 (z0 3) Z1) Z0)))) (z7 (s_if (SW.sc (z2W (z01 (x6 (Z4 F__law_number (hr.mono (by decide)) rfl (z6 (Z7 (z0 3) Z1) (z6 Z1 (z6 (w8 rfl z_len (z6 (z0 2) Z0)) Z0)))))) (z28 (sc_c (z96 (hu30 hr)) (Z7 (z0 2) (Z7 (z0 3) Z1)) (Z7 (z0 3) Z1))))) (z7 (j9 z2e) Z2) Z2) Z2) Z2) (z7 (y9 2 nd (Z4 F__law_halved (hr.mono (by decide)) rfl (z6 (z0 0) (z6 (z0 2) (z6 (Z7 (z0 3) Z1) (z6 (Z7 (z0 3) Z1) Z0)))))) (z7 (s_if (sc_c zK1 (z0 2) z2e) (z7 (j9 z2e) Z2) Z2) Z2))))) (z7 (j9 (z0 2)) Z2))))
noncomputable def z0r:G->M Out :=
 (z9 (sIf (cOr (cNot (cVal (eFn 3 J5 (z8 (eVar 1) (z8 (fun _=>pure (.int 2)) (z8 (fun _=>pure (.int 2)) aNil)))))) (cNot (cVal (eFn 2 z12 (z8 (eVar 0) (z8 (e2 fIx (eVar 1) (fun _=>pure (.int 0))) aNil)))))) (z9 (sRet (fun _=>pure (.bl false))) bNil) bNil) (z9 (sAsg (eFn 2 z0y (z8 (eVar 0) (z8 (e2 fIx (eVar 1) (fun _=>pure (.int 1))) aNil))) (gN 2)) (z9 (sRet (eAnd (e2 (fIs true) (eVar 2) (fun _=>pure .non)) (e2 (fEqX false) (eFn 1 z05 (z8 (eVar 2) aNil)) (e2 fIx (eVar 1) (fun _=>pure (.int 0)))))) bNil)))
noncomputable def z0n:List D->M D:=fun ds=>cln (runF 3 z0r ds)
theorem z4A (T:Y0 K "_law_classes_right" (top 40)) (mx:Mx K mg "_law_classes_right") (F__law_cuts_end:Fn P w K mg base 2 "_law_cuts_end" 2 z0y) (F__law_numbered:Fn P w K mg base 1 "_law_numbered" 1 z05) (F__law_steady:Fn P w K mg base 2 "_law_steady" 2 z12) (F__law_tuple:Fn P w K mg base 1 "_law_tuple" 3 J5):Fn P w K mg base 3 "_law_classes_right" 2 z0n :=
 dfC ["_law_machine_here","_law_thing","_law_homes_here"] z0r T mx (by decide +kernel) rfl (fun _ _ _ _ _ _ us hl=>(by obtain ⟨_,_,rfl⟩:=ar2 hl;rfl)) fun hcd hr nd =>
  (z7 (s_if (SW.sc (z2W (z01 (x6 (Z4 F__law_tuple (hr.mono (by decide)) rfl (z6 (z0 1) (z6 Z1 (z6 Z1 Z0)))))) (z28 (z01 (x6 (Z4 F__law_steady (hr.mono (by decide)) rfl (z6 (z0 0) (z6 (Z7 (z0 1) Z1) Z0)))))))) (z7 (j9 z25) Z2) Z2) (z7 (y9 2 nd (Z4 F__law_cuts_end (hr.mono (by decide)) rfl (z6 (z0 0) (z6 (Z7 (z0 1) Z1) Z0)))) (z7 (j9 (z0m (se_c z6n (z0 2) z2e) (z18 (se_c (z1S (hu30 hr)) (Z4 F__law_numbered (hr.mono (by decide)) rfl (z6 (z0 2) Z0)) (Z7 (z0 1) Z1))))) Z2)))
noncomputable def z23:G->M Out :=
 (z9 (sAsg (eRng false (Z5 fLen (z8 (e2 fIx (eVar 1) (fun _=>pure (.int 0))) aNil))) (gN 3)) (z9 (sFor (z02 (eFn 2 Z3 (z8 (eVar 0) (z8 (e2 fAdd (eVar 2) (fun _=>pure (.int 1))) aNil)))) (gN 4) (z9 (z0t (eM1 y8 (eVar 3) (eFn 2 Z3 (z8 (eVar 0) (z8 (Z5 fLen (z8 (e2 fIx (eVar 1) (fun _=>pure (.int 0))) aNil)) aNil))))) bNil)) (z9 (sAsg (eLst aNil) (gN 5)) (z9 (sFor (z02 (Z5 fLen (z8 (eVar 3) aNil))) (gN 4) (z9 (z0t (eM1 y8 (eVar 5) (eM1 z24 (eVar 3) (eFn 2 Z3 (z8 (eVar 0) (z8 (Z5 fLen (z8 (eVar 3) aNil)) aNil)))))) bNil)) (z9 (sAsg (eLst aNil) (gN 6)) (z9 (sFor (orE (z0c (eVar 5)) (z09 (eVar 5))) (gN 7) (z9 (sAsg (eLst aNil) (gN 8)) (z9 (sFor (orE (z0c (e2 fIx (e2 fIx (eVar 1) (fun _=>pure (.int 0))) (eVar 7))) (z09 (e2 fIx (e2 fIx (eVar 1) (fun _=>pure (.int 0))) (eVar 7)))) (gN 9) (z9 (z2A 10 [some 5,some 9,none] (z02 (Z5 fLen (z8 (eVar 5) aNil))) (gN 2) (fun γ=>do let d ← e2 (fEqX false) (e2 fIx (eVar 0) (eVar 2)) (eVar 1) γ;asB d) (eVar 2)) (z9 (sAsg (e2 fIx (eVar 10) (eFn 2 Z3 (z8 (eVar 0) (z8 (Z5 fLen (z8 (eVar 10) aNil)) aNil)))) (gN 11)) (z9 (sAsg (e2 fAdd (eVar 8) (x5 [some 11,some 0,none] (orE (z0c (eVar 10)) (z09 (eVar 10))) (gN 2) (cOr (fun γ=>do let d ← e2 (fEqX false) (eVar 2) (eVar 0) γ;asB d) (fun γ=>do let d ← e2 (fEq false) (eFn 2 Z3 (z8 (eVar 1) (z8 (fun _=>pure (.int 3)) aNil))) (fun _=>pure (.int 0)) γ;asB d)) (eVar 2))) (gN 8)) bNil)))) (z9 (z0t (eM1 y8 (eVar 6) (clE (Z5 Y3 (z8 (Z5 z0Y (z8 (eVar 8) aNil)) aNil))))) bNil)))) (z9 (sRet (eTup (z8 (eTup (z8 (Z5 Y3 (z8 (eVar 6) aNil)) (z8 (clE (Z5 Y3 (z8 (x5 [some 1,none] (orE (z0c (eVar 5)) (z09 (eVar 5))) (gN 1) (fun _=>pure true) (e2 fIx (e2 fIx (eVar 0) (fun _=>pure (.int 1))) (eVar 1))) aNil))) aNil))) (z8 (eVar 5) aNil)))) bNil)))))))
noncomputable def z20:List D->M D:=fun ds=>cln (runF 12 z23 ds)
theorem z9n (T:Y0 K "_law_copies" (top 41)) (mx:Mx K mg "_law_copies") (z_len:mg "len" = none) (z_list:mg "list" = none) (z_range:mg "range" = none) (z_sorted:mg "sorted" = none) (z_tuple:mg "tuple" = none) (F__law_draw:Fn P w K mg base 1 "_law_draw" 2 Z3):Fn P w K mg base 2 "_law_copies" 3 z20 :=
 dfC ["_law_pool_here","_law_base","_law_most","_law_kinds","_law_k","_law_raw","_law_steps","_law_kind","_law_ahead","_law_to","_law_mates","_law_sure"] z23 T mx (by decide +kernel) rfl (fun _ _ _ _ _ _ us hl=>(by obtain ⟨_,_,_,rfl⟩:=ar3 hl;rfl)) fun hcd hr nd =>
  (z7 (y9 3 nd (za2 rfl rfl z_list rfl z_range (w8 rfl z_len (z6 (Z7 (z0 1) Z1) Z0)))) (z7 (z0A PassesOwn.never rfl (J9 rfl z_range (Z4 F__law_draw (hr.mono (by decide)) rfl (z6 (z0 0) (z6 (z0w (z0 2) Z1) Z0)))) (j7 4 nd) (z7 (z19 (x4 (z0 3) (Z4 F__law_draw (hr.mono (by decide)) rfl (z6 (z0 0) (z6 (w8 rfl z_len (z6 (Z7 (z0 1) Z1) Z0)) Z0))))) Z2)) (z7 (y9 5 nd (z0p Z0)) (z7 (z0A PassesOwn.never rfl (J9 rfl z_range (w8 rfl z_len (z6 (z0 3) Z0))) (j7 4 nd) (z7 (z19 (x4 (z0 5) (z6K (z0 3) (Z4 F__law_draw (hr.mono (by decide)) rfl (z6 (z0 0) (z6 (w8 rfl z_len (z6 (z0 3) Z0)) Z0)))))) Z2)) (z7 (y9 6 nd (z0p Z0)) (z7 (z0A PassesOwn.never rfl (ze1 (v5 (z0 5)) (x8 (z0 5))) (j7 7 nd) (z7 (y9 8 nd (z0p Z0)) (z7 (z0A PassesOwn.never rfl (ze1 (v5 (Z7 (Z7 (z0 1) Z1) (z0 7))) (x8 (Z7 (Z7 (z0 1) Z1) (z0 7)))) (j7 9 nd) (z7 (z3M 10 (N':=["_law_raw","_law_to","_law_one"]) (cap:=[some 5,some 9,none]) rfl (v8 (by first | rfl | kernel_rfl!)) (J9 rfl z_range (w8 rfl z_len (z6 (z0 5) Z0))) (fun _ _ _ _=>(Z6 2 (show (["_law_raw","_law_to","_law_one"]:List Str).Nodup by decide +kernel))) (fun _ _ _ _=>(z0b (sc_c (z1S (hu30 hr)) (Z7 (z0 0) (z0 2)) (z0 1)))) (fun _ _ _ _=>(z0 2)) nd) (z7 (y9 11 nd (Z7 (z0 10) (Z4 F__law_draw (hr.mono (by decide)) rfl (z6 (z0 0) (z6 (w8 rfl z_len (z6 (z0 10) Z0)) Z0))))) (z7 (y9 8 nd (z0w (z0 8) (J0 (N':=["_law_sure","_law_pool_here","_law_one"]) (cap:=[some 11,some 0,none]) rfl (v8 (by first | rfl | kernel_rfl!)) (ze1 (v5 (z0 10)) (x8 (z0 10))) (fun _ _ _ _=>(Z6 2 (show (["_law_sure","_law_pool_here","_law_one"]:List Str).Nodup by decide +kernel))) (fun _ _ _ _=>(z0b (SW.sc (z2W (sc_c (z1S (hu30 hr)) (z0 2) (z0 0)) (z28 (sc_c z5z (Z4 F__law_draw (hr.mono (by decide)) rfl (z6 (z0 1) (z6 Z1 Z0))) Z1)))))) (fun _ _ _ _=>(z0 2))))) Z2)))) (z7 (z19 (x4 (z0 6) (z0x (Y6 rfl z_tuple (z6 (z51 rfl rfl z_sorted (z6 (z0 8) Z0)) Z0))))) Z2)))) (z7 (j9 (z2v (z6 (z2v (z6 (Y6 rfl z_tuple (z6 (z0 6) Z0)) (z6 (z0x (Y6 rfl z_tuple (z6 (J0 (N':=["_law_base","_law_kind"]) (cap:=[some 1,none]) rfl (v8 (by first | rfl | kernel_rfl!)) (ze1 (v5 (z0 5)) (x8 (z0 5))) (fun _ _ _ _=>(Z6 1 (show (["_law_base","_law_kind"]:List Str).Nodup by decide +kernel))) (fun _ _ _ _=>Y5) (fun _ _ _ _=>(Z7 (Z7 (z0 0) Z1) (z0 1)))) Z0))) Z0))) (z6 (z0 5) Z0)))) Z2)))))))
noncomputable def zO4:G->M Out :=
 (z9 (sAsg (eFn 1 z1M (z8 (eVar 0) aNil)) (gN 1)) (z9 (sAsg (eFn 2 Z3 (z8 (eVar 1) (z8 (fun _=>pure (.int 3)) aNil))) (gN 2)) (z9 (sAsg (eFn 2 z1l (z8 (eVar 1) (z8 (eFn 2 Z3 (z8 (eVar 1) (z8 (fun _=>pure (.int 4)) aNil))) aNil))) (gN 3)) (z9 (sAsg (eFn 3 z20 (z8 (eVar 1) (z8 (eFn 3 z0M (z8 (eVar 1) (z8 (eVar 3) (z8 (fun _=>pure (.int 5)) aNil)))) (z8 (fun _=>pure (.int 6)) aNil)))) (gT 2 (z0q (gN 4) (z0q (gN 5) z3T)))) (z9 (sIf (fun γ=>do let d ← e2 (fEq false) (eVar 2) (fun _=>pure (.int 0)) γ;asB d) (z9 (sAsg (eFn 3 z0M (z8 (eVar 1) (z8 (eVar 3) (z8 (fun _=>pure (.int 9)) aNil)))) (gN 4)) bNil) bNil) (z9 (sAsg (eFn 1 z2a (z8 (eVar 4) aNil)) (gN 6)) (z9 (sIf (cNot (cVal (eFn 2 z0n (z8 (eVar 4) (z8 (eVar 6) aNil))))) (z9 (sRet (fun _=>pure (.bl false))) bNil) bNil) (z9 (sIf (fun γ=>do let d ← e2 (fEqX true) (e2 fIx (eVar 6) (fun _=>pure (.int 0))) (eFn 1 z05 (z8 (eFn 1 z2D (z8 (eVar 4) aNil)) aNil)) γ;asB d) (z9 (sRet (fun _=>pure (.bl false))) bNil) bNil) (z9 (sRet (eAnd (eFn 2 z2x (z8 (eFn 2 z1p (z8 (eVar 4) (z8 (eVar 6) aNil))) (z8 (fun _=>pure (.bl true)) aNil))) (e2 (fEqX false) (eFn 1 z2a (z8 (eVar 4) aNil)) (eVar 6)))) bNil)))))))))
noncomputable def zS7:List D->M D:=runF 7 zO4
theorem zR4:FnScope ["_law_script","_law_pool_here","_law_choice","_law_names_here","_law_machine_here","_law_raw","_law_found"] ["_law_script"] (j8 (top 42)):=⟨rfl,rfl,rfl,by decide +kernel,rfl,by decide +kernel,by decide +kernel⟩
end FT
set_option maxHeartbeats 2000000
namespace FT
open PySem PySem.Spec PyProof.Rows L2
theorem zO2 (g0:Int) (gr sm:List Int) (s c:Int) (r:AH) (n:Int) (hn:0<n) (hn2:n<1073741824) (hg:gr.length≤63) :
 ∃ gr',gr'.length≤gr.length+1/\Z3 [.ref 2,.int n] (Pool (g0 :: gr) sm s c r)=.ok (.int (g0 % n)) (Pool gr' sm s c r):=by
 unfold Z3 runF z0u Pool z1c
 have hl:gr.length≤sizeLine:=Nat.le_trans hg (by decide)
 by_cases h0:g0 / n=0
 ·refine ⟨gr,by omega,?_⟩
  simp [z9,bNil,sIf,sAsg,sRet,z0t,e2,Z5,z8,aNil,eVar,fIx,seqD,getL,fLen,fGt,fCmp,fI,asB,gIx,gN,fSet,fDiv,fIC,eM1,z1J,z24,updL,fEq,eqD,fMod,atI,ixN,hn,hn2,h0,seqIndex?,hl]
 ·refine ⟨g0 / n :: gr,by simp,?_⟩
  simp [z9,bNil,sIf,sAsg,sRet,z0t,e2,Z5,z8,aNil,eVar,fIx,seqD,getL,fLen,fGt,fCmp,fI,asB,gIx,gN,fSet,fDiv,fIC,eM1,z1J,z24,updL,fEq,eqD,fMod,atI,ixN,hn,hn2,h0]
theorem zL1 (sm:List Int) (s c:Int) (r:AH) (n:Int) (hn:0<n) (hn2:n<1073741824) (hs:0≤s) (hs2:s<2147483647) (hc:0≤c) (hc2:c<1000000) (hm:sm.length≤63) :
 ∃ s' d,Z3 [.ref 2,.int n] (Pool [] sm s c r)=.ok (.int d) (Pool [] sm s' (c+1) r)/\0≤d/\d<n/\0≤s'/\s'<2147483647:=by
 have k1:-18446744073709551616<c+1:=by omega
 have k2:c+1<18446744073709551616:=by omega
 have k3:-18446744073709551616<s:=by omega
 have k4:s<18446744073709551616:=by omega
 have key:∀ x:Int,(∃ y:Int,Z3 [.ref 2,.int n] (Pool [] sm s c r)=.ok (.int ((((s * 48271+x % 2147483629 * ((c+1) * (c+1)+1)+97 * (c+1)) % 2147483647) ^ 5) % 2147483629 / 64 % n)) (Pool [] sm ((s * 48271+x % 2147483629 * ((c+1) * (c+1)+1)+97 * (c+1)) % 2147483647) (c+1) r)) ->
  ∃ s' d,Z3 [.ref 2,.int n] (Pool [] sm s c r)=.ok (.int d) (Pool [] sm s' (c+1) r)/\0≤d/\d<n/\0≤s'/\s'<2147483647:=fun x ⟨_,e⟩ =>
  ⟨_,_,e,Int.emod_nonneg _ (by omega),Int.emod_lt_of_pos _ hn,Int.emod_nonneg _ (by decide),Int.emod_lt_of_pos _ (by decide)⟩
 have p1:∀ z:Int,-18446744073709551616<z % 2147483647:=fun z=>by omega
 have p2:∀ z:Int,z % 2147483647<18446744073709551616:=fun z=>by omega
 have p3:∀ z:Int,-18446744073709551616<z % 2147483629:=fun z=>by omega
 have p4:∀ z:Int,z % 2147483629<18446744073709551616:=fun z=>by omega
 cases sm with
 | nil =>
  refine key 0 ⟨0,?_⟩
  unfold Z3 runF z0u Pool z1c
  simp [z9,bNil,sIf,sAsg,sRet,z0t,e2,Z5,z8,aNil,eVar,fIx,seqD,getL,fLen,fGt,fCmp,fI,asB,gIx,gN,fSet,fDiv,fIC,eM1,z1J,z24,updL,fEq,eqD,fMod,fAdd,fMul,z4s,fPow,atI,ixN,hn,hn2,k1,k2,k3,k4,p1,p2,p3,p4]
 | cons m0 sm =>
  have hl:(0:Int)<(sm.length:Int)+1:=by omega
  have hi:0≤(c+1) % ((sm.length:Int)+1):=Int.emod_nonneg _ (by omega)
  have hi2:(c+1) % ((sm.length:Int)+1)<(sm.length:Int)+1:=Int.emod_lt_of_pos _ hl
  obtain ⟨x,hx⟩:∃ x,(D.int m0 :: sm.map D.int)[((c+1) % ((sm.length:Int)+1)).toNat]?=some (.int x):=by
   have e:(D.int m0 :: sm.map D.int)=(m0 :: sm).map D.int:=rfl
   rw [e,List.getElem?_map,List.getElem?_eq_getElem (by simp;omega)]
   exact ⟨_,rfl⟩
  have hx2:∀ hj,(D.int m0 :: List.map D.int sm)[((c+1) % ((sm.length:Int)+1)).toNat]'hj=D.int x:=fun hj=>Option.some.inj ((List.getElem?_eq_getElem hj).symm.trans hx)
  refine key x ⟨0,?_⟩
  unfold Z3 runF z0u Pool z1c
  simp [z9,bNil,sIf,sAsg,sRet,z0t,e2,Z5,z8,aNil,eVar,fIx,seqD,getL,fLen,fGt,fCmp,fI,asB,gIx,gN,fSet,fDiv,fIC,eM1,z1J,z24,updL,fEq,eqD,fMod,fAdd,fMul,z4s,fPow,atI,ixN,hn,hn2,k1,k2,k3,k4,p1,p2,p3,p4,hi,hi2,hl,hx,hx2]
theorem draw {h:AH}{k n:Int}{r:AH}(p:PS h k r) (hk:k<1000000) (hn:0<n) (hn2:n<1073741824):∃ d h',Z3 [.ref 2,.int n] h=.ok (.int d) h'/\0≤d/\d<n/\PS h' (k+1) r:=by
 obtain ⟨gr,sm,s,c,rfl,h1,h2,h3,h4,h5,h6⟩:=p
 cases gr with
 | nil =>
  obtain ⟨s',d,e,q1,q2,q3,q4⟩:=zL1 sm s c r n hn hn2 h1 h2 h3 (by omega) h6
  exact ⟨d,_,e,q1,q2,[],sm,s',c+1,rfl,q3,q4,by omega,by omega,by simp,h6⟩
 | cons g0 gr =>
  simp at h5
  obtain ⟨gr',l,e⟩:=zO2 g0 gr sm s c r n hn hn2 (by omega)
  exact ⟨_,_,e,Int.emod_nonneg _ (by omega),Int.emod_lt_of_pos _ hn,gr',sm,s,c,rfl,h1,h2,h3,by omega,by omega,h6⟩
theorem z5m {h:AH}{k n:Int}{r:AH}{Q:D->AH->Prop}(p:PS h k r) (hk:k<1000000) (hn:0<n) (hn2:n<1073741824) (z:∀ d h',0≤d->d<n->PS h' (k+1) r->Q (.int d) h'):W (Z3 [.ref 2,.int n]) h Q:=by
 obtain ⟨d,h',e,d0,d1,p'⟩:=draw p hk hn hn2
 exact ⟨_,_,e,z d h' d0 d1 p'⟩
theorem zI5 {ns:List Int}(hn:ns.length≤63):W (z1M [.fl (ns.map .int)]) [] (fun d h'=>d=.ref 2/\PS h' 0 []):=by
 refine z5U ?_
 show W (z0Z [some (.fl (ns.map .int)),none]) [] _
 unfold z0Z z2A
 rw [w_cons];simp only [List.set_cons_succ,List.set_cons_zero,Z8,W_pure,Y7,e2,eVar,gN,sAsg]
 have src:∀ (γ:G) (h:AH),γ[0]?=some (some (.fl (ns.map .int)))->z09 (eVar 0) γ h=.ok (.con (ns.map .int)) h:=fun γ h e=>by
  unfold z09 eVar
  rw [e]
  rfl
 refine W.of (z2r (src:=.con (ns.map .int)) (fun d=>match d with | .int t=>decide (1000000000000000000≤t) | _=>false) (fun d=>d) (src _ _ rfl) (fun _=>trivial) (by simp [Src.items];omega) fun d hd=>?_) ?_
 ·obtain ⟨t,ht,rfl⟩:=List.mem_map.mp hd
  refine ⟨[some (.int t)],fun h=>rfl,fun j=>?_,fun _ j=>rfl⟩
  simp only [List.getElem?_cons_zero,bindM,pureM,zA7,zG8,z1E]
 rw [show (Src.con (ns.map D.int)).items=ns.map D.int from rfl,z1H]
 rw [w_cons];simp only [List.getElem?_cons_succ,List.getElem?_cons_zero,List.length_nil,Z8,W_pure,z8,aNil,z1w,eLst,eVar,sRet]
 refine W.of (z2r (src:=.con (ns.map .int)) (fun d=>match d with | .int t=>decide (t<1000000000000000000) | _=>false) (fun d=>d) (src _ _ rfl) (fun _=>trivial) (by simp [Src.items];omega) fun d hd=>?_) ?_
 ·obtain ⟨t,ht,rfl⟩:=List.mem_map.mp hd
  refine ⟨[some (.int t)],fun h=>rfl,fun j=>?_,fun _ j=>rfl⟩
  simp only [List.getElem?_cons_zero,bindM,pureM,zA7,z9s,z1E]
 rw [show (Src.con (ns.map D.int)).items=ns.map D.int from rfl,z1H]
 refine W.of (a:=.ref 2) (h':=Pool (ns.filter fun i=>decide (1000000000000000000≤i)) (ns.filter fun i=>decide (i<1000000000000000000)) 5 0 []) ?_ ?_
 ·unfold newL
  rw [if_pos (by simp;decide)]
  rfl
 ·refine ⟨rfl,_,_,5,0,rfl,by decide,by decide,by decide,by decide,?_,?_⟩
  ·exact Nat.le_trans (List.length_filter_le _ _) hn
  ·exact Nat.le_trans (List.length_filter_le _ _) hn
theorem z7I {h:AH}{k:Int}{r:AH}{i:Nat}{start:Str}{ns:List Str}(p:PS h k r) (hk:k<900000) (lo:low start) (hs:start.length≤4) (e:r[i]?=some (.lst (ns.map .str))) (hn:ns.length≤7) :
 W (runF 9 z0v [.ref 2,.str start,.ref (i+3)]) h (fun d h'=>∃ x j,d=.str x/\PS h' (k+5) (r++j)/\z8o x/\x∉ns):=by
 refine z5U ?_
 show W (z0v [some (.ref 2),some (.str start),some (.ref (i+3)),none,none,none,none,none,none]) h _
 unfold z0v
 rw [show ("abcdefghijklmnopqrstuvwxyz":Str)=abc from rfl]
 rw [w_cons];simp only [List.set_cons_succ,List.set_cons_zero,Z8,W_pure,Y7,e2,eVar,gN,sAsg]
 rw [w_cons];simp only [List.getElem?_cons_succ,List.getElem?_cons_zero,List.set_cons_succ,List.set_cons_zero,Z8,W_pure,Y7,eVar,gN,sAsg]
 rw [w_cons]
 refine z1e (fun c γ h=>∃ x w,γ=[some (.ref 2),some (.str start),some (.ref (i+3)),some (.str abc),some (.str x),w,none,none,none]/\PS h (k+1+c) r/\low x/\x.length≤4+c) (fun _ _=>False) ?_
 simp only [List.getElem?_cons_zero,List.length_cons,List.length_nil,Nat.reduceAdd,z5O,Z8,z4U,W_pure,z8,aNil,Y7,z1w,eFn,eVar,if_true]
 refine z5m p (by omega) (by decide) (by decide) fun d h1 d0 d1 p1=>?_
 refine ⟨d.toNat,by rw [Int.toNat_of_nonneg d0],by omega,⟨start,none,rfl,by simpa using p1,lo,by omega⟩,?_,?_,fun _ _ q=>q.elim⟩
 ·rintro c γ h2 hc ⟨x,w,rfl,p2,lx,hx⟩
  rw [w_cons];simp only [List.getElem?_cons_succ,List.getElem?_cons_zero,List.length_cons,List.length_nil,List.set_cons_succ,List.set_cons_zero,Nat.reduceAdd,z5O,Z8,z4U,W_pure,z8,aNil,Y7,e2,eFn,eVar,gN,if_true,sAsg,z5V]
  refine z5m p2 (by omega) (by decide) (by decide) fun d h1 d0 d1 p1=>?_
  refine z41 (k:=k) (r:=r) d0 d1 (by omega) ?_
  refine ⟨_,_,rfl,p1.up (by omega),z5r lx (by omega) (by omega),by rw [len_app,z3c];omega⟩
 rintro γ h2 ⟨x,w,rfl,p2,lx,hx⟩
 rw [w_cons];simp only [List.getElem?_cons_zero,List.length_cons,List.length_nil,List.set_cons_succ,List.set_cons_zero,Nat.reduceAdd,z5O,Z8,z4U,W_pure,z8,aNil,Y7,eFn,eVar,gN,if_true,sAsg]
 refine z5m (p2.up (show _≤k+4 by omega)) (by omega) (by decide) (by decide) fun l h3 l0 l1 p3=>?_
 rw [w_cons];simp only [List.set_cons_succ,List.set_cons_zero,Z8,W_pure,z8,aNil,Y7,eLst,gN,sAsg]
 rw [show [D.str "yes",D.str "no",D.str "not",D.str "and",D.str "or",D.str "step",D.str "some",D.str "all",D.str "next",D.str "once",D.str "ever",D.str "until",D.str "unless"]=words.map D.str from rfl]
 refine z6t p3 (by decide) fun h4 p4=>?_
 rw [w_cons]
 refine z1e (fun c γ h=>∃ w w',γ=[some (.ref 2),some (.str start),some (.ref (i+3)),some (.str abc),some (.str x),w,some (.int l),some (.ref (r.length+3)),w']/\PS h (k+5) (r++[.lst (words.map .str)])/\∀ c':Nat,c'<c->cand x l c'∈words∨cand x l c'∈ns) (fun d h=>∃ c:Nat,d=.str (cand x l c)/\cand x l c∉words/\cand x l c∉ns/\PS h (k+5) (r++[.lst (words.map .str)])) ?_
 rw [W_pure]
 refine ⟨26,rfl,by decide,⟨_,_,rfl,p4.up (by omega),fun c' hc=>by omega⟩,?_,?_,?_⟩
 ·rintro c γ h5 hc ⟨w,w',rfl,p5,hb⟩
  rw [w_cons];simp only [List.getElem?_cons_succ,List.getElem?_cons_zero,List.set_cons_succ,List.set_cons_zero,Z8,W_pure,zi5,Y7,e2,eVar,gN,sAsg]
  have m1:fMod (.int (l+c)) (.int 26)=pure (.int ((l+c) % 26)):=rfl
  rw [m1,W_pure]
  refine z41 (k:=k) (r:=r) (Int.emod_nonneg _ (by decide)) (Int.emod_lt_of_pos _ (by decide)) (by omega) ?_
  rw [w_cons];simp only [Bool.false_eq_true,List.getElem?_cons_succ,List.getElem?_cons_zero,Z8,z4U,W_pure,cAnd,Y7,if_false,sIf,z5V]
  refine W.of (zh1 p5 z3H) ?_
  rw [z1E,W_pure]
  by_cases q1:cand x l c∈words
  ·have:(decide (x++{ cps:=#[((l+(c:Int)) % 26).toNat+97] }∈words) != true)=false:=by
    rw [show decide (x++{ cps:=#[((l+(c:Int)) % 26).toNat+97] }∈words)=true from decide_eq_true q1];rfl
   rw [this]
   simp only [Bool.false_eq_true,if_false]
   refine ⟨_,_,rfl,p5,fun c' hc'=>?_⟩
   by_cases e':c'=c
   ·subst e';exact .inl q1
   ·exact hb c' (by omega)
  ·have:(decide (x++{ cps:=#[((l+(c:Int)) % 26).toNat+97] }∈words) != true)=true:=by
    rw [show decide (x++{ cps:=#[((l+(c:Int)) % 26).toNat+97] }∈words)=false from decide_eq_false q1];rfl
   rw [this]
   simp only [if_true]
   refine W.of (zh1 p5 (z3a e)) ?_
   by_cases q2:cand x l c∈ns
   ·have:(decide (x++{ cps:=#[((l+(c:Int)) % 26).toNat+97] }∈ns) != true)=false:=by
     rw [show decide (x++{ cps:=#[((l+(c:Int)) % 26).toNat+97] }∈ns)=true from decide_eq_true q2];rfl
    rw [this]
    simp only [Bool.false_eq_true,W_pure,z1E,if_false]
    refine ⟨_,_,rfl,p5,fun c' hc'=>?_⟩
    by_cases e':c'=c
    ·subst e';exact .inr q2
    ·exact hb c' (by omega)
   ·have:(decide (x++{ cps:=#[((l+(c:Int)) % 26).toNat+97] }∈ns) != true)=true:=by
     rw [show decide (x++{ cps:=#[((l+(c:Int)) % 26).toNat+97] }∈ns)=false from decide_eq_false q2];rfl
    rw [this]
    simp only [W_pure,z1E,if_true]
    rw [w_cons];simp only [List.getElem?_cons_succ,List.getElem?_cons_zero,Z8,W_pure,z1w,eVar,sRet]
    exact ⟨c,rfl,q1,q2,p5⟩
 ·rintro γ h5 ⟨w,w',rfl,p5,hb⟩
  exact (zA1 l0 hn hb).elim
 ·rintro d h5 ⟨c,rfl,q1,q2,p5⟩
  refine ⟨cand x l c,[.lst (words.map .str)],rfl,p5,⟨?_,?_,?_,q1⟩,q2⟩
  ·unfold cand;rw [len_app,z3c];omega
  ·unfold cand;rw [len_app,z3c];omega
  ·exact z5r lx (by omega) (by omega)
theorem zb3 {h:AH}{k:Int}{r:AH}{i:Nat}{start:Str}{ns:List Str}(p:PS h k r) (c:CL r) (hk:k<900000) (lo:low start) (hs:start.length≤4) (e:r[i]?=some (.lst (ns.map .str))) (hn:ns.length≤7) :
 W (z13 [.ref 2,.str start,.ref (i+3)]) h (fun d h'=>∃ x,d=.str x/\PS h' (k+5) r/\z8o x/\x∉ns) :=
 zH4 p c ((z7I p hk lo hs e hn).mono fun d h1 ⟨x,j,e,p1,g,n⟩=>⟨_,j,p1,by subst e;rfl,fun h2 p2=>⟨x,e,p2,g,n⟩⟩)
theorem zD4 {h:AH}{k:Int}{r:AH}{n:Nat}(p:PS h k r) (cl:CL r) (hk:k<800000) (hn:n≤8) {Q:D->AH->Prop}(z:∀ ns h',ns.length=n->NS ns->PS h' (k+45) (r++[.lst (ns.map .str)])->Q (.ref (r.length+3)) h') :
 W (z1l [.ref 2,.int n]) h Q:=by
 refine zG3 p cl ?_
 refine z5U ?_
 show W (z0D [some (.ref 2),some (.int n),none,none,none,none]) h _
 unfold z0D
 rw [show ("abcdefghijklmnopqrstuvwxyz":Str)=abc from rfl]
 refine zj9 (.str abc) _ rfl rfl ?_
 refine zj9 (.str "") _ rfl rfl ?_
 rw [w_cons]
 refine z1e (fun c γ h=>∃ x w,γ=[some (.ref 2),some (.int n),some (.str abc),some (.str x),w,none]/\PS h (k+1+c) r/\low x/\x.length≤c) (fun _ _=>False) ?_
 refine zP6 p cl ?_
 simp only [List.getElem?_cons_zero,List.length_cons,List.length_nil,List.set_cons_succ,List.set_cons_zero,Nat.reduceAdd,z5O,Z8,z4U,W_pure,z8,aNil,Y7,z1w,e2,eFn,eLst,eVar,if_true]
 refine z6t p (by decide) fun h1 p1=>?_
 refine z5m p1 (by omega) (by decide) (by decide) fun d h2 d0 d1 p2=>?_
 obtain ⟨v,hv,ea⟩:∃ v:Nat,v≤4/\atI [D.int 0,D.int 0,D.int 1,D.int 4] d=some (.int v):=by
  have:d=0∨d=1∨d=2∨d=3:=by omega
  rcases this with rfl | rfl | rfl | rfl
  ·exact ⟨0,by decide,rfl⟩
  ·exact ⟨0,by decide,rfl⟩
  ·exact ⟨1,by decide,rfl⟩
  ·exact ⟨4,by decide,rfl⟩
 refine zO6 p2 z3H ea ?_
 refine ⟨_,_,p2,rfl,fun h2 p2=>⟨v,rfl,by omega,⟨_,none,rfl,by simpa using p2,zn3,by rw [zk7];omega⟩,?_,?_,fun _ _ q=>q.elim⟩⟩
 ·rintro c γ h3 hc ⟨x,w,rfl,p3,lx,hx⟩
  rw [w_cons];simp only [List.getElem?_cons_succ,List.getElem?_cons_zero,List.length_cons,List.length_nil,List.set_cons_succ,List.set_cons_zero,Nat.reduceAdd,z5O,Z8,z4U,W_pure,z8,aNil,Y7,e2,eFn,eVar,gN,if_true,sAsg,z5V]
  refine z5m p3 (by omega) (by decide) (by decide) fun d h1 d0 d1 p1=>?_
  refine z41 (k:=k) (r:=r) d0 d1 (by omega) ?_
  refine ⟨_,_,rfl,p1.up (by omega),z5r lx (by omega) (by omega),by rw [len_app,z3c];omega⟩
 rintro γ h3 ⟨x,w,rfl,p3,lx,hx⟩
 refine z8g ?_
 simp only [List.set_cons_succ,List.set_cons_zero,Z8,W_pure,aNil,eLst]
 refine z6t p3 (by decide) fun h4 p4=>?_
 rw [w_cons]
 refine z1e (fun c γ h=>∃ ns w,γ=[some (.ref 2),some (.int n),some (.str abc),some (.str x),w,some (.ref (r.length+3))]/\PS h (k+5+5 * c) (r++[.lst (ns.map .str)])/\ns.length=c/\NS ns) (fun _ _=>False) ?_
 simp only [List.getElem?_cons_succ,List.getElem?_cons_zero,W_pure,Y7,z1w,eVar]
 refine ⟨n,rfl,by omega,⟨[],_,rfl,p4.up (by omega),rfl,⟨List.nodup_nil,by simp⟩⟩,?_,?_,fun _ _ q=>q.elim⟩
 ·rintro c γ h5 hc ⟨ns,w,rfl,p5,l5,n5⟩
  rw [w_cons];simp only [List.getElem?_cons_succ,List.getElem?_cons_zero,List.length_cons,List.length_nil,List.set_cons_succ,List.set_cons_zero,Nat.reduceAdd,z5H,z5O,Z8,z4U,W_pure,z8,aNil,Y7,eFn,eM1,eVar,if_true,z0t,z5V]
  refine z4t p5 z3H ?_
  refine (zb3 p5 (cl.put (z4W ns)) (by omega) lx (by omega) z3H (by omega)).mono fun y h6 ⟨z,ey,p6,gz,nz⟩=>?_
  subst ey
  refine z5Y p6 z3H (by simp;omega) fun h7 p7=>?_
  refine ⟨ns++[z],_,rfl,?_,by simp [l5],⟨?_,?_⟩⟩
  ·have:=p7.up (k':=k+5+5 * ((c+1:Nat):Int)) (by omega)
   simpa using this
  ·rw [List.nodup_append]
   refine ⟨n5.1,by simp,fun a ha b hb=>?_⟩
   simp at hb
   subst hb
   exact fun e=>nz (e ▸ ha)
  ·intro y hy
   rcases List.mem_append.mp hy with q | q
   ·exact n5.2 y q
   ·simp at q;subst q;exact gz
 ·rintro γ h5 ⟨ns,w,rfl,p5,l5,n5⟩
  exact zP5 _ rfl ⟨k+45,_,r.length,_,rfl,p5.up (by omega),Nat.le_refl _,z3H,z4W ns,fun h2 p2=>z ns h2 l5 n5 p2⟩
theorem z9O {x:D}{l:List Nat}{h:AH}(e:seqD x h=.ok (stD l) h) (hl:l.length≤2000) (hd:(setN l).length<64):z21 [x] h=.ok (.tup (stD (setN l))) h:=by
 have dl:(dedN l).length=(setN l).length:=by unfold setN;rw [x9]
 have e1:z0I [x] h=.ok (.ref h.length) (h++[.set (kN (dedN l))]):=by
  unfold z0I
  dsimp only
  rw [M.bind_ok e,z5t]
  dsimp only
  rw [if_pos (by rw [zi0];omega),zg4]
  rfl
 have e2:Y8 [.ref h.length] (h++[.set (kN (dedN l))])=.ok (.ref (h.length+1)) (h++[.set (kN (dedN l)),.lst (stD (setN l))]):=by
  unfold Y8
  dsimp only
  have g:getS h.length (h++[.set (kN (dedN l))])=.ok (kN (dedN l)) (h++[.set (kN (dedN l))]):=by
   unfold getS;rw [show (h++[O.set (kN (dedN l))])[h.length]?=some (.set (kN (dedN l))) by simp]
  rw [M.bind_ok g,z5C]
  dsimp only
  rw [if_pos (by unfold zN;rw [List.length_map];omega),z2g]
  unfold newL
  rw [if_pos (by rw [z0C,x9];unfold sizeLine;omega)]
  simp [setN]
 have e3:Y3 [.ref (h.length+1)] (h++[.set (kN (dedN l)),.lst (stD (setN l))])=.ok (.tup (stD (setN l))) (h++[.set (kN (dedN l)),.lst (stD (setN l))]):=by
  have ft:∀ i:Nat,Y3 [.ref i]=(do let x ← getL i;pure (.tup x)):=fun _=>rfl
  rw [ft]
  have g:getL (h.length+1) (h++[.set (kN (dedN l)),.lst (stD (setN l))])=.ok (stD (setN l)) (h++[.set (kN (dedN l)),.lst (stD (setN l))]):=by
   unfold getL;rw [show (h++[O.set (kN (dedN l)),O.lst (stD (setN l))])[h.length+1]?=some (.lst (stD (setN l))) by simp]
  rw [M.bind_ok g];rfl
 have e4:clE (Z5 Y3 (z8 (Z5 Y8 (z8 (Z5 z0I (z8 (eVar 0) aNil)) aNil)) aNil)) [some x] h=.ok (.tup (stD (setN l))) h:=by
  refine z1a (j:=[.set (kN (dedN l)),.lst (stD (setN l))]) ?_ (by simp only [J7];exact z08 fun _=>rfl)
  exact z00 (z00 (z00 (show eVar 0 [some x] h=.ok x h from rfl) e1) e2) e3
 have e5:runF 1 z2M [x] h=.ok (.tup (stD (setN l))) h:=z6Z (z1d (h1:=h) _ e4 ⟨rfl,rfl⟩)
 show cln (runF 1 z2M [x]) h=_
 refine z1a (j:=[]) (by rw [List.append_nil];exact e5) (by simp only [J7];exact z08 fun _=>rfl)
theorem zI9 {l:List Nat}{h:AH}{n:Nat}(e:h[n]?=some (.lst (stD l))) (hl:l.length≤2000) (hd:(setN l).length<64):z21 [.ref n] h=.ok (.tup (stD (setN l))) h:=z9O (by unfold seqD getL;dsimp only;rw [e]) hl hd
theorem zJ1 {i n:Nat}(h2:i<n):J6 [.int i,.int 0,.int n]=pure (.bl true):=by
 have h1:(0:Int)≤i:=by omega
 have h3:(i:Int)<n:=by omega
 show cln (runF 3 z04 [.int i,.int 0,.int n])=_
 rw [z5F (d:=.bl true),z4j]
 show z04 [some (.int i),some (.int 0),some (.int n)]=_
 unfold z04
 refine zr1 _ ?_
 simp only [List.getElem?_cons_succ,List.getElem?_cons_zero,z1E,z0Q,decide_eq_true h1,decide_eq_true h3,e3,eAnd,eIsi,eNot,eVar,if_true,z8H,zv2,z9s]
 rfl
theorem zP7 {xs:List D}{m n:Nat}(h0:m≤xs.length) (h1:xs.length≤n):J5 [.tup xs,.int m,.int n]=pure (.bl true):=by
 have h2:(xs.length:Int)≤n:=by omega
 have h3:(m:Int)≤xs.length:=by omega
 show cln (runF 3 z0f [.tup xs,.int m,.int n])=_
 rw [z5F (d:=.bl true),z4j]
 show z0f [some (.tup xs),some (.int m),some (.int n)]=_
 unfold z0f
 refine zr1 _ ?_
 simp only [List.getElem?_cons_succ,List.getElem?_cons_zero,z8,aNil,z1E,z0Q,decide_eq_true h2,decide_eq_true h3,e3,eAnd,Z5,eIsi,eVar,if_true,z7y,zv2,z5R]
 rfl
end FT
set_option maxHeartbeats 4000000
namespace FT
open PySem PySem.Spec PyProof.Rows L2
theorem zj6 {c:Nat}(h1:97≤c) (h2:c≤122):(Builtin.Str.occurrences "abcdefghijklmnopqrstuvwxyz" ⟨#[c]⟩ 0 ("abcdefghijklmnopqrstuvwxyz":Str).length 1).isEmpty=false:=by
 have:∀ k,k<26->(Builtin.Str.occurrences "abcdefghijklmnopqrstuvwxyz" ⟨#[k+97]⟩ 0 ("abcdefghijklmnopqrstuvwxyz":Str).length 1).isEmpty=false:=by decide +kernel
 have q:=this (c - 97) (by omega)
 rw [show c - 97+97=c by omega] at q
 exact q
theorem zS4 {h:AH}{s:Str}(g:z8o s):v7 [.str s] h=.ok (.bl true) h:=by
 obtain ⟨g1,g2,g3,g4⟩:=g
 obtain ⟨ws,hws⟩:∃ ws:List Str,ws=(["yes","no","not","and","or","step","some","all","next","once","ever","until","unless"]:List Str):=⟨_,rfl⟩
 show cln (runF 2 Y2 [.str s]) h=_
 refine z1a (j:=[.lst (ws.map .str)]) (z6Z ?_) rfl
 show W (Y2 [some (.str s),none]) h _
 unfold Y2
 refine zC0 (xs:=ws.map .str) (by rw [hws];simp) (fun h=>by rw [hws];rfl) ?_
 have ln:Z5 fLen (z8 (eVar 0) aNil) [some (.str s),some (.ref h.length)] (h++[.lst (ws.map .str)])=.ok (.int s.length) (h++[.lst (ws.map .str)]):=by
  have:s.length≤sizeLine:=Nat.le_trans g2 (by decide)
  simp [Z5,z8,aNil,eVar,fLen,this]
 have inw:e2 (fIn false) (eVar 0) (eVar 1) [some (.str s),some (.ref h.length)] (h++[.lst (ws.map .str)])=.ok (.bl (decide (s∈ws))) (h++[.lst (ws.map .str)]):=by
  refine e2_h (Z9 rfl) (Z9 rfl) ?_
  have g:getL h.length (h++[O.lst (ws.map .str)])=.ok (ws.map .str) (h++[.lst (ws.map .str)]):=by unfold getL;rw [z0O]
  unfold fIn seqD
  rw [M.bind_ok g,z48,z1R]
  simp [z0k]
 have test:cOr (cNot (cVal (eIsi "str" (eVar 0)))) (cOr (fun γ=>do let d ← e2 fLt (Z5 fLen (z8 (eVar 0) aNil)) (fun _=>pure (.int 1)) γ;asB d) (cOr (fun γ=>do let d ← e2 fGt (Z5 fLen (z8 (eVar 0) aNil)) (fun _=>pure (.int 8)) γ;asB d) (fun γ=>do let d ← e2 (fIn false) (eVar 0) (eVar 1) γ;asB d))) [some (.str s),some (.ref h.length)] (h++[.lst (ws.map .str)])=.ok false (h++[.lst (ws.map .str)]):=by
  refine zo9 (cn_h (b:=true) (cv_h (z8f (Z9 rfl) rfl))) (zo9 (cb_h (e2_h ln (y:=.int 1) rfl (by rw [z9s,decide_eq_false (by omega)];rfl))) (zo9 (cb_h (e2_h ln (y:=.int 8) rfl (by rw [zv0,decide_eq_false (by omega)];rfl))) ?_))
  refine (cb_h inw).trans ?_
  rw [decide_eq_false (by rw [hws];exact g4)]
 refine zo0 false test ?_
 rw [if_neg (by decide)]
 refine zr7 (z1d (.bl true) ?_ ⟨rfl,rfl⟩)
 refine (zm3 (xs:=[]) (j:=[]) (neg:=false) ?_ (by simp)).trans rfl
 rw [List.append_nil]
 refine (z2r (src:=.con (z1B s)) (fun _=>false) (fun d=>d) ?_ (fun _=>trivial) (by unfold z1B;show ((s.cps.toList.map _):List D).length≤_;rw [List.length_map,← len_str];omega) fun d hd=>?_).trans ?_
 ·rfl
 ·have hd:d∈z1B s:=hd
  unfold z1B at hd
  obtain ⟨c,hc,rfl⟩:=List.mem_map.mp hd
  obtain ⟨c1,c2⟩:=g3 c hc
  refine ⟨[some (.str ⟨#[c]⟩)],fun h=>rfl,fun j=>?_,fun q=>by cases q⟩
  show Res.ok ((!(Builtin.Str.occurrences "abcdefghijklmnopqrstuvwxyz" ⟨#[c]⟩ 0 ("abcdefghijklmnopqrstuvwxyz":Str).length 1).isEmpty) != true) _=_
  rw [zj6 c1 c2]
  rfl
 ·rw [show (Src.con (z1B s)).items.filter (fun _=>false)=[] by simp]
  exact (zq1 (by simp)).symm
section
variable {st:List (List Nat)}{mk:List (List Str)}{bl:Bl}
theorem zm6 {x:Nat}{s:Str}(hx:x<mk.length):z2X [maD st mk,.int (x:Nat),.str s]=pure (.bl (bear s mk x)):=by
 unfold z2X
 rw [z5F,z4j]
 show z47 [some (maD st mk),some (.int (x:Nat)),some (.str s)]=_
 unfold z47 bear
 refine zr1 _ ?_
 by_cases e:s = ""
 ·subst e
  simp only [Bool.bne_false,List.getElem?_cons_succ,List.getElem?_cons_zero,z1E,z0Q,decide_true,e2,eOr,eVar,zx7,if_true]
  rfl
 ·simp only [Bool.bne_false,Bool.false_eq_true,Bool.false_or,List.getElem?_cons_succ,List.getElem?_cons_zero,z1E,z0Q,bne_self_eq_false,decide_eq_false e,e2,eOr,eVar,zx7,if_false,zp6,zh5,ix_tup (zA0 hx)]
theorem zo8 {h:AH}(hs:st.length≤40):Y4 [maD st mk] h=.ok (.ref h.length) (h++[.dK (kvB [(0,List.range st.length)])]):=by
 show cln (runF 1 v3 [maD st mk]) h=_
 refine z4f (j:=[.dK (kvB [(0,List.range st.length)])]) (z6Z ?_) rfl (z6B h) (Nat.le_refl _) z0O (refB _)
 show W (v3 [some (maD st mk)]) h _
 unfold v3
 refine z1d (.ref h.length) ?_ ⟨rfl,rfl⟩
 refine zB9 (kk:=.inl 0) rfl rfl ?_
 rw [zO0 (tup:=true) (n:=st.length) (h1:=h++[.dK []]) (z00 (e2_h (Z9 rfl) (y:=.int 0) rfl (by rw [zh7];rfl)) (by rw [z5R,zs5];rfl)) (by omega),if_pos rfl,pureM];rfl
theorem z7F {h:AH}{b x:Nat}{d:D}(sq:SQ st) (lm:mk.length=st.length) (dc:Dic h b bl) (hx:x<st.length) (nl:(nx st x).length≤40) (ok:ByOk bl d):z2f [maD st mk,.ref b,.int (x:Nat),d] h=.ok (.bl (bel st mk bl d x)) h:=by
 refine zz5 (z6Z ?_) rfl
 show W (z27 [some (maD st mk),some (.ref b),some (.int (x:Nat)),some d]) h _
 unfold z27
 rcases ok with ⟨s,rfl⟩ | ⟨k,rfl,hk⟩
 ·refine zo0 true (cv_h (z8f (Z9 rfl) rfl)) ?_
  rw [if_pos rfl]
  exact zH7 (z1d _ (fn_h (ds:=[maD st mk,.int (x:Nat),.str s]) (ac_h (Z9 rfl) (ac_h (Z9 rfl) (ac_h (Z9 rfl) rfl))) rfl (by rw [zm6 (by omega)];rfl)) ⟨rfl,rfl⟩)
 ·refine zo0 false (cv_h (z8f (Z9 rfl) rfl)) ?_
  rw [if_neg (by decide)]
  refine zr7 (z1d (.bl (((nx st x).map fun o=>decide (o∈blk bl k)).any id)) (zK2 ?_) ⟨?_,rfl⟩)
  ·refine (z3V (src:=.con (stD (nx st x))) (l:=nx st x) (fun _=>true) (fun o=>.bl (decide (o∈blk bl k))) (z2w ?_) rfl (fun _=>trivial) (by omega) fun o ho=>⟨[some (.ref b),some (.int (k:Nat)),some (.int o)],fun h=>rfl,fun j=>rfl,fun _ j=>?_⟩).trans ?_
   ·exact e2_h (e2_h (Z9 rfl) (y:=.int 0) rfl (by rw [zh7];rfl)) (Z9 rfl) (by rw [zH8 hx];rfl)
   ·exact e2_h (Z9 rfl) (e2_h (Z9 rfl) (Z9 rfl) ((dc.app j).get hk)) (by rw [zB4];simp)
   ·rw [filter_tt,List.map_map]
    rfl
  ·rw [List.any_map]
   rfl
def prt (l:List Nat) (f:Nat->Bool):List (List Nat):=[l.filter f,l.filter fun x=>!f x].filter fun p=>decide (0<p.length)
theorem z6i {h:AH}{b:Nat}{l:List Nat}{d:D}(sq:SQ st) (lm:mk.length=st.length) (dc:Dic h b bl) (hl:∀ x∈l,x<st.length) (ll:l.length≤40) (nl:∀ x,(nx st x).length≤40) (ok:ByOk bl d):z0K [maD st mk,.ref b,.tup (stD l),d] h=.ok (.ref h.length) (h++[.lst (stsD (prt l (bel st mk bl d)))]):=by
 obtain ⟨f,hf⟩:∃ f,f=bel st mk bl d:=⟨_,rfl⟩
 rw [← hf]
 show cln (runF 6 z1U [maD st mk,.ref b,.tup (stD l),d]) h=_
 refine z4f (j:=[.lst (stsD (prt l f))]) (z6Z ?_) rfl (z6B h) (Nat.le_refl _) z0O (z08 fun a=>z62 a)
 show W (z1U [some (maD st mk),some (.ref b),some (.tup (stD l)),some d,none,none]) h _
 unfold z1U
 refine z1C (.tup (stD (l.filter f))) [some (maD st mk),some (.ref b),some (.tup (stD l)),some d,some (.tup (stD (l.filter f))),none] (z7M ?_ (z44 _)) rfl ?_
 ·refine (z3V (src:=.con (stD l)) (l:=l) f (fun x=>.int x) (z2w (Z9 rfl)) rfl (fun _=>trivial) (by omega) fun x hx=>⟨[some (maD st mk),some (.ref b),some d,some (.int x)],fun h=>rfl,fun j=>?_,fun _ j=>rfl⟩)
  rw [hf]
  exact cv_h (fn_h (ds:=[maD st mk,.ref b,.int x,d]) (ac_h (Z9 rfl) (ac_h (Z9 rfl) (ac_h (Z9 rfl) (ac_h (Z9 rfl) rfl)))) rfl (z7F sq lm (dc.app j) (hl x hx) (nl x) ok))
 refine z1C (.tup (stD (l.filter fun x=>!f x))) [some (maD st mk),some (.ref b),some (.tup (stD l)),some d,some (.tup (stD (l.filter f))),some (.tup (stD (l.filter fun x=>!f x)))] (z7M ?_ (z44 _)) rfl ?_
 ·refine (z3V (src:=.con (stD l)) (l:=l) (fun x=>!f x) (fun x=>.int x) (z2w (Z9 rfl)) rfl (fun _=>trivial) (by omega) fun x hx=>⟨[some (.tup (stD (l.filter f))),some (.int x)],fun h=>rfl,fun j=>?_,fun _ j=>rfl⟩)
  refine (cb_h (e2_h (Z9 rfl) (Z9 rfl) (by rw [zB4];rfl))).trans ?_
  congr 1
  cases q:f x with
  | true=>rw [decide_eq_true (List.mem_filter.mpr ⟨hx,q⟩)];rfl
  | false=>rw [decide_eq_false (fun z=>by have:=(List.mem_filter.mp z).2;rw [q] at this;cases this)];rfl
 have tw:eTup (z8 (eVar 4) (z8 (eVar 5) aNil)) [some (maD st mk),some (.ref b),some (.tup (stD l)),some d,some (.tup (stD (l.filter f))),some (.tup (stD (l.filter fun x=>!f x)))] h=.ok (.tup (stsD [l.filter f,l.filter fun x=>!f x])) h:=z7W (Z9 rfl) (Z9 rfl)
 refine z1d (.ref h.length) ?_ ⟨rfl,rfl⟩
 refine (z2r (src:=.con (stsD [l.filter f,l.filter fun x=>!f x])) (fun d=>match d with | .tup xs=>decide (0<xs.length) | _=>false) (fun d=>d) (z2w tw) (fun _=>trivial) (by simp [Src.items,stsD]) fun y hy=>?_).trans (congrArg (fun xs=>Res.ok (D.ref h.length) (h++[O.lst xs])) ?_)
 ·obtain ⟨q,hq,rfl⟩:=List.mem_map.mp hy
  refine ⟨[some (.tup (stD q))],fun h=>rfl,fun j=>(cb_h (e2_h (z00 (Z9 rfl) (by rw [z5R];rfl)) (y:=.int 0) rfl (by rw [zv0];rfl))).trans ?_,fun _ j=>rfl⟩
  congr 1
  show _=decide (0<(stD q).length)
  rw [decide_eq_decide];omega
 ·show ((stsD _).filter _).map _=_
  unfold stsD prt
  rw [List.filter_map,List.map_id']
  congr 1
  refine List.filter_congr fun q _=>?_
  show decide (0<(stD q).length)=_
  rw [z0C]
theorem prt_len {l:List Nat}{f:Nat->Bool}:(prt l f).length=2↔l.filter f≠[]/\(l.filter fun x=>!f x)≠[]:=by
 unfold prt
 cases e1:l.filter f<;>cases e2:(l.filter fun x=>!f x)<;>simp
theorem zu2 {l:List Nat}{f:Nat->Bool}(h1:l.filter f≠[]) (h2:(l.filter fun x=>!f x)≠[]):prt l f=[l.filter f,l.filter fun x=>!f x]:=by
 unfold prt
 cases e1:l.filter f<;>cases e2:(l.filter fun x=>!f x)<;>simp_all
end
def ByN (mk:List (List Str)) (bl:Bl) (k:Nat) (y:D):Prop:=(∃ x∈blk bl k,∃ s∈mkAt mk x,y=.str s)∨∃ k':Nat,y=.int (k':Nat)/\k'∈bl.map (·.1)
theorem ByN.ok {mk:List (List Str)}{bl:Bl}{k:Nat}{y:D}(h:ByN mk bl k y):ByOk bl y:=by
 rcases h with ⟨_,_,s,_,e⟩ | h
 ·exact .inl ⟨s,e⟩
 ·exact .inr h
def z4M (mk:List (List Str)):D->List D
 | .int x=>(mkAt mk x.toNat).map .str
 | _=>[]
theorem zh6 {mk:List (List Str)}(m8:∀ l∈mk,l.length≤8):∀ l:List Nat,((stD l).flatMap (z4M mk)).length≤l.length * 8
 | []=>by simp [stD]
 | x :: l=>by
  have ih:=zh6 m8 l
  show ((D.int (x:Nat) :: stD l).flatMap (z4M mk)).length≤_
  rw [List.flatMap_cons,List.length_append,List.length_cons]
  have:(z4M mk (.int (x:Nat))).length≤8:=by
   show ((mkAt mk ((x:Nat):Int).toNat).map D.str).length≤8
   rw [List.length_map,Int.toNat_natCast]
   unfold mkAt
   by_cases hx:x<mk.length
   ·rw [List.getElem?_eq_getElem hx]
    exact m8 _ (List.getElem_mem _)
   ·rw [List.getElem?_eq_none (by omega)];simp
  omega
theorem z8G {me:G->M D}{γ:G}{h h1:AH}{i:Nat}{xs:List D}(e:me γ h=.ok (.ref i) h1) (q:h1[i]?=some (.lst xs)):z09 me γ h=.ok (.lst i xs) h1:=by
 have g:getL i h1=.ok xs h1:=by unfold getL;rw [q]
 unfold z09
 rw [M.bind_ok e]
 dsimp only
 rw [M.bind_ok g]
 rfl
section
variable {st:List (List Nat)}{mk:List (List Str)}{bl:Bl}
theorem zz4 (ma:MA st mk) (x:Nat):(nx st x).length≤40:=by
 have l2:=ma.l2
 by_cases hx:x<st.length
 ·have g:=List.mem_of_getElem? (zE9 hx)
  exact Nat.le_trans (z61 (ma.s1 _ g) (ma.s2 _ g)) l2
 ·unfold nx
  rw [List.getElem?_eq_none (by omega)]
  simp
theorem zg0 (pb:PB st.length bl) {k:Nat}(hk:k∈bl.map (·.1)):(∀ x∈blk bl k,x<st.length)/\(blk bl k).length≤st.length:=by
 have m:=pb.of_key hk
 have lt:∀ x∈blk bl k,x<st.length:=fun x hx=>pb.lt m hx
 exact ⟨lt,z61 (pb.rise _ m) lt⟩
def cnds (mk:List (List Str)) (bl:Bl) (k:Nat):List D:=(stD (blk bl k)).flatMap (z4M mk)++stD (bl.map (·.1))
def Fst (st:List (List Nat)) (mk:List (List Str)) (bl:Bl) (k:Nat) (y:D):Prop:=∃ c p,bl[c]?=some p/\p.1=k/\(∀ q∈bl.take c,∀ z,ByN mk bl q.1 z->¬ Cut bl q.1 (bel st mk bl z))/\∃ i:Nat,(cnds mk bl k)[i]?=some y/\∀ z∈(cnds mk bl k).take i,¬ Cut bl k (bel st mk bl z)
theorem zh9 {h:AH}{b:Nat}(ma:MA st mk) (pb:PB st.length bl) (dc:Dic h b bl):∃ d,z0V [maD st mk,.ref b] h=.ok d (h.set b (.dF (kvB bl)))/\((d=.non/\Done st mk bl)∨∃ (k:Nat) (y:D),d=.tup [.int (k:Nat),y]/\ByN mk bl k y/\Fst st mk bl k y/\Cut bl k (bel st mk bl y)):=by
 have l2:=ma.l2
 have lm:=ma.l3
 obtain ⟨hF,hhF⟩:∃ hF,hF=h.set b (.dF (kvB bl)):=⟨_,rfl⟩
 have dF:∀ j,Dic (hF++j) b bl:=fun j=>by rw [hhF];exact dc.set.app j
 have bln:=pb.len
 have key:W (runF 6 z0s [maD st mk,.ref b]) h fun d h'=>(∃ j,h'=hF++j)/\((d=.non/\Done st mk bl)∨∃ (k:Nat) (y:D),d=.tup [.int (k:Nat),y]/\ByN mk bl k y/\Fst st mk bl k y/\Cut bl k (bel st mk bl y)):=by
  refine z5U ?_
  show W (z0s [some (maD st mk),some (.ref b),none,none,none,none]) h _
  unfold z0s
  rw [w_cons]
  refine z5P (fun c γ h'=>∃ a e n y j,γ=[some (maD st mk),some (.ref b),a,e,n,y]/\h'=hF++j/\∀ p∈bl.take c,∀ y,ByN mk bl p.1 y->¬ Cut bl p.1 (bel st mk bl y)) (fun d h'=>(∃ j,h'=hF++j)/\∃ (k:Nat) (y:D),d=.tup [.int (k:Nat),y]/\ByN mk bl k y/\Fst st mk bl k y/\Cut bl k (bel st mk bl y)) ?_
  refine W_of (v:=.con (stD (bl.map (·.1)))) (dc.walk (Z9 rfl)) ?_
  refine ⟨⟨_,_,_,_,[],rfl,by rw [hhF];simp,by simp⟩,fun _ _ _ _=>trivial,?_,?_,?_⟩
  ·rintro c d γ _ hd ⟨a,e,n,y,j,rfl,rfl,no⟩
   obtain ⟨k,rfl,ek⟩:=zE1 hd
   rw [List.getElem?_map] at ek
   obtain ⟨p,ep,rfl⟩:=Option.map_eq_some_iff.mp ek
   have hp:=List.mem_of_getElem? ep
   have hk:p.1∈bl.map (·.1):=List.mem_map.mpr ⟨p,hp,rfl⟩
   obtain ⟨blt,bll⟩:=zg0 pb hk
   refine W_eq (v:=[some (maD st mk),some (.ref b),some (.int (p.1:Nat)),e,n,y]) rfl ?_
   refine z1C (.tup (stD (blk bl p.1))) [some (maD st mk),some (.ref b),some (.int (p.1:Nat)),some (.tup (stD (blk bl p.1))),n,y] (e2_h (Z9 rfl) (Z9 rfl) ((dF j).get hk)) rfl ?_
   obtain ⟨nm,hnm⟩:∃ nm,nm=(stD (blk bl p.1)).flatMap (z4M mk):=⟨_,rfl⟩
   have nml:nm.length≤320:=by
    have:=zh6 (mk:=mk) (fun l hl=>(ma.m1 l hl).len) (blk bl p.1)
    rw [← hnm] at this
    omega
   refine z1C (.ref (hF++j).length) [some (maD st mk),some (.ref b),some (.int (p.1:Nat)),some (.tup (stD (blk bl p.1))),some (.ref (hF++j).length),y] (h1:=hF++j++[.lst nm]) ?_ rfl ?_
   ·rw [hnm]
    refine zu8 (src:=.con (stD (blk bl p.1))) (z4M mk) (z2w (Z9 rfl)) (fun _=>trivial) (by show ((stD (blk bl p.1)).flatMap (z4M mk)).length≤_;rw [← hnm];omega) fun d hd=>?_
    obtain ⟨x,hx,rfl⟩:=List.mem_map.mp (show d∈(blk bl p.1).map _ from hd)
    have hx':=blt x hx
    refine ⟨[some (maD st mk),some (.int (x:Nat)),none],fun h=>rfl,fun j'=>?_,fun y hy=>⟨[some (maD st mk),some (.int (x:Nat)),some y],fun h=>rfl,fun h=>rfl,fun j'=>rfl⟩⟩
    refine z2w ?_
    refine e2_h (e2_h (Z9 rfl) (y:=.int 1) rfl (by rw [zh5];rfl)) (Z9 rfl) ?_
    rw [ix_tup (zA0 (show x<mk.length by omega))]
    show Res.ok (D.tup (((mk[x]?).getD []).map .str)) _=Res.ok (D.tup (z4M mk (.int (x:Nat)))) _
    rfl
   obtain ⟨L,hL⟩:∃ L,L=nm++stD (bl.map (·.1)):=⟨_,rfl⟩
   have Lc:cnds mk bl p.1=L:=by rw [hL,hnm];rfl
   have Ll:L.length≤400:=by rw [hL,List.length_append,z0C,List.length_map];omega
   obtain ⟨j1,hj1⟩:∃ j1,j1=j++[O.lst nm]++[O.lst L]:=⟨_,rfl⟩
   have inL:∀ y,y∈L↔ByN mk bl p.1 y:=fun y=>by
    rw [hL,List.mem_append,hnm,List.mem_flatMap]
    unfold ByN
    refine or_congr ⟨?_,?_⟩ ⟨?_,?_⟩
    ·rintro ⟨d,hd,hy⟩
     obtain ⟨x,hx,rfl⟩:=List.mem_map.mp (show d∈(blk bl p.1).map _ from hd)
     obtain ⟨s,hs,rfl⟩:=List.mem_map.mp (show y∈(mkAt mk ((x:Nat):Int).toNat).map D.str from hy)
     exact ⟨x,hx,s,hs,rfl⟩
    ·rintro ⟨x,hx,s,hs,rfl⟩
     exact ⟨.int (x:Nat),List.mem_map.mpr ⟨x,hx,rfl⟩,List.mem_map.mpr ⟨s,hs,rfl⟩⟩
    ·intro hy
     obtain ⟨k',hk',rfl⟩:=List.mem_map.mp (show y∈(bl.map (·.1)).map _ from hy)
     exact ⟨k',rfl,hk'⟩
    ·rintro ⟨k',rfl,hk'⟩
     exact List.mem_map.mpr ⟨k',hk',rfl⟩
   refine zF7 (fun γ h'=>∃ y j,γ=[some (maD st mk),some (.ref b),some (.int (p.1:Nat)),some (.tup (stD (blk bl p.1))),some (.ref (hF++(j1.take (j1.length - 2))).length),y]/\h'=hF++j/\∀ y∈L,¬ Cut bl p.1 (bel st mk bl y)) ?_ ?_
   ·refine z5P (fun c γ h'=>∃ y j,γ=[some (maD st mk),some (.ref b),some (.int (p.1:Nat)),some (.tup (stD (blk bl p.1))),some (.ref (hF++(j1.take (j1.length - 2))).length),y]/\h'=hF++(j1++j)/\∀ y∈L.take c,¬ Cut bl p.1 (bel st mk bl y)) (fun d h'=>(∃ j,h'=hF++j)/\∃ y,d=.tup [.int (p.1:Nat),y]/\ByN mk bl p.1 y/\(∃ i:Nat,(cnds mk bl p.1)[i]?=some y/\∀ z∈(cnds mk bl p.1).take i,¬ Cut bl p.1 (bel st mk bl z))/\Cut bl p.1 (bel st mk bl y)) ?_
    have jt:j1.take (j1.length - 2)=j:=by rw [hj1];simp
    rw [jt]
    have srcE:z09 (eLst (z95 (eVar 4) (z3A (eVar 1) aNil))) [some (maD st mk),some (.ref b),some (.int (p.1:Nat)),some (.tup (stD (blk bl p.1))),some (.ref (hF++j).length),y] (hF++j++[.lst nm])=.ok (.lst (hF++j++[O.lst nm]).length L) (hF++j++[.lst nm]++[.lst L]):=by
     refine z8G (i:=(hF++j++[O.lst nm]).length) (h1:=hF++j++[O.lst nm]++[O.lst L]) (xs:=L) ?_ z0O
     unfold eLst
     have g1:getL (hF++j).length (hF++j++[O.lst nm])=.ok nm (hF++j++[.lst nm]):=by unfold getL;rw [z0O]
     have d1:Dic (hF++j++[O.lst nm]) b bl:=(dF j).app _
     have s2:z3A (eVar 1) aNil [some (maD st mk),some (.ref b),some (.int (p.1:Nat)),some (.tup (stD (blk bl p.1))),some (.ref (hF++j).length),y] (hF++j++[.lst nm])=.ok (stD (bl.map (·.1))) (hF++j++[.lst nm]):=by
      unfold z3A
      rw [M.bind_ok (Z9 (γ:=[some (maD st mk),some (.ref b),some (.int (p.1:Nat)),some (.tup (stD (blk bl p.1))),some (.ref (hF++j).length),y]) (a:=1) rfl)]
      show (z31 b >>= _) _=_
      rw [M.bind_ok d1.dk,zp7]
      show Res.ok (stD (bl.map (·.1))++[]) _=_
      rw [List.append_nil]
     have s1:z95 (eVar 4) (z3A (eVar 1) aNil) [some (maD st mk),some (.ref b),some (.int (p.1:Nat)),some (.tup (stD (blk bl p.1))),some (.ref (hF++j).length),y] (hF++j++[.lst nm])=.ok L (hF++j++[.lst nm]):=by
      unfold z95
      rw [M.bind_ok (Z9 (γ:=[some (maD st mk),some (.ref b),some (.int (p.1:Nat)),some (.tup (stD (blk bl p.1))),some (.ref (hF++j).length),y]) (a:=4) rfl)]
      show (getL (hF++j).length >>= _) _=_
      rw [M.bind_ok g1,M.bind_ok s2,hL]
      rfl
     rw [M.bind_ok s1]
     exact zq1 (by omega)
    have eqH:hF++j++[O.lst nm]++[O.lst L]=hF++j1:=by rw [hj1];simp
    have atL:∀ j',(hF++(j1++j'))[(hF++j++[O.lst nm]).length]?=some (.lst L):=fun j'=>by
     rw [hj1]
     have:hF++(j++[O.lst nm]++[O.lst L]++j')=hF++j++[O.lst nm]++[O.lst L]++j':=by simp
     rw [this]
     exact z3a z0O
    refine W_of srcE ?_
    refine ⟨⟨_,[],rfl,by rw [eqH,List.append_nil],by simp⟩,fun c γ h' ⟨_,j',_,e,_⟩=>by rw [e];exact atL j',?_,?_,?_⟩
    ·rintro c y2 γ _ hy ⟨y3,j3,rfl,rfl,no2⟩
     have hy:L[c]?=some y2:=hy
     have okB:=(inL y2).mp (List.mem_of_getElem? hy)
     refine W_eq (v:=[some (maD st mk),some (.ref b),some (.int (p.1:Nat)),some (.tup (stD (blk bl p.1))),some (.ref (hF++j).length),some y2]) rfl ?_
     have pd:=z6i (d:=y2) (l:=blk bl p.1) (zj8 ma) lm (dF (j1++j3)) blt (by omega) (zz4 ma) okB.ok
     refine zN9 (decide ((prt (blk bl p.1) (bel st mk bl y2)).length=2)) (h1:=hF++(j1++j3)++[.lst (stsD (prt (blk bl p.1) (bel st mk bl y2)))]) ((cb_h (e2_h (z00 (fn_h (ds:=[maD st mk,.ref b,.tup (stD (blk bl p.1)),y2]) (ac_h (Z9 rfl) (ac_h (Z9 rfl) (ac_h (Z9 rfl) (ac_h (Z9 rfl) rfl)))) rfl pd) (zM1 z0O)) (y:=.int 2) rfl (by rw [zw2];rfl))).trans ?_) ?_
     ·congr 1
      rw [Bool.bne_false,decide_eq_decide]
      unfold stsD
      rw [List.length_map]
      omega
     by_cases q:(prt (blk bl p.1) (bel st mk bl y2)).length=2
     ·rw [decide_eq_true q,if_pos rfl]
      obtain ⟨q1,q2⟩:=prt_len.mp q
      refine zH7 (z1d (.tup [.int (p.1:Nat),y2]) (z7W (Z9 rfl) (Z9 rfl)) ⟨⟨_,by rw [List.append_assoc]⟩,y2,rfl,okB,⟨c,by rw [Lc];exact hy,by rw [Lc];exact no2⟩,hk,q1,q2⟩)
     ·rw [decide_eq_false q,if_neg (by decide)]
      refine zr7 (z6L ⟨_,j3++_,rfl,by rw [List.append_assoc,List.append_assoc],fun z hz=>?_⟩)
      rw [List.take_succ,hy] at hz
      rcases List.mem_append.mp hz with hz | hz
      ·exact no2 z hz
      ·simp at hz
       subst hz
       exact fun c=>q (prt_len.mpr ⟨c.hy,c.hn⟩)
    ·rintro γ h' ⟨y3,j3,rfl,rfl,no2⟩
     rw [show (Src.lst (hF++j++[O.lst nm]).length L).items.length=L.length from rfl,List.take_length] at no2
     exact ⟨_,_,rfl,rfl,no2⟩
    ·rintro d h' ⟨ej,y2,rfl,okB,fi,cc⟩
     exact ⟨ej,p.1,y2,rfl,okB,⟨c,p,ep,rfl,no,fi⟩,cc⟩
   rintro _ _ ⟨y3,j3,rfl,rfl,no2⟩
   refine z6L ⟨_,_,_,_,j3,rfl,rfl,fun r hr y hy=>?_⟩
   rw [List.take_succ,ep] at hr
   rcases List.mem_append.mp hr with hr | hr
   ·exact no r hr y hy
   ·simp at hr
    subst hr
    exact no2 y ((inL y).mpr hy)
  ·rintro γ _ ⟨a,e,n,y,j,rfl,rfl,no⟩
   rw [show (Src.con (stD (bl.map (·.1)))).items.length=bl.length by show (stD (bl.map (·.1))).length=_;rw [z0C,List.length_map],List.take_length] at no
   refine z1d .non rfl ⟨⟨j,rfl⟩,.inl ⟨rfl,fun p hp y hy=>no p hp y ?_⟩⟩
   unfold ByN
   rw [pb.blk hp]
   exact hy
  ·rintro d h' ⟨ej,k,y,rfl,okB,cc⟩
   exact ⟨ej,.inr ⟨k,y,rfl,okB,cc⟩⟩
 obtain ⟨d,h',e,⟨j,rfl⟩,r⟩:=key
 refine ⟨d,?_,r⟩
 show cln (runF 6 z0s [maD st mk,.ref b]) h=_
 rw [← hhF]
 refine zu4 e (by rw [hhF,List.length_set]) (by rw [hhF];exact z6q (refB _)) ?_
 rcases r with ⟨rfl,_⟩ | ⟨k,y,rfl,okB,_⟩
 ·rfl
 ·rcases okB.ok with ⟨s,rfl⟩ | ⟨k',rfl,_⟩<;>rfl
theorem z9u {k k':Nat}{y y':D}(f:Fst st mk bl k y) (b:ByN mk bl k y) (c:Cut bl k (bel st mk bl y)) (f':Fst st mk bl k' y') (b':ByN mk bl k' y') (c':Cut bl k' (bel st mk bl y')):k=k'/\y=y':=by
 obtain ⟨n,p,ep,rfl,no,i,ei,ni⟩:=f
 obtain ⟨n',p',ep',rfl,no',i',ei',ni'⟩:=f'
 have tk:∀ {α:Type} {l:List α} {a b:Nat} {x:α},l[a]?=some x->a<b->x∈l.take b:=fun {α l a b x} e h=>List.mem_of_getElem? (i:=a) (by rw [List.getElem?_take,if_pos h];exact e)
 rcases Nat.lt_trichotomy n n' with h | h | h
 ·exact absurd c (no' p (tk ep h) y b)
 ·subst h
  rw [ep] at ep'
  cases ep'
  rcases Nat.lt_trichotomy i i' with h | h | h
  ·exact absurd c (ni' y (tk ei h))
  ·subst h
   rw [ei] at ei'
   cases ei'
   exact ⟨rfl,rfl⟩
  ·exact absurd c' (ni y' (tk ei' h))
 ·exact absurd c' (no p' (tk ep' h) y' b')
end
def blkE (bl:Bl):D->Key×D
 | .int k=>(.inl k,.tup (stD (blk bl k.toNat)))
 | _=>(.inl 0,.non)
theorem zd0 {n:Nat}{bl:Bl}(pb:PB n bl):(stD (bl.map (·.1))).map (blkE bl)=kvB bl:=by
 unfold stD kvB
 rw [List.map_map,List.map_map]
 refine List.map_congr_left fun p hp=>?_
 show ((.inl ((p.1:Nat):Int):Key),D.tup (stD (blk bl ((p.1:Nat):Int).toNat)))=_
 rw [Int.toNat_natCast,pb.blk hp]
theorem zq7 {l:List Nat}(nd:l.Nodup) {f:D->Key×D}(hf:∀ x:Nat,(f (.int x)).1=.inl (x:Int)):((stD l).map fun d=>(f d).1).Nodup:=by
 have e:((stD l).map fun d=>(f d).1)=l.map fun (x:Nat)=>(.inl (x:Int):Key):=by
  unfold stD
  rw [List.map_map]
  exact List.map_congr_left fun x _=>hf x
 rw [e]
 exact List.Pairwise.map _ (fun a b h e=>h (inl_inj.mp e)) nd
section
variable {st:List (List Nat)}{mk:List (List Str)}{bl:Bl}
theorem zK4 {h:AH}{b k:Nat}{y:D}(ma:MA st mk) (pb:PB st.length bl) (dc:Dic h b bl) (ok:ByOk bl y) (ct:Cut bl k (bel st mk bl y)):z1s [maD st mk,.ref b,.tup [.int (k:Nat),y]] h=.ok (.ref h.length) (h.set b (.dF (kvB bl))++[.dK (kvB (cutB bl k (bel st mk bl y)))]):=by
 have l2:=ma.l2
 have bln:=pb.len
 obtain ⟨hF,hhF⟩:∃ hF,hF=h.set b (.dF (kvB bl)):=⟨_,rfl⟩
 have dF:∀ j,Dic (hF++j) b bl:=fun j=>by rw [hhF];exact dc.set.app j
 have lF:hF.length=h.length:=by rw [hhF,List.length_set]
 obtain ⟨f,hf⟩:∃ f,f=bel st mk bl y:=⟨_,rfl⟩
 obtain ⟨blt,bll⟩:=zg0 pb ct.hk
 obtain ⟨T,hT⟩:∃ T:Nat->Bl,T=fun c=>(([yesL bl k f,noL bl k f]:List (List Nat)).take c).foldl (fun acc q=>putB acc (q.headD 0) q) bl:=⟨_,rfl⟩
 have key:W (runF 7 z1u [maD st mk,.ref b,.tup [.int (k:Nat),y]]) h fun d h'=>d=.ref hF.length/\∃ j,h'=hF++(.dK (kvB (cutB bl k f)) :: j):=by
  refine z5U ?_
  show W (z1u [some (maD st mk),some (.ref b),some (.tup [.int (k:Nat),y]),none,none,none,none]) h _
  unfold z1u z5L
  refine zj9 (.tup [.int (k:Nat),y]) [some (maD st mk),some (.ref b),some (.tup [.int (k:Nat),y]),some (.int (k:Nat)),some y,none,none] rfl rfl ?_
  refine z1C (.ref hF.length) [some (maD st mk),some (.ref b),some (.tup [.int (k:Nat),y]),some (.int (k:Nat)),some y,some (.ref hF.length),none] (h1:=hF++[.dK (kvB bl)]) ?_ rfl ?_
  ·have e:=zk5 (cap:=[some 1,none]) (mi:=iDic (eVar 1)) (g:=gN 1) (kb:=fun _=>pure true) (me:=eVar 1) (mv:=e2 z2I (eVar 0) (eVar 1)) (γ:=[some (maD st mk),some (.ref b),some (.tup [.int (k:Nat),y]),some (.int (k:Nat)),some y,none,none]) (h:=h) (h1:=hF) (blkE bl) (src:=.con (stD (bl.map (·.1)))) (by rw [hhF];exact dc.walk (Z9 rfl)) (fun _=>trivial) (zq7 pb.nd fun x=>rfl) (by show (stD (bl.map (·.1))).length≤_;rw [z0C,List.length_map];omega) fun d hd=>by
    obtain ⟨x,hx,rfl⟩:=List.mem_map.mp (show d∈(bl.map (·.1)).map _ from hd)
    exact ⟨[some (.ref b),some (.int (x:Nat))],.int (x:Nat),fun h=>rfl,fun h=>rfl,rfl,fun j=>rfl,fun j=>e2_h (Z9 rfl) (Z9 rfl) ((dF j).get hx)⟩
   rw [show (Src.con (stD (bl.map (·.1)))).items=stD (bl.map (·.1)) from rfl,zd0 pb] at e
   exact e
  have p2:prt (blk bl k) f=[yesL bl k f,noL bl k f]:=zu2 (by rw [hf];exact ct.hy) (by rw [hf];exact ct.hn)
  have pd:=z6i (h:=hF++[.dK (kvB bl)]) (d:=y) (l:=blk bl k) (zj8 ma) ma.l3 (dF _) blt (by omega) (zz4 ma) ok
  rw [← hf,p2] at pd
  refine zF7 (fun γ h'=>∃ a j,γ=[some (maD st mk),some (.ref b),some (.tup [.int (k:Nat),y]),some (.int (k:Nat)),some y,some (.ref (hF.length+0)),a]/\h'=hF++(.dK (kvB (T 2)) :: j)) ?_ ?_
  ·refine z5P (fun c γ h'=>∃ a,γ=[some (maD st mk),some (.ref b),some (.tup [.int (k:Nat),y]),some (.int (k:Nat)),some y,some (.ref (hF.length+0)),a]/\h'=hF++[.dK (kvB (T c)),.lst (stsD [yesL bl k f,noL bl k f])]) (fun _ _=>False) ?_
   refine W_of (v:=.lst (hF++[O.dK (kvB bl)]).length (stsD [yesL bl k f,noL bl k f])) (z8G (fn_h (ds:=[maD st mk,.ref b,.tup (stD (blk bl k)),y]) (ac_h (Z9 rfl) (ac_h (Z9 rfl) (ac_h (e2_h (Z9 rfl) (Z9 rfl) ((dF _).get ct.hk)) (ac_h (Z9 rfl) rfl)))) rfl pd) z0O) ?_
   refine ⟨⟨none,rfl,by rw [hT];simp⟩,fun c γ h' ⟨_,_,e⟩=>?_,?_,?_,fun _ _ q=>q.elim⟩
   ·show h'[_]?=_
    rw [e]
    have:(hF++[O.dK (kvB bl)]).length=hF.length+1:=by simp
    rw [this]
    exact at_E (l:=[_,_])
   ·rintro c d γ _ hd ⟨a,rfl,rfl⟩
    obtain ⟨q,eq,rfl⟩:∃ q,([yesL bl k f,noL bl k f]:List (List Nat))[c]?=some q/\d=.tup (stD q):=by
     have hd:(stsD [yesL bl k f,noL bl k f])[c]?=some d:=hd
     unfold stsD at hd
     rw [List.getElem?_map] at hd
     obtain ⟨q,e1,e2⟩:=Option.map_eq_some_iff.mp hd
     exact ⟨q,e1,e2.symm⟩
    have qm:=List.mem_of_getElem? eq
    have q0:q≠[]:=by
     simp at qm
     rcases qm with rfl | rfl
     ·rw [hf];exact ct.hy
     ·rw [hf];exact ct.hn
    obtain ⟨x,r,rfl⟩:∃ x r,q=x :: r:=by cases q with | nil=>exact absurd rfl q0 | cons x r=>exact ⟨x,r,rfl⟩
    refine W_eq (v:=[some (maD st mk),some (.ref b),some (.tup [.int (k:Nat),y]),some (.int (k:Nat)),some y,some (.ref (hF.length+0)),some (.tup (stD (x :: r)))]) rfl ?_
    have tc:T (c+1)=putB (T c) x (x :: r):=by
     rw [hT]
     dsimp only
     rw [List.take_succ,eq,List.foldl_append]
     rfl
    have Tl:(T c).length≤100:=by
     have one:∀ (bl:Bl) (k:Nat) (b:List Nat),(putB bl k b).length≤bl.length+1:=fun bl k b=>by unfold putB;split<;>simp
     have:∀ (l:List (List Nat)) (bl:Bl),(l.foldl (fun acc q=>putB acc (q.headD 0) q) bl).length≤bl.length+l.length:=by
      intro l
      induction l with
      | nil=>intro bl;simp
      | cons q l ih=>intro bl;have:=ih (putB bl (q.headD 0) q);have:=one bl (q.headD 0) q;simp only [List.foldl_cons,List.length_cons];omega
     have t1:=this (([yesL bl k f,noL bl k f]:List (List Nat)).take c) bl
     rw [hT]
     dsimp only
     have:(([yesL bl k f,noL bl k f]:List (List Nat)).take c).length≤2:=by rw [List.length_take];simp;omega
     omega
    have put:gDx (eVar 5) (e2 fIx (eVar 6) (fun _=>pure (.int 0))) (.tup (stD (x :: r))) [some (maD st mk),some (.ref b),some (.tup [.int (k:Nat),y]),some (.int (k:Nat)),some y,some (.ref (hF.length+0)),some (.tup (stD (x :: r)))] (hF++[.dK (kvB (T c)),.lst (stsD [yesL bl k f,noL bl k f])])=.ok [some (maD st mk),some (.ref b),some (.tup [.int (k:Nat),y]),some (.int (k:Nat)),some y,some (.ref (hF.length+0)),some (.tup (stD (x :: r)))] (hF++[.dK (kvB (T (c+1))),.lst (stsD [yesL bl k f,noL bl k f])]):=by
     unfold gDx
     have e1:e2 fIx (eVar 6) (fun _=>pure (.int 0)) [some (maD st mk),some (.ref b),some (.tup [.int (k:Nat),y]),some (.int (k:Nat)),some y,some (.ref (hF.length+0)),some (.tup (stD (x :: r)))] (hF++[.dK (kvB (T c)),.lst (stsD [yesL bl k f,noL bl k f])])=.ok (.int (x:Nat)) _:=e2_h (Z9 rfl) (y:=.int 0) rfl (by
      show fIx (.tup (.int (x:Nat) :: stD r)) (.int 0) _=_
      rw [ix0];rfl)
     rw [M.bind_ok (Z9 (γ:=[some (maD st mk),some (.ref b),some (.tup [.int (k:Nat),y]),some (.int (k:Nat)),some y,some (.ref (hF.length+0)),some (.tup (stD (x :: r)))]) (a:=5) rfl),M.bind_ok e1]
     have e3:z52 (.ref (hF.length+0)) (.int (x:Nat)) (.tup (stD (x :: r))) (hF++[.dK (kvB (T c)),.lst (stsD [yesL bl k f,noL bl k f])])=.ok () (hF++[.dK (kvB (T (c+1))),.lst (stsD [yesL bl k f,noL bl k f])]):=by
      unfold z52
      dsimp only
      rw [show keyD (.int (x:Nat))=some (.inl (x:Int)) from rfl]
      dsimp only
      rw [at_E (l:=[_,_])]
      show (if (kvB (T c)).length<sizeLine then _ else _)=_
      rw [if_pos (by unfold kvB;rw [List.length_map];exact Nat.lt_of_le_of_lt Tl (by decide)),zH1,ptB,← tc]
      rfl
     rw [M.bind_ok e3]
     rfl
    refine (w_cons).mpr ?_
    unfold sAsg
    rw [Z8]
    refine W_of (Z9 rfl) ?_
    rw [Z8]
    refine W_of put ?_
    rw [W_pure]
    exact z6L ⟨_,rfl,rfl⟩
   ·rintro _ _ ⟨a,rfl,rfl⟩
    exact ⟨a,_,rfl,rfl⟩
  rintro _ _ ⟨a,j,rfl,rfl⟩
  refine z1d (.ref hF.length) (Z9 rfl) ⟨rfl,j,?_⟩
  rw [hT]
  rfl
 obtain ⟨d,h',e,rfl,j,rfl⟩:=key
 show cln (runF 7 z1u [maD st mk,.ref b,.tup [.int (k:Nat),y]]) h=_
 rw [← hhF,← hf]
 exact z4f e lF (by rw [hhF];exact z6q (refB _)) (by omega) (by rw [List.getElem?_append_right (by omega)];simp) (refB _)
end
def rowB (n:Nat) (bl:Bl):List Nat:=(List.range n).map fun x=>(z16 (bl.map (·.1))).idxOf (keyOf bl x)
theorem zD1 {kvs:List (Key×D)}(nd:(kvs.map (·.1)).Nodup) {k:Key}{v:D}(h:(k,v)∈kvs):lkD kvs k=some v:=by
 induction kvs with
 | nil=>cases h
 | cons p r ih =>
  rw [List.map_cons,List.nodup_cons] at nd
  unfold lkD
  rw [List.find?_cons]
  rcases List.mem_cons.mp h with rfl | h
  ·rw [decide_eq_true rfl];rfl
  ·have:p.1≠k:=fun e=>nd.1 (by rw [e];exact List.mem_map.mpr ⟨_,h,rfl⟩)
   rw [decide_eq_false this]
   exact ih nd.2 h
theorem zj5 {kvs:List (Key×D)}{l:List Nat}(e:kvs.map (·.1)=l.map fun (x:Nat)=>(.inl (x:Int):Key)):z1x (z11 kvs)=some (zN l):=by
 have:z11 kvs=stD l:=by
  unfold z11 stD
  have h:=congrArg (List.map kD) e
  rw [List.map_map,List.map_map] at h
  exact h
 rw [this,z2Q]
theorem z59 {h:AH}{n:Nat}{kvs:List (Key×D)}{l:List Nat}(g:z31 n h=.ok kvs h) (e:kvs.map (·.1)=l.map fun (x:Nat)=>(.inl (x:Int):Key)) (hl:l.length<64):z06 [.ref n] h=.ok (.ref h.length) (h++[.lst (stD (z16 l))]):=by
 show (z31 n >>= _) h=_
 rw [M.bind_ok g]
 show (match z1x (z11 kvs) with | some ns=>if ns.length<64 then newL ((sortI ns).map .int) else bad | none=>bad) h=_
 rw [zj5 e]
 dsimp only
 rw [if_pos (by unfold zN;rw [List.length_map];omega),z2g]
 exact zq1 (by rw [z0C,x9];omega)
theorem z1r {α β:Type}{f g:α->List β}:∀ {l:List α},(∀ x∈l,f x=g x)->l.flatMap f=l.flatMap g
 | [],_=>rfl
 | x :: l,h=>by rw [List.flatMap_cons,List.flatMap_cons,h x (by simp),z1r fun y hy=>h y (by simp [hy])]
def z2d (bl:Bl):D->List D
 | .tup [_,.int k]=>stD (blk bl k.toNat)
 | _=>[]
def z4F:D->D->Key×D
 | .tup [.int i,_],.int x=>(.inl x,.int i)
 | _,_=>(.inl 0,.non)
section
variable {st:List (List Nat)}{mk:List (List Str)}{bl:Bl}
theorem zO8 {h:AH}{b n:Nat}(pb:PB n bl) (hn:n≤40) (dc:Dic h b bl):z1t [.ref b] h=.ok (.tup (stD (rowB n bl))) h:=by
 obtain ⟨ks,hks⟩:∃ ks,ks=z16 (bl.map (·.1)):=⟨_,rfl⟩
 have bln:=pb.len
 have kn:ks.Nodup:=by rw [hks];exact z43 (z2p pb.nd)
 have km:∀ k,k∈ks↔k∈bl.map (·.1):=fun k=>by rw [hks];exact z3n
 have kl:ks.length=bl.length:=by rw [hks,x9,List.length_map]
 have keysE:(kvB bl).map (·.1)=(bl.map (·.1)).map fun (x:Nat)=>(.inl (x:Int):Key):=by unfold kvB;rw [List.map_map,List.map_map];rfl
 obtain ⟨xs,hxs⟩:∃ xs,xs=ks.flatMap (blk bl):=⟨_,rfl⟩
 have xm:∀ x,x∈xs↔x<n:=fun x=>by
  rw [hxs,List.mem_flatMap]
  constructor
  ·rintro ⟨k,hk,hx⟩
   exact ((pb.in_blk ((km k).mp hk)).mp hx).1
  ·intro hx
   exact ⟨keyOf bl x,(km _).mpr (pb.keyin hx),(pb.at_ hx).2⟩
 have xn:xs.Nodup:=by
  rw [hxs]
  refine List.pairwise_flatMap.mpr ⟨fun k hk=>z43 (pb.rise _ (pb.of_key ((km k).mp hk))),?_⟩
  refine List.Pairwise.imp_of_mem (fun {k k'} hk hk' ne x hx y hy e=>?_) kn
  subst e
  have a1:=((pb.in_blk ((km k).mp hk)).mp hx).2
  have a2:=((pb.in_blk ((km k').mp hk')).mp hy).2
  exact ne (a1.symm.trans a2)
 have xl:xs.length≤40:=by
  have:=xn.length_le_of_subset (l₂:=List.range n) fun x hx=>List.mem_range.mpr ((xm x).mp hx)
  simp at this
  omega
 have xs':z16 xs=List.range n:=z6f (z2p xn) List.pairwise_lt_range fun x=>by rw [z3n,xm,List.mem_range]
 obtain ⟨it,hit⟩:∃ it,it=z2q (stD ks):=⟨_,rfl⟩
 have itE:it=(List.range ks.length).map fun (i:Nat)=>D.tup [.int (i:Nat),.int ((ks[i]?).getD 0:Nat)]:=by
  rw [hit]
  unfold z2q
  rw [z0C]
  refine List.map_congr_left fun i hi=>?_
  have hi:=List.mem_range.mp hi
  have:((stD ks)[i]?).getD .non=.int ((ks[i]?).getD 0:Nat):=by
   unfold stD
   rw [List.getElem?_map,List.getElem?_eq_getElem hi]
   rfl
  rw [this]
 have flat:∀ (α:Type) (g:Nat->List α),(List.range ks.length).flatMap (fun i=>g ((ks[i]?).getD 0))=ks.flatMap g:=fun α g=>by
  have e:ks=(List.range ks.length).map fun i=>(ks[i]?).getD 0:=by
   refine List.ext_getElem? fun i=>?_
   rw [List.getElem?_map]
   by_cases hi:i<ks.length
   ·rw [List.getElem?_range hi,List.getElem?_eq_getElem hi]
    simp [List.getElem?_eq_getElem hi]
   ·rw [List.getElem?_eq_none (by omega),List.getElem?_eq_none (by simpa using hi)]
    rfl
  conv=>rhs;rw [e]
  rw [List.flatMap_map]
 have yE:∀ i:Nat,z2d bl (.tup [.int (i:Nat),.int ((ks[i]?).getD 0:Nat)])=stD (blk bl ((ks[i]?).getD 0)):=fun i=>by
  show stD (blk bl (((ks[i]?).getD 0:Nat):Int).toNat)=_
  rw [Int.toNat_natCast]
 obtain ⟨kv,hkv⟩:∃ kv,kv=it.flatMap fun d=>(z2d bl d).map (z4F d):=⟨_,rfl⟩
 have kvK:kv.map (·.1)=xs.map fun (x:Nat)=>(.inl (x:Int):Key):=by
  rw [hkv,itE,List.flatMap_map,List.map_flatMap,hxs,List.map_flatMap,← flat]
  refine z1r fun i hi=>?_
  rw [yE]
  unfold stD
  rw [List.map_map,List.map_map]
  rfl
 have kvN:(kv.map (·.1)).Nodup:=by
  rw [kvK]
  exact List.Pairwise.map _ (fun a b h e=>h (inl_inj.mp e)) xn
 have len1:(it.flatMap (z2d bl)).length=xs.length:=by
  have e:it.flatMap (z2d bl)=stD xs:=by
   rw [itE,List.flatMap_map,hxs]
   unfold stD
   rw [List.map_flatMap,← flat]
   exact z1r fun i hi=>yE i
  rw [e,z0C]
 show cln (runF 2 z22 [.ref b]) h=_
 refine z1a (j:=[.lst (stD ks),.dK kv]) (z6Z ?_) (z62 _)
 show W (z22 [some (.ref b),none]) h _
 unfold z22
 have so:Z5 z06 (z8 (eVar 0) aNil) [some (.ref b),none] h=.ok (.ref h.length) (h++[.lst (stD ks)]):=z00 (Z9 rfl) (by rw [z59 dc.dk keysE (by rw [List.length_map];omega),hks])
 have src:z6T (Z5 z06 (z8 (eVar 0) aNil)) [some (.ref b),none] h=.ok (.obj h.length (.lst (stD ks)) it) (h++[.lst (stD ks)]):=by
  unfold z6T
  rw [M.bind_ok (ac_h so rfl:z8 (Z5 z06 (z8 (eVar 0) aNil)) aNil [some (.ref b),none] h=.ok [.ref h.length] _)]
  have g:getL h.length (h++[O.lst (stD ks)])=.ok (stD ks) (h++[.lst (stD ks)]):=by unfold getL;rw [z0O]
  show (getL h.length >>= fun xs=>(pure (Src.obj h.length (.lst xs) (z2q xs)):M Src)) _=_
  rw [M.bind_ok g,hit]
  rfl
 refine z1C (.ref (h++[O.lst (stD ks)]).length) [some (.ref b),some (.ref (h++[O.lst (stD ks)]).length)] (h1:=h++[.lst (stD ks)]++[.dK kv]) ?_ rfl ?_
 ·rw [hkv]
  refine z9w (src:=.obj h.length (.lst (stD ks)) it) (z2d bl) z4F src (fun j=>by show (_++j)[h.length]?=_;simp) ?_ ?_ fun d hd=>?_
  ·have:=kvN
   rw [hkv,List.map_flatMap] at this
   have e:(it.flatMap fun d=>(z2d bl d).map fun y=>(z4F d y).1)=it.flatMap fun d=>((z2d bl d).map (z4F d)).map (·.1):=z1r fun d _=>by rw [List.map_map];rfl
   show (it.flatMap fun d=>(z2d bl d).map fun y=>(z4F d y).1).Nodup
   rw [e]
   exact this
  ·show (it.flatMap (z2d bl)).length≤_
   rw [len1];omega
  ·have hd:d∈it:=hd
   rw [itE] at hd
   obtain ⟨i,hi,rfl⟩:=List.mem_map.mp hd
   have hi:=List.mem_range.mp hi
   have hk:(ks[i]?).getD 0∈bl.map (·.1):=by
    rw [List.getElem?_eq_getElem hi]
    exact (km _).mp (List.getElem_mem hi)
   refine ⟨[some (.ref b),some (.int (i:Nat)),some (.int ((ks[i]?).getD 0:Nat)),none],fun h=>rfl,fun j=>z2w (e2_h (Z9 rfl) (Z9 rfl) ?_),fun y hy=>?_⟩
   ·rw [yE]
    exact ((dc.app _).app j).get hk
   ·rw [yE] at hy
    obtain ⟨x,hx,rfl⟩:=List.mem_map.mp hy
    exact ⟨[some (.ref b),some (.int (i:Nat)),some (.int ((ks[i]?).getD 0:Nat)),some (.int (x:Nat))],.int (x:Nat),fun h=>rfl,fun h=>rfl,rfl,fun j=>rfl,fun j=>rfl⟩
 obtain ⟨H,hH⟩:∃ H,H=h++[O.lst (stD ks)]:=⟨_,rfl⟩
 rw [← hH]
 have gk:∀ j:AH,z31 H.length (H++[O.dK kv]++j)=.ok kv (H++[O.dK kv]++j):=fun j=>by unfold z31;rw [z3a z0O]
 have gk2:∀ j:AH,getK H.length (H++[O.dK kv]++j)=.ok kv (H++[O.dK kv]++j):=fun j=>by unfold getK;rw [z3a z0O]
 refine z1d (.tup (stD (rowB n bl))) (h1:=H++[.dK kv]) ?_ ⟨rfl,by rw [hH];simp⟩
 refine z1a (j:=[.lst (stD (List.range n)),.lst (stD (rowB n bl))]) ?_ (z62 _)
 have so2:Z5 z06 (z8 (eVar 1) aNil) [some (.ref b),some (.ref H.length)] (H++[O.dK kv])=.ok (.ref (H++[O.dK kv]).length) (H++[O.dK kv]++[.lst (stD (List.range n))]):=z00 (Z9 rfl) (by
  have:=gk []
  rw [List.append_nil] at this
  rw [z59 this kvK (by omega),xs'])
 refine (z00 (d:=.ref (H++[O.dK kv]++[O.lst (stD (List.range n))]).length) (h1:=H++[O.dK kv]++[.lst (stD (List.range n))]++[.lst (stD (rowB n bl))]) ?_ (zt5 z0O)).trans (by simp)
 have cs:=z93 (cap:=[some 1,none]) (mi:=z09 (Z5 z06 (z8 (eVar 1) aNil))) (g:=gN 1) (kb:=fun _=>pure true) (me:=e2 z2I (eVar 0) (eVar 1)) (γ:=[some (.ref b),some (.ref H.length)]) (l:=List.range n) (fun x=>.int ((z16 (bl.map (·.1))).idxOf (keyOf bl x):Nat)) (z8G so2 z0O) rfl (fun j=>by show (_++j)[_]?=_;exact z3a z0O) (by simp;omega) fun x hx=>⟨[some (.ref H.length),some (.int (x:Nat))],fun h=>rfl,fun j=>rfl,fun j=>by
  have hx:=List.mem_range.mp hx
  refine e2_h (Z9 rfl) (Z9 rfl) ?_
  show (getK H.length >>= _) _=_
  rw [List.append_assoc,M.bind_ok (gk2 _)]
  show (match lkD kv (.inl (x:Int)) with | some d=>pure d | none=>bad) _=_
  have kin:=(km _).mpr (pb.keyin hx)
  have il:=List.idxOf_lt_length_iff.mpr kin
  have gi:(ks[ks.idxOf (keyOf bl x)]?).getD 0=keyOf bl x:=by rw [z8E kin];rfl
  rw [zD1 kvN (v:=.int (ks.idxOf (keyOf bl x):Nat)) ?_,hks]
  ·rfl
  ·rw [hkv,itE,List.mem_flatMap]
   refine ⟨_,List.mem_map.mpr ⟨ks.idxOf (keyOf bl x),List.mem_range.mpr il,rfl⟩,?_⟩
   rw [yE,gi]
   exact List.mem_map.mpr ⟨.int (x:Nat),List.mem_map.mpr ⟨x,(pb.at_ hx).2,rfl⟩,rfl⟩⟩
 refine cs.trans ?_
 congr 3
 unfold rowB stD
 rw [List.map_map]
 rfl
end
section
variable {st:List (List Nat)}{mk:List (List Str)}{bl:Bl}
inductive Cuts (st:List (List Nat)) (mk:List (List Str)) (bl0:Bl):List (Nat×D)->Bl->Prop
 | nil:Cuts st mk bl0 [] bl0
 | snoc {cs:List (Nat×D)} {bl:Bl} {k:Nat} {y:D}:Cuts st mk bl0 cs bl->ByN mk bl k y->Fst st mk bl k y->Cut bl k (bel st mk bl y)->Cuts st mk bl0 (cs++[(k,y)]) (cutB bl k (bel st mk bl y))
def z2h (cs:List (Nat×D)):List D:=cs.map fun c=>.tup [.int (c.1:Nat),c.2]
theorem Cuts.len {bl0:Bl}{n:Nat}{cs:List (Nat×D)}{bl:Bl}(pb:PB n bl0) (c:Cuts st mk bl0 cs bl):PB n bl/\bl.length=bl0.length+cs.length:=by
 induction c with
 | nil=>exact ⟨pb,rfl⟩
 | snoc c b f ct ih =>
  refine ⟨z8M ih.1 ct,?_⟩
  rw [z4n ih.1 ct,ih.2,List.length_append]
  rfl
theorem z3G {h j:AH}{b:Nat}{o:O}(hb:h.length≤b):(h++j).set b o=h++j.set (b - h.length) o:=by rw [List.set_append_right _ _ hb]
theorem zm8 {n:Nat}{cs:List (Nat×D)}{bl0 bl:Bl}(c:Cuts st mk bl0 cs bl):w6 n (z2h cs)=true:=by
 refine z2o fun d hd=>?_
 obtain ⟨p,hp,rfl⟩:=List.mem_map.mp hd
 have:∀ p∈cs,J7 n p.2=true:=by
  clear hp hd
  induction c with
  | nil=>intro p hp;cases hp
  | snoc c b f ct ih =>
   intro p hp
   rcases List.mem_append.mp hp with q | q
   ·exact ih p q
   ·simp at q
    subst q
    rcases b.ok with ⟨s,rfl⟩ | ⟨k',rfl,_⟩<;>rfl
 simp only [J7,w6,Bool.and_true,Bool.true_and]
 exact this p hp
theorem zF9 {h:AH}(ma:MA st mk):∃ bl cs,z2a [maD st mk] h=.ok (.tup [.tup (stD (rowB st.length bl)),.tup (z2h cs)]) h/\PB st.length bl/\Done st mk bl/\Cuts st mk [(0,List.range st.length)] cs bl/\∀ x y,x<st.length->y<st.length->(keyOf bl x=keyOf bl y↔Sim st mk x y):=by
 have l1:=ma.l1
 have l2:=ma.l2
 obtain ⟨n,hn⟩:∃ n,n=st.length:=⟨_,rfl⟩
 have pb0:PB st.length [(0,List.range st.length)]:=zc5 (by omega)
 have key:W (runF 4 z0T [maD st mk]) h fun d h'=>(∃ j,h'=h++j)/\∃ bl cs,d=.tup [.tup (stD (rowB st.length bl)),.tup (z2h cs)]/\PB st.length bl/\Done st mk bl/\Cuts st mk [(0,List.range st.length)] cs bl/\∀ E,Stb st mk E->∀ x y,E x y->keyOf bl x=keyOf bl y:=by
  refine z5U ?_
  show W (z0T [some (maD st mk),none,none,none]) h _
  unfold z0T
  refine z1C (.ref h.length) [some (maD st mk),some (.ref h.length),none,none] (fn_h (ds:=[maD st mk]) (ac_h (Z9 rfl) rfl) rfl (zo8 l2)) rfl ?_
  refine zC0 (xs:=[]) (by simp) (fun h=>rfl) ?_
  obtain ⟨H0,hH0⟩:∃ H0,H0=h++[O.dK (kvB [(0,List.range st.length)])]++[O.lst []]:=⟨_,rfl⟩
  have d0:Dic H0 h.length [(0,List.range st.length)]:=by rw [hH0];exact Dic.app (.inl z0O) _
  obtain ⟨d,ed,dd⟩:=zh9 ma pb0 d0
  refine z1C d [some (maD st mk),some (.ref h.length),some (.ref (h.length+1)),some d] (h1:=H0.set h.length (.dF (kvB [(0,List.range st.length)]))) ?_ ?_ ?_
  ·rw [← hH0]
   exact fn_h (ds:=[maD st mk,.ref h.length]) (ac_h (Z9 rfl) (ac_h (Z9 rfl) rfl)) rfl ed
  ·show (pure _:M G)=_
   simp
  refine zr4 (m:=n) (fun m γ H=>∃ bl b c cs d,γ=[some (maD st mk),some (.ref b),some (.ref c),some d]/\(∃ j,H=h++j)/\h.length≤b/\h.length≤c/\Dic H b bl/\H[c]?=some (.lst (z2h cs))/\PB st.length bl/\Cuts st mk [(0,List.range st.length)] cs bl/\(∀ E,Stb st mk E->∀ x y,E x y->keyOf bl x=keyOf bl y)/\m+bl.length=n+1/\((d=.non/\Done st mk bl)∨∃ (k:Nat) (y:D),d=.tup [.int (k:Nat),y]/\ByN mk bl k y/\Fst st mk bl k y/\Cut bl k (bel st mk bl y))) (by omega) ?_ ?_
  ·refine ⟨_,h.length,h.length+1,[],d,rfl,⟨[.dF (kvB [(0,List.range st.length)]),.lst []],by rw [hH0];simp⟩,by omega,by omega,d0.set,?_,pb0,.nil,fun E s x y e=>?_,by simp,dd⟩
   ·rw [List.getElem?_set_ne (by omega),hH0]
    simp [z2h]
   ·obtain ⟨hx,hy⟩:=s.lt x y e
    rw [pb0.key (p:=(0,List.range st.length)) (by simp) (List.mem_range.mpr hx),pb0.key (p:=(0,List.range st.length)) (by simp) (List.mem_range.mpr hy)]
  ·rintro m _ H ⟨bl,b,c,cs,d,rfl,⟨j,rfl⟩,hb,hc,dc,ec,pb,cu,co,em,dd⟩
   rcases dd with ⟨rfl,dn⟩ | ⟨k,y,rfl,bn,fs,ct⟩
   ·refine ⟨false,by rfl,?_⟩
    rw [if_neg (by decide)]
    refine z1d (.tup [.tup (stD (rowB st.length bl)),.tup (z2h cs)]) (z7W (fn_h (ds:=[.ref b]) (ac_h (Z9 rfl) rfl) rfl (zO8 pb l2 dc)) (z00 (Z9 rfl) (zt5 ec))) ⟨⟨j,rfl⟩,bl,cs,rfl,pb,dn,cu,co⟩
   ·refine ⟨true,by rfl,?_⟩
    rw [if_pos rfl]
    have pb':=z8M pb ct
    have bl':=pb'.len
    rw [z4n pb ct] at bl'
    refine ⟨m - 1,by omega,?_⟩
    have bnc:b≠c:=fun e=>by
     rw [e] at dc
     rcases dc with q | q<;>(rw [ec] at q;cases q)
    have csl:=(cu.len pb0).2
    refine ze6 (a:=2) rfl ec (by unfold z2h;rw [List.length_map];simp at csl;omega) (Z9 rfl) ?_
    have ecs:z2h cs++[.tup [.int (k:Nat),y]]=z2h (cs++[(k,y)]):=by unfold z2h;simp
    rw [ecs,z3G hc]
    obtain ⟨j1,hj1⟩:∃ j1,j1=j.set (c - h.length) (.lst (z2h (cs++[(k,y)]))):=⟨_,rfl⟩
    rw [← hj1]
    have e1:h++j1=(h++j).set c (.lst (z2h (cs++[(k,y)]))):=by rw [hj1,z3G hc]
    have dc1:Dic (h++j1) b bl:=by
     rw [e1]
     unfold Dic
     rw [List.getElem?_set_ne (Ne.symm bnc)]
     exact dc
    have ec1:(h++j1)[c]?=some (.lst (z2h (cs++[(k,y)]))):=by rw [e1];exact List.getElem?_set_self (List.getElem?_eq_some_iff.mp ec).1
    obtain ⟨j2,hj2⟩:∃ j2,j2=j1.set (b - h.length) (.dF (kvB bl))++[.dK (kvB (cutB bl k (bel st mk bl y)))]:=⟨_,rfl⟩
    have e2':(h++j1).set b (.dF (kvB bl))++[.dK (kvB (cutB bl k (bel st mk bl y)))]=h++j2:=by rw [hj2,z3G hb,List.append_assoc]
    have eu:=zK4 ma pb dc1 bn.ok ct
    rw [e2'] at eu
    refine z1C (.ref (h++j1).length) [some (maD st mk),some (.ref (h++j1).length),some (.ref c),some (.tup [.int (k:Nat),y])] (fn_h (ds:=[maD st mk,.ref b,.tup [.int (k:Nat),y]]) (ac_h (Z9 rfl) (ac_h (Z9 rfl) (ac_h (Z9 rfl) rfl))) rfl eu) rfl ?_
    have dc2:Dic (h++j2) (h++j1).length (cutB bl k (bel st mk bl y)):=by
     rw [← e2']
     refine .inl ?_
     rw [show (h++j1).length=((h++j1).set b (O.dF (kvB bl))).length by rw [List.length_set]]
     exact z0O
    have cl1:=(List.getElem?_eq_some_iff.mp ec1).1
    have ec2:(h++j2)[c]?=some (.lst (z2h (cs++[(k,y)]))):=by
     rw [← e2',List.getElem?_append_left (by rw [List.length_set];exact cl1),List.getElem?_set_ne bnc]
     exact ec1
    obtain ⟨d',ed',dd'⟩:=zh9 ma pb' dc2
    have b2:h.length≤(h++j1).length:=by rw [List.length_append];omega
    rw [z3G b2] at ed'
    refine z1C d' [some (maD st mk),some (.ref (h++j1).length),some (.ref c),some d'] (fn_h (ds:=[maD st mk,.ref (h++j1).length]) (ac_h (Z9 rfl) (ac_h (Z9 rfl) rfl)) rfl ed') rfl ?_
    have dc3:=dc2.set
    rw [z3G b2] at dc3
    refine z6L ⟨m - 1,Nat.le_refl _,_,(h++j1).length,c,cs++[(k,y)],d',rfl,⟨_,rfl⟩,b2,hc,dc3,?_,pb',.snoc cu bn fs ct,fun E s=>zH2 pb s (co E s) bn.ok ct,by rw [z4n pb ct];omega,dd'⟩
    rw [← z3G b2,List.getElem?_set_ne (by omega)]
    exact ec2
 obtain ⟨d,h',e,⟨j,rfl⟩,bl,cs,rfl,pb,dn,cu,co⟩:=key
 refine ⟨bl,cs,?_,pb,dn,cu,fun x y hx hy=>⟨fun e=>⟨_,zc0 ma pb dn,hx,hy,e⟩,fun ⟨E,s,e⟩=>co E s x y e⟩⟩
 show cln (runF 4 z0T [maD st mk]) h=_
 refine z1a e ?_
 simp only [J7,w6,Bool.and_true,Bool.and_eq_true]
 exact ⟨z44 _,zm8 cu⟩
theorem z4K {bl0:Bl}{cs:List (Nat×D)}{bl:Bl}(c:Cuts st mk bl0 cs bl):∀ {cs':List (Nat×D)}{bl':Bl},Cuts st mk bl0 cs' bl'->cs.length=cs'.length->cs=cs'/\bl=bl':=by
 induction c with
 | nil =>
  intro cs' bl' c' e
  cases c' with
  | nil=>exact ⟨rfl,rfl⟩
  | snoc c b f ct=>simp at e
 | snoc c b f ct ih =>
  intro cs' bl' c' e
  cases c' with
  | nil=>simp at e
  | snoc c2 b2 f2 ct2 =>
   simp at e
   obtain ⟨rfl,rfl⟩:=ih c2 e
   obtain ⟨rfl,rfl⟩:=z9u f b ct f2 b2 ct2
   exact ⟨rfl,rfl⟩
theorem z9B {bl0:Bl}{cs:List (Nat×D)}{bl:Bl}(c:Cuts st mk bl0 cs bl):∀ m,m<cs.length->∃ bl1 k y,Cuts st mk bl0 (cs.take m) bl1/\Cuts st mk bl0 (cs.take (m+1)) (cutB bl1 k (bel st mk bl1 y))/\cs[m]?=some (k,y)/\ByN mk bl1 k y/\Cut bl1 k (bel st mk bl1 y):=by
 induction c with
 | nil=>intro m h;cases h
 | @snoc cs bl k y c b f ct ih =>
  intro m h
  rw [List.length_append] at h
  by_cases e:m<cs.length
  ·obtain ⟨bl1,k1,y1,c1,c2,q⟩:=ih m e
   refine ⟨bl1,k1,y1,?_,?_,?_,q.2⟩
   ·rw [List.take_append_of_le_length (Nat.le_of_lt e)];exact c1
   ·rw [List.take_append_of_le_length e];exact c2
   ·rw [List.getElem?_append_left e];exact q.1
  ·have:m=cs.length:=by simp at h;omega
   subst this
   refine ⟨bl,k,y,?_,?_,by simp,b,ct⟩
   ·rw [List.take_append_of_le_length (Nat.le_refl _),List.take_length]
    exact c
   ·rw [List.take_of_length_le (by simp)]
    exact .snoc c b f ct
theorem zk2 {n:Nat}{bl:Bl}(pb:PB n bl) (dn:Done st mk bl) {k:Nat}{y:D}(b:ByN mk bl k y) (c:Cut bl k (bel st mk bl y)):False:=by
 have hp:=pb.of_key c.hk
 refine dn _ hp y ?_ c
 exact b
theorem zw5 {bl0:Bl}{n:Nat}(pb0:PB n bl0) {cs cs':List (Nat×D)}{bl bl':Bl}(c:Cuts st mk bl0 cs bl) (c':Cuts st mk bl0 cs' bl') (dn:Done st mk bl) (dn':Done st mk bl'):cs=cs'/\bl=bl':=by
 have lt:∀ {cs cs':List (Nat×D)} {bl bl':Bl},Cuts st mk bl0 cs bl->Cuts st mk bl0 cs' bl'->Done st mk bl->¬ cs.length<cs'.length:=fun {cs cs' bl bl'} c c' dn h=>by
  obtain ⟨bl1,k,y,c1,_,_,b,ct⟩:=z9B c' _ h
  obtain ⟨_,rfl⟩:=z4K c c1 (by simp;omega)
  exact zk2 (c.len pb0).1 dn b ct
 have h1:=lt c c' dn
 have h2:=lt c' c dn'
 exact z4K c c' (by omega)
theorem zJ5 {n:Nat}:(rowB n bl).length=n:=by unfold rowB;simp
open Classical in
end
end FT
set_option maxHeartbeats 2000000
namespace FT
open PySem PySem.Spec PyProof.Rows L2
section
variable {st:List (List Nat)}{mk:List (List Str)}{row:List Nat}
end
end FT
set_option maxHeartbeats 4000000
namespace FT
open PySem PySem.Spec PyProof.Rows L2
section
variable {st:List (List Nat)}{mk:List (List Str)}{row:List Nat}
end
end FT
set_option maxHeartbeats 2000000
namespace FT
open PySem PySem.Spec PyProof.Rows L2
end FT
set_option maxHeartbeats 4000000
namespace FT
open PySem PySem.Spec PyProof.Rows L2
section
variable {st:List (List Nat)}{mk:List (List Str)}
end
section
variable {st:List (List Nat)}{mk:List (List Str)}{bl:Bl}
end
section
variable {st:List (List Nat)}{mk:List (List Str)}{bl:Bl}
end
section
variable {st:List (List Nat)}{mk:List (List Str)}{bl:Bl}
end
end FT
namespace FT
def zj3:List Bool->List PySem.Stmt->List PySem.Stmt
 | true :: r,x :: xs=>x :: zj3 r xs
 | false :: r,_ :: xs=>zj3 r xs
 | _,_=>[]
def qv:PySem.Program:={ PySem.Challenge.pw_fairtrees_k66_whole_classes_are_the_coar with main:={ PySem.Challenge.pw_fairtrees_k66_whole_classes_are_the_coar.main with body:=zj3 [false,true,true,true,true,true,true,true,true,false,true,false,true,false,true,true,true,true,true,true,true,true,true,true,true,false,true,true,true,true,true,true,true,true,true,true,true,true,true,true,true,true,true] PySem.Challenge.pw_fairtrees_k66_whole_classes_are_the_coar.main.body } }
def looseQ:List PySem.Str:=[]
end FT
open PySem PySem.W PyProof.Rows
local macro_rules | `(tactic| o_head $H)=>`(tactic| (refine holds_open (q:=FT.qv) (loose:=FT.looseQ) (Xt:=fun s=>xlAt FT.qv [] s && recOk (RowW.records (OpenRow.toRowW (OpenLaw.row PySem.Challenge.rw_fairtrees_k66_whole_classes_are_the_coar))) s) (XP:=XL FT.qv []) (Yf:=Hook.obs $H) (Ya:=Hook.val $H) (YP:=Hook.says $H) (N:=30000) ?_ (Hook.of $H) (Hook.keeps $H) (fun s e=>xl_of s (Bool.and_eq_true_iff.mp e).1) XL.keeps (by rfl) (by rfl) (by rfl) (fun s e=>recFacts_of (Bool.and_eq_true_iff.mp e).2) (by rfl) (by first | assumption | decide +kernel) (by decide +kernel) ⟨rfl,rfl,rfl,rfl,rfl,by decide +kernel⟩ ?_ ?_))
