import PyProof.Rows.All
import Wide.All
import OpenK.AllK
import Wide.FinOn
import Lean
import PyProof.EqAt
import PyProof.EqKinds
import PyProof.TupleCall
import PyProof.NeKinds
import PyProof.ListRange
import PyProof.TupleOfSeq
import PyProof.SeqI3
import PyProof.DictCompW
import PyProof.DictWalks
import PyProof.SetNew
import PyProof.ReprReads
import PyProof.StrHeap
import PyProof.ReprLen
import PyProof.WalkInts
import KE.KDictSum
import PyProof.Draws
import PySem.Challenge.RW_fairtrees_k49_walls_by_sets
set_option Elab.async false
set_option linter.all false
set_option maxRecDepth 100000
namespace L2
open PySem PySem.Spec PyProof.Rows
abbrev Key:=Sum Int Str
def z48:Key->Value->Bool
 | .inl k,v=>Value.isInt k v
 | .inr x,v=>Value.isStrOf x v
def keyH (w:World):Key->Int
 | .inl k=>hashInt k
 | .inr x=>hashStr w x
theorem z0n:∀ {k:Key}{v:Value},z48 k v=true->(∃ i t,k=Sum.inl i/\v=Value.int i t)∨(∃ x t,k=Sum.inr x/\v=Value.str x t)
 | .inl i,v,h=>by
  obtain ⟨t,e⟩:=Value.isInt_shape (k:=i) (v:=v) h
  exact .inl ⟨i,t,rfl,e⟩
 | .inr x,v,h=>by
  obtain ⟨t,e⟩:=Value.isStrOf_shape (x:=x) (v:=v) h
  exact .inr ⟨x,t,rfl,e⟩
theorem z8p (i:Int) (t:Tok):z48 (.inl i) (.int i t)=true:=by simp [z48,Value.isInt]
theorem z7O (x:Str) (t:Tok):z48 (.inr x) (.str x t)=true:=by simp [z48,Value.isStrOf]
theorem zw4 (a b:Int):decide ((Sum.inl a:Key)=Sum.inl b)=(a == b):=by
 by_cases e:a=b
 ·subst e;simp
 ·have h:¬ (Sum.inl a:Key)=Sum.inl b:=fun q=>e (Sum.inl.inj q)
  rw [decide_eq_false h]
  exact (beq_eq_false_iff_ne.mpr e).symm
theorem zm6 (a b:Str):decide ((Sum.inr a:Key)=Sum.inr b)=decide (a=b):=by
 by_cases e:a=b
 ·subst e;simp
 ·have h:¬ (Sum.inr a:Key)=Sum.inr b:=fun q=>e (Sum.inr.inj q)
  rw [decide_eq_false h,decide_eq_false e]
theorem zq0 (a:Int) (b:Str):decide ((Sum.inl a:Key)=Sum.inr b)=false:=decide_eq_false (fun q=>nomatch q)
theorem zl8 (a:Str) (b:Int):decide ((Sum.inr a:Key)=Sum.inl b)=false:=decide_eq_false (fun q=>nomatch q)
def z0S (prog:Program) (w:World):PySem.KeyKind prog w Key where
 is:=z48
 hash:=keyH w
 inj:=fun v a b ha hb=>by
  rcases z0n ha with ⟨i,t,rfl,rfl⟩ | ⟨x,t,rfl,rfl⟩
  ·rcases z0n hb with ⟨j,u,rfl,e⟩ | ⟨y,u,rfl,e⟩
   ·injection e with e1 _;rw [e1]
   ·exact nomatch e
  ·rcases z0n hb with ⟨j,u,rfl,e⟩ | ⟨y,u,rfl,e⟩
   ·exact nomatch e
   ·injection e with e1 _;rw [e1]
 byValue:=fun k v h=>by
  rcases z0n h with ⟨i,t,rfl,rfl⟩ | ⟨x,t,rfl,rfl⟩<;>rfl
 pyHash:=fun hv h=>by
  rcases z0n hv with ⟨i,t,rfl,rfl⟩ | ⟨x,t,rfl,rfl⟩
  ·exact wpAny_pyHash_int h
  ·exact wpAny_pyHash_str h
 eqBool:=fun hu hv h=>by
  rcases z0n hu with ⟨i,t,rfl,rfl⟩ | ⟨x,t,rfl,rfl⟩
  ·rcases z0n hv with ⟨j,u,rfl,rfl⟩ | ⟨y,u,rfl,rfl⟩
   ·rw [zw4] at h;exact wpAny_eqBool_int h
   ·rw [zq0] at h;exact SeqAt.EqAt.int_str i t y u _ _ _ _ h
  ·rcases z0n hv with ⟨j,u,rfl,rfl⟩ | ⟨y,u,rfl,rfl⟩
   ·rw [zl8] at h;exact SeqAt.EqAt.str_int x t j u _ _ _ _ h
   ·rw [zm6] at h;exact wpAny_eqBool_str h
 «strs»:=fun k x t v h=>by
  rcases z0n h with ⟨i,u,rfl,e⟩ | ⟨y,u,rfl,e⟩
  ·exact nomatch e
  ·injection e with e1 _
   subst e1
   cases v<;>rfl
theorem z5N (prog:Program) (w:World) (i:Int) (t:Tok):(z0S prog w).is (.inl i) (.int i t)=true:=z8p i t
theorem z5A (prog:Program) (w:World) (x:Str) (t:Tok):(z0S prog w).is (.inr x) (.str x t)=true:=z7O x t
end L2
namespace FT
open PySem PySem.Spec PyProof.Rows L2
abbrev Rise (xs:Array Nat):Prop:=xs.toList.Pairwise (·<·)
instance keyMem (k:Key) (ks:List Key):Decidable (k∈ks):=@List.instDecidableMemOfLawfulBEq Key instBEqOfDecidableEq inferInstance k ks
section
variable (w:World)
def KE (k:Key) (e:Int×Value):Prop:=z48 k e.2=true/\e.1=keyH w k
def SetAt (h:Heap) (a:Addr) (ks:List Key):Prop :=
 ∃ o es ep t ks',h.get? a=some o/\o.ExactSet/\o.data=.set es ep t/\Paired (KE w) ks' es.toList/\ks'.Perm ks/\ks.Nodup/\es.size<scanBound/\t.fits es.size=true/\Rise t.place /\
  (t.led=true∨w.params.followText "set-order" = true)
end
def IsTup0 (h:Heap) (a:Addr) (items:Array Value):Prop:=∃ o,h.get? a=some o/\(o.cls=.type "tuple"/\o.dict=none)/\∃ n,o.data=.seq items n
theorem IsTup0.new (h:Heap) (items:Array Value):IsTup0 (h.push { cls:=.type "tuple",data:=.seq items }) h.objs.size items:=⟨_,Heap.get?_push_size _ rfl,⟨rfl,rfl⟩,_,rfl⟩
theorem IsTup0.tup {h:Heap}{a:Addr}{items:Array Value}(x:IsTup0 h a items):IsTup h a items:=let ⟨o,e,c,d⟩:=x;⟨o,e,c.1,d⟩
theorem IsTup0.lt {h:Heap}{a:Addr}{items:Array Value}(x:IsTup0 h a items):a<h.objs.size:=let ⟨_,e,_⟩:=x;Heap.lt_size e
end FT
namespace L2
open PySem PySem.Spec PyProof.Rows
inductive V where
 | non | bl (b:Bool) | int (i:Int) | str (x:Str) | byt (b:Array UInt8) | flt (b:UInt64) | ref (a:Addr) | ty (n:String)
 deriving DecidableEq
def RelV:V->Value->Prop
 | .non,u=>u=Value.none
 | .bl b,u=>u=Value.bool b
 | .int i,u=>∃ t,u=Value.int i t
 | .str x,u=>∃ t,u=Value.str x t
 | .byt b,u=>∃ t,u=Value.bytes b t
 | .flt b,u=>∃ t,u=Value.float b t
 | .ref a,u=>u=Value.ref a
 | .ty n,u=>u=Value.type n
abbrev Vals:List V->List Value->Prop:=Paired RelV
theorem Vals.length {xs:List V}{us:List Value}(r:Vals xs us):xs.length=us.length:=Paired.length r
theorem Vals.get:∀ {xs:List V}{us:List Value}{i:Nat}{x:V},Vals xs us->xs[i]?=some x->∃ u,us[i]?=some u/\RelV x u
 | _,_,_,_,.nil,e=>by simp at e
 | _,_,0,_,.cons r _,e=>by simp at e;subst e;exact ⟨_,rfl,r⟩
 | _,_,i+1,x,.cons _ t,e=>by
  obtain ⟨u,h1,h2⟩:=Vals.get (i:=i) (x:=x) t (by simpa using e)
  exact ⟨u,by simpa using h1,h2⟩
theorem Vals.set {x:V}{u:Value}(r:RelV x u):∀ {xs:List V}{us:List Value}(i:Nat),Vals xs us->Vals (xs.set i x) (us.set i u)
 | _,_,_,.nil=>.nil
 | _,_,0,.cons _ t=>.cons r t
 | _,_,i+1,.cons q t=>.cons q (Vals.set r i t)
theorem Vals.append:∀ {xs ys:List V}{us ws:List Value},Vals xs us->Vals ys ws->Vals (xs++ys) (us++ws)
 | _,_,_,_,.nil,s=>s
 | _,_,_,_,.cons r t,s=>.cons r (Vals.append t s)
theorem Vals.take:∀ {xs:List V}{us:List Value}(n:Nat),Vals xs us->Vals (xs.take n) (us.take n)
 | _,_,0,_=>.nil
 | _,_,_+1,.nil=>.nil
 | _,_,n+1,.cons r t=>.cons r (Vals.take n t)
theorem Vals.drop:∀ {xs:List V}{us:List Value}(n:Nat),Vals xs us->Vals (xs.drop n) (us.drop n)
 | _,_,0,r=>r
 | _,_,_+1,.nil=>.nil
 | _,_,n+1,.cons _ t=>Vals.drop n t
def RelO:Option V->Option Value->Prop
 | some v,some u=>RelV v u
 | none,none=>True
 | _,_=>False
def KV {κ:Type}:List (κ×V)->List (κ×Value)->Prop:=Paired fun (p:κ×V) (q:κ×Value)=>p.1=q.1/\RelV p.2 q.2
def kV:Key->V
 | .inl i=>.int i
 | .inr x=>.str x
inductive HO where
 | lst (xs:List V)
 | tup (xs:List V)
 | dK (kvs:List (Key×V)) | dT (kvs:List (List Key×V))
 | set (ks:List Key)
 | ins (C dx:Addr) (fs:List (Str×V))
 | own (x:Addr)
 | xd (fs:List (Str×V))
 | met (f x:Addr)
 | rng (lo hi:Int)
 | frz (o:Obj) (u:HO)
 | tbl (ps:Array Value)
 | ext (φ:Heap->Prop)
abbrev Hp:=Addr->Option HO
def upd (H:Hp) (a:Addr) (o:HO):Hp:=fun b=>if b=a then some o else H b
theorem z0I {H:Hp}{a:Addr}{o:HO}:upd H a o a=some o:=by unfold upd;rw [if_pos rfl]
theorem z06 {H:Hp}{a b:Addr}{o:HO}(h:b≠a):upd H a o b=H b:=by unfold upd;rw [if_neg h]
theorem zA9 {H:Hp}{a b:Addr}{o u:HO}(h:H a=some o) (h':H b=some u) (d:o≠u):a≠b:=by
 intro e;subst e;rw [h] at h';exact d (Option.some.inj h')
theorem z0g {H:Hp}{a b:Addr}{o:HO}(h:H a=some o) (h':H b=none):a≠b:=by
 intro e;subst e;rw [h] at h';cases h'
section
variable (P:Program) (w:World)
def ObjOk (H:Hp) (h:Heap) (a:Addr):HO->Prop
 | .lst xs=>xs.length≤sizeLine/\∃ (its:List Value) (n:Nat),Vals xs its/\h.get? a=some { cls:=.type "list",data:=.seq its.toArray n }
 | .tup xs=>xs.length≤sizeLine/\∃ its:List Value,Vals xs its/\FT.IsTup0 h a its.toArray
 | .dK kvs=>kvs.length≤sizeLine/\(a == sysModules)=false/\∃ vs,KV kvs vs/\h.DictOf (z0S P w) a vs
 | .dT kvs=>kvs.length≤sizeLine/\(a == sysModules)=false/\∃ xs:List (List Key×Addr×Value),
  Paired (fun (p:List Key×V) (q:List Key×Addr×Value)=>p.1=q.1/\H q.2.1=some (.tup (p.1.map kV))/\RelV p.2 q.2.2) kvs xs /\
  ∃ o es ep,h.get? a=some o/\o.ExactDict/\o.data=.dict es ep/\es.toList=xs.map (entryOfKey (tupleKind (z0S P w)))/\(xs.map (·.1)).Nodup
 | .set ks=>FT.SetAt w h a ks
 | .ins C dx fs=>H dx=some (.own a)/\fs.length≤1000/\dx≠a/\h.get? a=some (PySem.W.instObj C dx) /\
  ∃ mA,h.Ns1 dx mA/\(∀ f,RelO (fs.lookup f) (mA f))/\PySem.Within mA (fs.map (·.1))
 | .own _=>∃ o,h.get? a=some o
 | .xd fs=>∃ mA,h.Ns1 a mA/\∀ f,RelO (fs.lookup f) (mA f)
 | .rng lo hi=>∃ t u v,h.get? a=some { cls:=.type "range",data:=.fields #[.int lo t,.int hi u,.int 1 v] }
 | .frz o u=>h.get? a=some o/\ObjOk H h a u
 | .tbl ps=>h.get? a=some { cls:=.none,data:=.fields ps }
 | .met f x=>h.get? a=some (PySem.W.methodObj (.ref f) (.ref x))
 | .ext φ=>φ h/\(∃ o,h.get? a=some o)/\∀ h1 h2:Heap,φ h1->(∀ o,h1.get? a=some o->h2.get? a=some o)->φ h2
def HOk (H:Hp) (h:Heap):Prop:=∀ a o,H a=some o->ObjOk P w H h a o
end
section
variable {P:Program}{w:World}{H H':Hp}{h h':Heap}{a:Addr}{o:HO}
theorem ObjOk.lt (x:ObjOk P w H h a o):a<h.objs.size:=by
 cases o with
 | lst xs=>obtain ⟨_,_,_,_,e⟩:=x;exact Heap.lt_size e
 | tup xs=>obtain ⟨_,_,_,p⟩:=x;exact p.lt
 | dK kvs=>obtain ⟨_,_,_,_,o,_,_,e,_⟩:=x;exact Heap.lt_size e
 | dT kvs=>obtain ⟨_,_,_,_,o,_,_,e,_⟩:=x;exact Heap.lt_size e
 | set ks=>obtain ⟨o,_,_,_,_,e,_⟩:=x;exact Heap.lt_size e
 | ins C dx fs=>obtain ⟨_,_,_,e,_⟩:=x;exact Heap.lt_size e
 | own y=>obtain ⟨_,e⟩:=x;exact Heap.lt_size e
 | xd fs=>obtain ⟨_,⟨_,_,_,e,_⟩,_⟩:=x;exact Heap.lt_size e
 | rng lo hi=>obtain ⟨_,_,_,e⟩:=x;exact Heap.lt_size e
 | frz ob u=>obtain ⟨e,_⟩:=x;exact Heap.lt_size e
 | tbl ps=>exact Heap.lt_size (show h.get? a=some _ from x)
 | met f y=>exact Heap.lt_size (show h.get? a=some _ from x)
 | ext φ=>obtain ⟨_,⟨_,e⟩,_⟩:=x;exact Heap.lt_size e
theorem Paired.mapP {α β:Type}{F G:α->β->Prop}:∀ {l₁:List α}{l₂:List β},Paired F l₁ l₂->(∀ a b,F a b->G a b)->Paired G l₁ l₂
 | _,_,.nil,_=>.nil
 | _,_,.cons r t,f=>.cons (f _ _ r) (Paired.mapP t f)
theorem ObjOk.stay (x:ObjOk P w H h a o) (k:∀ b u,(b=a∨H b=some (.own a))->h.get? b=some u->h'.get? b=some u)
 (ho:∀ b,H b=some (.own a)->H' b=some (.own a)) (ht:∀ b xs,H b=some (.tup xs)->H' b=some (.tup xs)):ObjOk P w H' h' a o:=by
 induction o with
 | lst xs=>obtain ⟨z,its,n,r,e⟩:=x;exact ⟨z,its,n,r,k _ _ (.inl rfl) e⟩
 | tup xs=>obtain ⟨z,its,r,ob,e,c⟩:=x;exact ⟨z,its,r,ob,k _ _ (.inl rfl) e,c⟩
 | dK kvs=>obtain ⟨z,y,vs,r,ob,es,ep,e,c⟩:=x;exact ⟨z,y,vs,r,ob,es,ep,k _ _ (.inl rfl) e,c⟩
 | dT kvs =>
  obtain ⟨z,y,xs,r,ob,es,ep,e,c⟩:=x
  exact ⟨z,y,xs,Paired.mapP r fun p q z=>⟨z.1,ht _ _ z.2.1,z.2.2⟩,ob,es,ep,k _ _ (.inl rfl) e,c⟩
 | set ks=>obtain ⟨ob,es,ep,t,k',e,c⟩:=x;exact ⟨ob,es,ep,t,k',k _ _ (.inl rfl) e,c⟩
 | ins C dx fs =>
  obtain ⟨d,z,ne,e,mA,⟨od,es,ep,e2,c⟩,r⟩:=x
  exact ⟨ho _ d,z,ne,k _ _ (.inl rfl) e,mA,⟨od,es,ep,k _ _ (.inr d) e2,c⟩,r⟩
 | own y=>obtain ⟨ob,e⟩:=x;exact ⟨ob,k _ _ (.inl rfl) e⟩
 | xd fs=>obtain ⟨mA,⟨od,es,ep,e,c⟩,r⟩:=x;exact ⟨mA,⟨od,es,ep,k _ _ (.inl rfl) e,c⟩,r⟩
 | rng lo hi=>obtain ⟨t,u,v,e⟩:=x;exact ⟨t,u,v,k _ _ (.inl rfl) e⟩
 | frz ob u ih=>obtain ⟨e,q⟩:=x;exact ⟨k _ _ (.inl rfl) e,ih q⟩
 | tbl ps =>
  have e:h.get? a=some { cls:=.none,data:=.fields ps }:=x
  show h'.get? a=some { cls:=.none,data:=.fields ps }
  exact k a _ (.inl rfl) e
 | met f y =>
  have e:h.get? a=some (PySem.W.methodObj (.ref f) (.ref y)):=x
  show h'.get? a=some (PySem.W.methodObj (.ref f) (.ref y))
  exact k a _ (.inl rfl) e
 | ext φ=>obtain ⟨p,⟨o,e⟩,st⟩:=x;exact ⟨st _ _ p fun o q=>k _ _ (.inl rfl) q,⟨o,k _ _ (.inl rfl) e⟩,st⟩
theorem HOk.lt (x:HOk P w H h) (e:H a=some o):a<h.objs.size:=(x a o e).lt
theorem HOk.fresh (x:HOk P w H h) (e:h.objs.size≤a):H a=none:=by
 cases q:H a with
 | none=>rfl
 | some u=>exact absurd (Nat.lt_of_lt_of_le (x.lt q) e) (Nat.lt_irrefl _)
theorem HOk.kept (x:HOk P w H h) (k:∀ b u,h.get? b=some u->h'.get? b=some u):HOk P w H h':=fun a o e =>
 (x a o e).stay (fun b u _ q=>k b u q) (fun _ q=>q) fun _ _ q=>q
theorem HOk.laid (x:HOk P w H h) (k:∀ b u,h.get? b=some u->h'.get? b=some u) (hp:h.objs.size≤a) (new:ObjOk P w (upd H a o) h' a o):HOk P w (upd H a o) h':=fun b u e=>by
 have hn:=x.fresh hp
 by_cases hb:b=a
 ·subst hb;rw [z0I] at e;cases e;exact new
 ·rw [z06 hb] at e
  exact (x b u e).stay (fun c v _ q=>k c v q) (fun c q=>by rw [z06 (z0g q hn)];exact q) fun c xs q=>by rw [z06 (z0g q hn)];exact q
end
def Rd (H:Hp) (a:Addr) (u:HO):Prop:=H a=some u∨∃ o,H a=some (.frz o u)
theorem Rd.ok {P:Program}{w:World}{H:Hp}{h:Heap}{a:Addr}{u:HO}(r:Rd H a u) (x:HOk P w H h):ObjOk P w H h a u:=by
 rcases r with r | ⟨o,r⟩
 ·exact x a u r
 ·obtain ⟨_,q⟩:=x a _ r
  exact q
def Mut:Option HO->Prop
 | some (.lst _)=>True
 | some (.dK _)=>True
 | some (.dT _)=>True
 | some (.set _)=>True
 | some (.ins _ _ _)=>True
 | some (.ext _)=>True
 | _=>False
section
variable {P:Program}{w:World}{H:Hp}{h h':Heap}{x e:Addr}{o':HO}
theorem HOk.write (ok:HOk P w H h) (mu:Mut (H x)) (he:e=x∨H e=some (.own x)) (k:∀ b u,b≠e->h.get? b=some u->h'.get? b=some u) (heo:∃ u,h'.get? e=some u)
 (new:ObjOk P w (upd H x o') h' x o'):HOk P w (upd H x o') h':=fun b u q=>by
 have nown:∀ c y,H c=some (.own y)->c≠x:=fun c y r z=>by subst z;rw [r] at mu;exact mu
 have ntup:∀ c xs,H c=some (.tup xs)->c≠x:=fun c xs r z=>by subst z;rw [r] at mu;exact mu
 by_cases hb:b=x
 ·subst hb;rw [z0I] at q;cases q;exact new
 ·rw [z06 hb] at q
  by_cases hbe:b=e
  ·have q':H b=some (.own x):=by
    rcases he with z | z
    ·exact absurd (hbe.trans z) hb
    ·rw [hbe];exact z
   rw [q] at q';cases q'
   obtain ⟨v,hv⟩:=heo
   exact ⟨v,by rw [hbe];exact hv⟩
  ·refine (ok b u q).stay (fun c v hc r=>k c v ?_ r) (fun c r=>by rw [z06 (nown c b r)];exact r) fun c xs r=>by rw [z06 (ntup c xs r)];exact r
   rcases hc with rfl | hc
   ·exact hbe
   ·rintro rfl
    rcases he with z | z
    ·exact nown c b hc z
    ·rw [hc] at z;cases z;exact hb rfl
end
structure Un (fs ex:List Addr) (H H':Hp) (h h':Heap):Prop where
 keep:∀ b o,h.get? b=some o->H b=none->b∉fs->b∉ex->h'.get? b=some o
 slot:∀ b o,h.get? b=some o->H b=none->b∈fs->b∉ex->∃ sl,h'.get? b=some { o with slots:=sl }
 free:∀ b o,h.get? b=some o->H b=none->b∉ex->H' b=none
 there:∀ b o,h.get? b=some o->b∉ex->∃ o',h'.get? b=some o'
 tups:∀ b xs,H b=some (.tup xs)->H' b=some (.tup xs)
 frzs:∀ b o u,H b=some (.frz o u)->H' b=some (.frz o u)
 tbls:∀ b ps,H b=some (.tbl ps)->∃ more,H' b=some (.tbl (ps++more))
section
variable {fs fs' ex ex':List Addr}{H H1 H2:Hp}{h h1 h2 h':Heap}{a x e:Addr}{o:HO}
theorem Un.any (u:Un fs ex H H1 h h1) {b:Addr}{ob:Obj}(q:h.get? b=some ob) (n:H b=none) (hx:b∉ex):∃ sl,h1.get? b=some { ob with slots:=sl }:=by
 by_cases hb:b∈fs
 ·exact u.slot b ob q n hb hx
 ·exact ⟨ob.slots,u.keep b ob q n hb hx⟩
theorem Un.kept (k:∀ b u,h.get? b=some u->h'.get? b=some u):Un fs ex H H h h' :=
 ⟨fun b ob q _ _ _=>k b ob q,fun b ob q _ _ _=>⟨ob.slots,k b ob q⟩,fun _ _ _ n _=>n,fun b ob q _=>⟨ob,k b ob q⟩,fun _ _ q=>q,fun _ _ _ q=>q,fun _ ps q=>⟨#[],by rw [q];simp⟩⟩
theorem Un.refl:Un fs ex H H h h:=Un.kept fun _ _ q=>q
theorem Un.laid (k:∀ b u,h.get? b=some u->h'.get? b=some u) (hp:h.objs.size≤a) (hn:H a=none):Un fs ex H (upd H a o) h h' where
 keep:=fun b u q _ _ _=>k b u q
 slot:=fun b u q _ _ _=>⟨u.slots,k b u q⟩
 free:=fun b u q n _=>by rw [z06 (Nat.ne_of_lt (Nat.lt_of_lt_of_le (Heap.lt_size q) hp))];exact n
 there:=fun b u q _=>⟨u,k b u q⟩
 tups:=fun b xs q=>by rw [z06 (z0g q hn)];exact q
 frzs:=fun b u xs q=>by rw [z06 (z0g q hn)];exact q
 tbls:=fun b ps q=>⟨#[],by rw [z06 (z0g q hn),q];simp⟩
theorem Un.write (mu:Mut (H x)) (he:e=x∨H e=some (.own x)) (k:∀ b u,b≠e->h.get? b=some u->h'.get? b=some u) (heo:∃ u,h'.get? e=some u):Un fs ex H (upd H x o) h h':=by
 have hx:∀ b,H b=none->b≠x:=fun b n z=>by subst z;rw [n] at mu;exact mu
 have hb:∀ b,H b=none->b≠e:=fun b n z=>by
  subst z
  rcases he with r | r
  ·exact hx b n r
  ·rw [n] at r;cases r
 have hm:∀ b u,H b=some u->¬ Mut (some u)->b≠x:=fun b u q nm z=>by subst z;rw [q] at mu;exact nm mu
 refine ⟨fun b u q n _ _=>k b u (hb b n) q,fun b u q n _ _=>⟨u.slots,k b u (hb b n) q⟩,fun b u q n _=>by rw [z06 (hx b n)];exact n,fun b u q _=>?_,
  fun b xs q=>by rw [z06 (hm b _ q fun z=>z)];exact q,fun b u xs q=>by rw [z06 (hm b _ q fun z=>z)];exact q,fun b ps q=>⟨#[],by rw [z06 (hm b _ q fun z=>z),q];simp⟩⟩
 by_cases hbe:b=e
 ·subst hbe;exact heo
 ·exact ⟨u,k b u hbe q⟩
end
def trk (h:Heap) (H:Hp):List Addr:=(List.range h.objs.size).filter fun a=>(H a).isSome
def hidT (h:Heap) (H:Hp):Heap:=PySem.W.hideAll h (trk h H)
theorem z7R (h:Heap) (H:Hp):(hidT h H).objs.size=h.objs.size:=PySem.W.hideAll_size _ _
theorem z9i {h:Heap}{H:Hp}{b:Addr}{o:Obj}(e:h.get? b=some o) (n:H b=none):(hidT h H).get? b=some o :=
 PySem.W.hideAll_get _ e fun hm=>by
  have q:(H b).isSome=true:=(List.mem_filter.mp hm).2
  rw [n] at q;simp at q
theorem zi5 {h:Heap}{H:Hp}{b:Addr}{o:Obj}(e:(hidT h H).get? b=some o):h.get? b=some o/\H b=none:=by
 have e':h.get? b=some o:=PySem.W.of_hideAll (trk h H) e
 refine ⟨e',?_⟩
 cases q:H b with
 | none=>rfl
 | some x =>
  have hm:b∈trk h H:=List.mem_filter.mpr ⟨List.mem_range.mpr (Heap.lt_size e'),by simp [q]⟩
  have z:(hidT h H).get? b=none:=PySem.W.hideAll_none (trk h H) hm
  rw [z] at e;cases e
def zg3 (g h:Heap) (L:Addr):List (Addr×Obj):=(List.range h.objs.size).filterMap fun a=>if a=L∨(g.get? a).isSome=true then none else (h.get? a).map fun o=>(a,o)
def rest (g h:Heap) (L d:Addr):List (Addr×Obj):=(zg3 g h L).filter fun p=>decide (p.1≠d)
structure Mod (K:PySem.W.Frag) (mg:Str->Option Value) (base:Heap):Prop where
 kin:K.In base
 glob:base.Ns mainGlobals mg
 blt:∃ mb,base.Ns builtinsNs mb/\∀ x:Str,x≠"__name__"->mb x=bootBuiltins x
 nolimit:base.NoLimit
structure Cx where
 prog:Program
 w:World
 K:PySem.W.Frag
 mg:Str->Option Value
 base:Heap
 A:Around
 N:List Str
 s₀:Shared
 H₀:Hp
 env:Env
 outer:List Env
 stack:List Env
 ex:List Addr
 fn:Str->Bool
 calm:Bool
 pn:List (Addr×Obj)
 xe:Value->Shared->Prop
def frs (l:List Env):List Addr:=l.filterMap (·.frame)
abbrev Cx.fs (X:Cx):List Addr:=frs X.outer
def Vis (sc:Scope) (x:Str):Prop:=sc.names.lookup x=some .local∨sc.names.lookup x=some .cell∨sc.names.lookup x=some .free
def Loc (sc:Scope) (x:Str):Prop:=sc.names.lookup x=some .local∨sc.names.lookup x=some .cell
def Look (env:Env) (h:Heap) (m:Str->Option Value) (x:Str) (u:Value):Prop :=
 (env.kindOf x=some .local/\m x=some u)∨((env.kindOf x=some .cell∨env.kindOf x=some .free)/\∃ c,env.cells.lookup x=some c/\h.IsCell c (some u))
structure Cx.Ok (X:Cx):Prop where
 mod:Mod X.K X.mg X.base
 kind:X.env.scope.kind=.function
 glob:X.env.globals=mainGlobals
 blt:X.env.builtins=builtinsNs
 above:X.s₀.heap.objs.size≤X.env.locals
 inj:∀ x y c,X.env.cells.lookup x=some c->X.env.cells.lookup y=some c->x=y
 has:∀ x,(X.env.kindOf x=some .cell∨X.env.kindOf x=some .free)->∃ c,X.env.cells.lookup x=some c
 cab:∀ x c,X.fn x=true->X.env.cells.lookup x=some c->X.s₀.heap.objs.size≤c
 hd:X.calm=true->X.A.handled=none
 frames:X.A.frames=some X.stack
 stk:X.stack=X.outer∨(X.stack=X.env :: X.outer/\X.env.frame=some X.env.locals)
 exf:∀ b∈X.ex,b≠X.env.locals/\∀ x c,X.env.cells.lookup x=some c->c≠b
 bs:∀ b o,X.base.get? b=some o->X.s₀.heap.get? b=some o/\X.H₀ b=none
 bsz:X.base.objs.size≤X.s₀.heap.objs.size
 noex:∀ b o,X.base.get? b=some o->b∉X.ex
 exfs:∀ b∈X.ex,b∉X.fs
 funs:X.s₀.heap.FunFrames X.base X.outer
 frf:∀ b∈X.fs,X.H₀ b=none
structure Inv (X:Cx) (pins:List (Addr×Obj)) (σ:List (Option V)) (H:Hp) (s:Shared):Prop where
 ok:X.Ok
 os:s.os=X.s₀.os
 bare:AllBare s.gens
 base:Un X.fs X.ex X.H₀ H X.s₀.heap s.heap
 loc:∃ m,s.heap.Ns X.env.locals m/\∀ (i:Nat) (x:Str) (v:V),X.N[i]?=some x->σ[i]?=some (some v)->Vis X.env.scope x->∃ u,RelV v u/\Look X.env s.heap m x u
 cell:∀ x c,X.env.cells.lookup x=some c->∃ v,s.heap.IsCell c v
 free:H X.env.locals=none
 freeC:∀ x c,X.env.cells.lookup x=some c->H c=none
 pin:∀ p∈X.pn++pins,s.heap.get? p.1=some p.2/\H p.1=none/\p.1≠X.env.locals/\p.1∉X.fs/\∀ v,p.2.data≠.cell v
 hok:HOk X.prog X.w H s.heap
 len:σ.length=X.N.length
section
variable {X:Cx}{pins:List (Addr×Obj)}{σ:List (Option V)}{H H':Hp}{s:Shared}{h':Heap}
theorem Cx.Ok.nofr (ok:X.Ok) {b:Addr}{o:Obj}(e:X.base.get? b=some o):b∉X.fs:=fun hb=>by
 have:=(ok.funs.mem hb).1
 rw [e] at this;cases this
theorem Inv.bs (I:Inv X pins σ H s):∀ b o,X.base.get? b=some o->s.heap.get? b=some o/\H b=none:=fun b o e =>
 ⟨I.base.keep b o (I.ok.bs b o e).1 (I.ok.bs b o e).2 (I.ok.nofr e) (I.ok.noex b o e),I.base.free b o (I.ok.bs b o e).1 (I.ok.bs b o e).2 (I.ok.noex b o e)⟩
theorem Inv.bk (I:Inv X pins σ H s):∀ b o,X.base.get? b=some o->s.heap.get? b=some o:=fun b o e=>(I.bs b o e).1
theorem Inv.mod (I:Inv X pins σ H s):Mod X.K X.mg X.base:=I.ok.mod
theorem Inv.kIn (I:Inv X pins σ H s):X.K.In s.heap:=I.ok.mod.kin.keeps I.bk
theorem Inv.fr (I:Inv X pins σ H s):∃ m,Fr X.base X.env.locals s.heap m :=
 let ⟨m,hn,_⟩:=I.loc
 ⟨m,hn,I.bk,Nat.le_trans I.ok.bsz I.ok.above⟩
theorem Inv.lt (I:Inv X pins σ H s):X.env.locals<s.heap.objs.size:=let ⟨_,hn,_⟩:=I.loc;hn.lt
theorem Inv.sz (I:Inv X pins σ H s):X.s₀.heap.objs.size≤s.heap.objs.size:=Nat.le_trans I.ok.above (Nat.le_of_lt I.lt)
theorem Inv.nofs (I:Inv X pins σ H s) {a:Addr}(h:s.heap.objs.size≤a):a∉X.fs:=fun hb=>by
 obtain ⟨_,o,ho,_⟩:=I.ok.funs.mem hb
 exact absurd (Nat.lt_of_lt_of_le (Heap.lt_size ho) (Nat.le_trans I.sz h)) (Nat.lt_irrefl _)
theorem Inv.cne (I:Inv X pins σ H s):∀ x c,X.env.cells.lookup x=some c->c≠X.env.locals:=fun x c e z=>by
 obtain ⟨v,o,ho,hd⟩:=I.cell x c e
 obtain ⟨m,⟨o',es,ep,ho',hd',_⟩,_⟩:=I.loc
 rw [z,ho'] at ho;cases ho;rw [hd'] at hd;cases hd
theorem Inv.funs (I:Inv X pins σ H s):s.heap.FunFrames X.base X.outer:=by
 have all:∀ (l:List Env),(∀ b∈frs l,b∈X.fs)->X.s₀.heap.FunFrames X.base l->s.heap.FunFrames X.base l:=by
  intro l
  induction l with
  | nil=>intro _ _;trivial
  | cons env r ih =>
   intro hs hl
   obtain ⟨hk,⟨L,o,hf,hn,ho,hd⟩,hr⟩:=hl
   have hL:L∈X.fs:=hs L (by unfold frs;rw [List.filterMap_cons,hf];exact List.mem_cons_self)
   obtain ⟨sl,e⟩:=I.base.slot L o ho (I.ok.frf L hL) hL fun z=>I.ok.exfs L z hL
   exact ⟨hk,⟨L,_,hf,hn,e,hd⟩,ih (fun b hb=>hs b (by unfold frs;rw [List.filterMap_cons,hf];exact List.mem_cons_of_mem _ hb)) hr⟩
 exact all X.outer (fun _ hb=>hb) I.ok.funs
theorem Inv.stack (I:Inv X pins σ H s):s.heap.FunFrames X.base X.stack:=by
 rcases I.ok.stk with e | ⟨e,hf⟩
 ·rw [e];exact I.funs
 ·rw [e]
  obtain ⟨m,hn,_⟩:=I.loc
  refine .cons (by rw [I.ok.kind];decide) hf hn ?_ I.funs
  exact Heap.get?_none_of_le (Nat.le_trans I.ok.bsz I.ok.above)
theorem Inv.stkSub (I:Inv X pins σ H s):∀ b∈frs X.stack,b∈X.env.locals :: X.fs:=fun b hb=>by
 rcases I.ok.stk with e | ⟨e,hf⟩
 ·rw [e] at hb;exact List.mem_cons_of_mem _ hb
 ·rw [e] at hb
  unfold frs at hb
  rw [List.filterMap_cons,hf] at hb
  exact hb
theorem Inv.stkFree (I:Inv X pins σ H s):∀ b∈frs X.stack,H b=none:=fun b hb=>by
 rcases List.mem_cons.mp (I.stkSub b hb) with e | hb
 ·rw [e];exact I.free
 ·obtain ⟨_,o,ho,_⟩:=I.ok.funs.mem hb
  exact I.base.free b o ho (I.ok.frf b hb) fun z=>I.ok.exfs b z hb
theorem Inv.step {g':Array GenState}{t':Nat}{d':Drawn}{ch:List Addr}(I:Inv X pins σ H s)
 (hch:∀ b∈ch,(b∈X.ex∨X.s₀.heap.objs.size≤b)/\b≠X.env.locals/\(∀ x c,X.env.cells.lookup x=some c->c≠b)/\∀ p∈X.pn++pins,p.1≠b)
 (keep:∀ b o,b≠X.env.locals->b∉X.fs->b∉ch->s.heap.get? b=some o->H b=none->h'.get? b=some o)
 (slot:∀ b o,b≠X.env.locals->b∈X.fs->b∉ch->s.heap.get? b=some o->H b=none->∃ sl,h'.get? b=some { o with slots:=sl }) (free:∀ b o,b∉ch->s.heap.get? b=some o->H b=none->H' b=none)
 (there:∀ b o,b∉ch->s.heap.get? b=some o->∃ o',h'.get? b=some o')
 (tups:∀ b xs,H b=some (.tup xs)->H' b=some (.tup xs)) (frzs:∀ b o u,H b=some (.frz o u)->H' b=some (.frz o u)) (tbls:∀ b ps,H b=some (.tbl ps)->∃ more,H' b=some (.tbl (ps++more)))
 (ns:∀ m,s.heap.Ns X.env.locals m->h'.Ns X.env.locals m) (hok:HOk X.prog X.w H' h') (hg:AllBare g') :
 Inv X pins σ H' { s with heap:=h',gens:=g',drawn:=d',toks:=t' }:=by
 have neL:∀ b o,X.s₀.heap.get? b=some o->b≠X.env.locals:=fun b o e=>Nat.ne_of_lt (Nat.lt_of_lt_of_le (Heap.lt_size e) I.ok.above)
 have neC:∀ b o,X.s₀.heap.get? b=some o->b∉X.ex->b∉ch:=fun b o e hx hb=>by
  rcases (hch b hb).1 with z | z
  ·exact hx z
  ·exact absurd (Nat.lt_of_lt_of_le (Heap.lt_size e) z) (Nat.lt_irrefl _)
 have cellK:∀ x c,X.env.cells.lookup x=some c->∀ v,s.heap.IsCell c v->h'.IsCell c v:=fun x c e v ⟨o,ho,hd⟩=>by
  have nch:c∉ch:=fun z=>(hch c z).2.2.1 x c e rfl
  by_cases hc:c∈X.fs
  ·obtain ⟨sl,q⟩:=slot c o (I.cne x c e) hc nch ho (I.freeC x c e)
   exact ⟨_,q,hd⟩
  ·exact ⟨o,keep c o (I.cne x c e) hc nch ho (I.freeC x c e),hd⟩
 refine ⟨I.ok,I.os,hg,⟨fun b o e n hb hx=>?_,fun b o e n hb hx=>?_,fun b o e n hx=>?_,fun b o e hx=>?_,fun b xs e=>tups b xs (I.base.tups b xs e),fun b o xs e=>frzs b o xs (I.base.frzs b o xs e),fun b ps e=>?_⟩,?_,fun x c e=>?_,?_,fun x c e=>?_,fun p hp=>?_,hok,I.len⟩
 ·exact keep b o (neL b o e) hb (neC b o e hx) (I.base.keep b o e n hb hx) (I.base.free b o e n hx)
 ·obtain ⟨sl,e1⟩:=I.base.slot b o e n hb hx
  obtain ⟨sl',e2⟩:=slot b _ (neL b o e) hb (neC b o e hx) e1 (I.base.free b o e n hx)
  exact ⟨sl',e2⟩
 ·obtain ⟨o',e1⟩:=I.base.there b o e hx
  exact free b o' (neC b o e hx) e1 (I.base.free b o e n hx)
 ·obtain ⟨o',e1⟩:=I.base.there b o e hx
  exact there b o' (neC b o e hx) e1
 ·obtain ⟨m1,e1⟩:=I.base.tbls b ps e
  obtain ⟨m2,e2⟩:=tbls b _ e1
  exact ⟨m1++m2,by rw [e2,Array.append_assoc]⟩
 ·obtain ⟨m,hn,hl⟩:=I.loc
  refine ⟨m,ns m hn,fun i x v e1 e2 e3=>?_⟩
  obtain ⟨u,r,l⟩:=hl i x v e1 e2 e3
  refine ⟨u,r,?_⟩
  rcases l with l | ⟨k,c,e,z⟩
  ·exact .inl l
  ·exact .inr ⟨k,c,e,cellK x c e _ z⟩
 ·obtain ⟨v,z⟩:=I.cell x c e
  exact ⟨v,cellK x c e v z⟩
 ·obtain ⟨m,⟨o,_,_,ho,_⟩,_⟩:=I.loc
  exact free _ o (fun z=>(hch _ z).2.1 rfl) ho I.free
 ·obtain ⟨v,o,ho,hd⟩:=I.cell x c e
  exact free c o (fun z=>(hch c z).2.2.1 x c e rfl) ho (I.freeC x c e)
 ·obtain ⟨e,n,ne,nf,d⟩:=I.pin p hp
  have nch:p.1∉ch:=fun z=>(hch p.1 z).2.2.2 p hp rfl
  exact ⟨keep p.1 p.2 ne nf nch e n,free p.1 p.2 nch e n,ne,nf,d⟩
theorem Inv.un {t':Nat}(I:Inv X pins σ H s) (u:Un X.fs [] H H' s.heap h') (hok:HOk X.prog X.w H' h'):Inv X pins σ H' { s with heap:=h',toks:=t' }:=by
 obtain ⟨m,⟨o,es,ep,ho,r⟩,_⟩:=id I.loc
 obtain ⟨sl,hL⟩:=u.any ho I.free (by simp)
 exact I.step (g':=s.gens) (d':=s.drawn) (ch:=[]) (fun _ z=>nomatch z) (fun b o _ hb _ e n=>u.keep b o e n hb (by simp)) (fun b o _ hb _ e n=>u.slot b o e n hb (by simp)) (fun b o _ e n=>u.free b o e n (by simp)) (fun b o _ e=>u.there b o e (by simp)) u.tups u.frzs u.tbls (fun m' hm=>by
  obtain ⟨o',es',ep',ho',r'⟩:=hm
  rw [ho] at ho';cases ho'
  exact ⟨_,es',ep',hL,r'⟩) hok I.bare
theorem Inv.call {g':Array GenState}{t':Nat}{d':Drawn}{ch:List Addr}(I:Inv X pins σ H s) (u:Un (frs X.stack) ch H H' s.heap h') (hok:HOk X.prog X.w H' h') (hg:AllBare g')
 (hch:∀ b∈ch,(b∈X.ex∨X.s₀.heap.objs.size≤b)/\b≠X.env.locals/\(∀ x c,X.env.cells.lookup x=some c->c≠b)/\∀ p∈X.pn++pins,p.1≠b) :
 Inv X pins σ H' { s with heap:=h',gens:=g',drawn:=d',toks:=t' }:=by
 obtain ⟨m,⟨o,es,ep,ho,r⟩,_⟩:=id I.loc
 obtain ⟨sl,hL⟩:=u.any ho I.free fun z=>(hch _ z).2.1 rfl
 exact I.step (ch:=ch) hch (fun b o hL hb hc e n=>u.keep b o e n (fun z=>(List.mem_cons.mp (I.stkSub b z)).elim hL hb) hc) (fun b o _ _ hc e n=>u.any e n hc) (fun b o hc e n=>u.free b o e n hc) (fun b o hc e=>u.there b o e hc) u.tups u.frzs u.tbls (fun m' hm=>by
  obtain ⟨o',es',ep',ho',r'⟩:=hm
  rw [ho] at ho';cases ho'
  exact ⟨_,es',ep',hL,r'⟩) hok hg
theorem Inv.turned {t':Nat}{it:Addr}(I:Inv X pins σ H s) (k:∀ b o,b≠it->s.heap.get? b=some o->h'.get? b=some o) (hn:H it=none) (hL:it≠X.env.locals)
 (h1:it∈X.ex∨X.s₀.heap.objs.size≤it) (h2:∀ x c,X.env.cells.lookup x=some c->c≠it) (h3:∀ p∈X.pn++pins,p.1≠it):Inv X pins σ H { s with heap:=h',toks:=t' }:=by
 have nit:∀ b u,H b=some u->b≠it:=fun b u e z=>by rw [z,hn] at e;cases e
 refine I.step (g':=s.gens) (d':=s.drawn) (ch:=[it]) (fun b hb=>?_) (fun b o _ _ hc e _=>k b o (fun z=>hc (by simp [z])) e) (fun b o _ _ hc e _=>⟨o.slots,k b o (fun z=>hc (by simp [z])) e⟩) (fun _ _ _ _ n=>n)
  (fun b o hc e=>⟨o,k b o (fun z=>hc (by simp [z])) e⟩) (fun _ _ e=>e) (fun _ _ _ e=>e) (fun b ps e=>⟨#[],by rw [e];simp⟩) (fun m hm=>?_) (fun b u e=>?_) I.bare
 ·have e:b=it:=by simpa using hb
  subst e
  exact ⟨h1,hL,h2,h3⟩
 ·obtain ⟨o,es,ep,ho,r⟩:=hm
  exact ⟨o,es,ep,k _ o (Ne.symm hL) ho,r⟩
 ·refine (I.hok b u e).stay (fun c v hc q=>k c v ?_ q) (fun _ q=>q) fun _ _ q=>q
  rcases hc with z | z
  ·rw [z];exact nit b u e
  ·exact nit c _ z
theorem Inv.tok (I:Inv X pins σ H s) (t:Nat):Inv X pins σ H { s with toks:=t }:=I.un (h':=s.heap) (t':=t) Un.refl I.hok
theorem Inv.kept {t':Nat}(I:Inv X pins σ H s) (k:∀ b u,s.heap.get? b=some u->h'.get? b=some u):Inv X pins σ H { s with heap:=h',toks:=t' }:=I.un (Un.kept k) (I.hok.kept k)
theorem Inv.laid {a:Addr}{o:HO}{t':Nat}(I:Inv X pins σ H s) (k:∀ b u,s.heap.get? b=some u->h'.get? b=some u) (hp:s.heap.objs.size≤a) (new:ObjOk X.prog X.w (upd H a o) h' a o) :
 Inv X pins σ (upd H a o) { s with heap:=h',toks:=t' }:=I.un (Un.laid k hp (I.hok.fresh hp)) (I.hok.laid k hp new)
theorem Inv.write {x e:Addr}{o:HO}{t':Nat}(I:Inv X pins σ H s) (mu:Mut (H x)) (he:e=x∨H e=some (.own x)) (k:∀ b u,b≠e->s.heap.get? b=some u->h'.get? b=some u) (heo:∃ u,h'.get? e=some u)
 (new:ObjOk X.prog X.w (upd H x o) h' x o):Inv X pins σ (upd H x o) { s with heap:=h',toks:=t' }:=I.un (Un.write mu he k heo) (I.hok.write mu he k heo new)
theorem Inv.weak {σ':List (Option V)}(I:Inv X pins σ H s) (hl:σ'.length=σ.length) (w:∀ (i:Nat) v,σ'[i]?=some (some v)->σ[i]?=some (some v)):Inv X pins σ' H s :=
 ⟨I.ok,I.os,I.bare,I.base,let ⟨m,hn,hl'⟩:=I.loc;⟨m,hn,fun i x v e1 e2 e3=>hl' i x v e1 (w i v e2) e3⟩,I.cell,I.free,I.freeC,I.pin,I.hok,hl.trans I.len⟩
theorem Inv.pins_of {pins':List (Addr×Obj)}(I:Inv X pins σ H s) (h:∀ p∈pins',s.heap.get? p.1=some p.2/\H p.1=none/\p.1≠X.env.locals/\p.1∉X.fs/\∀ v,p.2.data≠.cell v):Inv X pins' σ H s :=
 ⟨I.ok,I.os,I.bare,I.base,I.loc,I.cell,I.free,I.freeC,fun p hp=>(List.mem_append.mp hp).elim (fun z=>I.pin p (List.mem_append_left _ z)) (h p),I.hok,I.len⟩
theorem z5W {N:List Str}(hN:N.Nodup) {i j:Nat}{x:Str}(a:N[i]?=some x) (b:N[j]?=some x):i=j:=by
 obtain ⟨h1,e1⟩:=List.getElem?_eq_some_iff.mp a
 obtain ⟨h2,e2⟩:=List.getElem?_eq_some_iff.mp b
 exact (List.getElem_inj hN).mp (e1.trans e2.symm)
theorem z8A {M:Model}{A:Around}{E:Value->Shared->Prop}{i:Nat}{x:Str}{v:V}{u:Value}{Q:Unit->Shared->Prop}(I:Inv X pins σ H s) (hN:X.N.Nodup) (hi:X.N[i]?=some x) (hx:Loc X.env.scope x) (r:RelV v u)
 (h:∀ s',Inv X pins (σ.set i (some v)) H s'->(∃ a,Heap.SameBut a s.heap s'.heap/\(a=X.env.locals∨X.env.cells.lookup x=some a))->Q () s') (hf:X.fn x=true∨X.env.scope.names.lookup x=some .local:=by first | exact .inl rfl | exact .inr rfl | assumption):wpAny M A (storeName X.env x u) Q E s:=by
 obtain ⟨m,hn,hl⟩:=id I.loc
 have hcls:(X.env.scope.kind == .class || (X.env.scope.kind == .module && X.env.locals != X.env.globals))=false:=by rw [I.ok.kind];rfl
 have hiσ:i<σ.length:=by rw [I.len];exact (List.getElem?_eq_some_iff.mp hi).1
 have cne:=I.cne
 have tracked:∀ {a:Addr} {h':Heap},(∃ o,s.heap.get? a=some o/\H a=none)->Heap.SameBut a s.heap h'->HOk X.prog X.w H h':=fun {a h'} ha hs b ob e=>by
  obtain ⟨_,_,hfree⟩:=ha
  refine (I.hok b ob e).stay (fun c w' hc q=>(hs.2 c ?_).trans q) (fun _ q=>q) fun _ _ q=>q
  rintro rfl
  rcases hc with rfl | hc
  ·rw [hfree] at e;cases e
  ·rw [hfree] at hc;cases hc
 rcases hx with hk | hk
 ·refine wpAny_storeName_local hk hn (fun h' hn' hs=>?_) hcls
  obtain ⟨oL,_,_,hoL,_⟩:=id hn
  refine h _ ⟨I.ok,I.os,I.bare,⟨fun b o e n hb hx=>?_,fun b o e n hb hx=>?_,I.base.free,fun b o e hx=>?_,I.base.tups,I.base.frzs,I.base.tbls⟩,⟨_,hn',fun j y v' e1 e2 e3=>?_⟩,fun y c e=>?_,I.free,I.freeC,fun p hp=>?_,tracked ⟨oL,hoL,I.free⟩ hs,by simpa using I.len⟩ ⟨_,hs,.inl rfl⟩
  ·exact (hs.2 b (Nat.ne_of_lt (Nat.lt_of_lt_of_le (Heap.lt_size e) I.ok.above))).trans (I.base.keep b o e n hb hx)
  ·obtain ⟨sl,e1⟩:=I.base.slot b o e n hb hx
   exact ⟨sl,(hs.2 b (Nat.ne_of_lt (Nat.lt_of_lt_of_le (Heap.lt_size e) I.ok.above))).trans e1⟩
  ·obtain ⟨o',e1⟩:=I.base.there b o e hx
   exact ⟨o',(hs.2 b (Nat.ne_of_lt (Nat.lt_of_lt_of_le (Heap.lt_size e) I.ok.above))).trans e1⟩
  ·by_cases hj:j=i
   ·subst hj
    rw [hi] at e1;cases e1
    rw [List.getElem?_set_self hiσ] at e2
    cases e2
    exact ⟨u,r,.inl ⟨hk,by simp⟩⟩
   ·rw [List.getElem?_set_ne (Ne.symm hj)] at e2
    obtain ⟨u',r',q⟩:=hl j y v' e1 e2 e3
    refine ⟨u',r',?_⟩
    rcases q with ⟨k,e⟩ | ⟨k,c,e,z⟩
    ·refine .inl ⟨k,?_⟩
     have:y≠x:=fun e=>hj (z5W hN e1 (e ▸ hi))
     simp [this,e]
    ·exact .inr ⟨k,c,e,z.sameBut hs (cne y c e)⟩
  ·obtain ⟨w',z⟩:=I.cell y c e
   exact ⟨w',z.sameBut hs (cne y c e)⟩
  ·obtain ⟨e,n,ne,nf,d⟩:=I.pin p hp
   exact ⟨(hs.2 p.1 ne).trans e,n,ne,nf,d⟩
 ·have hfn:X.fn x=true:=by
   rcases hf with z | z
   ·exact z
   ·rw [z] at hk;cases hk
  obtain ⟨c,hc⟩:=I.ok.has x (.inl hk)
  obtain ⟨w',z⟩:=I.cell x c hc
  refine wpAny_storeName_cell I.ok.kind hk hc z (fun h' hc' hs=>?_)
  obtain ⟨oc,hoc,hocd⟩:=id z
  refine h { s with heap:=h' } ⟨I.ok,I.os,I.bare,⟨fun b o e n hb hx=>?_,fun b o e n hb hx=>?_,I.base.free,fun b o e hx=>?_,I.base.tups,I.base.frzs,I.base.tbls⟩,⟨m,hn.sameBut hs (Ne.symm (cne x c hc)),fun j y v' e1 e2 e3=>?_⟩,fun y c' e=>?_,I.free,I.freeC,fun p hp=>?_,tracked ⟨oc,hoc,I.freeC x c hc⟩ hs,by simpa using I.len⟩ ⟨c,hs,.inr hc⟩
  ·exact (hs.2 b (Nat.ne_of_lt (Nat.lt_of_lt_of_le (Heap.lt_size e) (I.ok.cab x c hfn hc)))).trans (I.base.keep b o e n hb hx)
  ·obtain ⟨sl,e1⟩:=I.base.slot b o e n hb hx
   exact ⟨sl,(hs.2 b (Nat.ne_of_lt (Nat.lt_of_lt_of_le (Heap.lt_size e) (I.ok.cab x c hfn hc)))).trans e1⟩
  ·obtain ⟨o',e1⟩:=I.base.there b o e hx
   exact ⟨o',(hs.2 b (Nat.ne_of_lt (Nat.lt_of_lt_of_le (Heap.lt_size e) (I.ok.cab x c hfn hc)))).trans e1⟩
  ·by_cases hj:j=i
   ·subst hj
    rw [hi] at e1;cases e1
    rw [List.getElem?_set_self hiσ] at e2
    cases e2
    exact ⟨u,r,.inr ⟨.inl hk,c,hc,hc'⟩⟩
   ·rw [List.getElem?_set_ne (Ne.symm hj)] at e2
    obtain ⟨u',r',q⟩:=hl j y v' e1 e2 e3
    refine ⟨u',r',?_⟩
    rcases q with q | ⟨k,c',e,z'⟩
    ·exact .inl q
    ·refine .inr ⟨k,c',e,z'.sameBut hs ?_⟩
     rintro rfl
     exact hj (z5W hN e1 (I.ok.inj _ _ _ e hc ▸ hi))
  ·by_cases hcc:c'=c
   ·subst hcc;exact ⟨_,hc'⟩
   ·obtain ⟨w2,z2⟩:=I.cell y c' e
    exact ⟨w2,z2.sameBut hs hcc⟩
  ·obtain ⟨e,n,ne,nf,d⟩:=I.pin p hp
   refine ⟨(hs.2 p.1 ?_).trans e,n,ne,nf,d⟩
   intro q
   rw [q,hoc] at e
   have q':oc=p.2:=Option.some.inj e
   exact d w' (by rw [← q'];exact hocd)
theorem z6g {M:Model}{A:Around}{E:Value->Shared->Prop}{i:Nat}{x:Str}{v:V}{u:Value}{Q:Unit->Shared->Prop}(I:Inv X pins σ H s) (hN:X.N.Nodup) (hi:X.N[i]?=some x) (hx:Loc X.env.scope x) (r:RelV v u)
 (h:∀ s',Inv X pins (σ.set i (some v)) H s'->Q () s') (hf:X.fn x=true∨X.env.scope.names.lookup x=some .local:=by first | exact .inl rfl | exact .inr rfl | assumption):wpAny M A (storeName X.env x u) Q E s :=
 z8A I hN hi hx r (fun s' I' _=>h s' I') hf
theorem Inv.call' {s':Shared}{ch:List Addr}(I:Inv X pins σ H s) (ho:s'.os=s.os) (u:Un (frs X.stack) ch H H' s.heap s'.heap) (hok:HOk X.prog X.w H' s'.heap) (hg:AllBare s'.gens)
 (hch:∀ b∈ch,(b∈X.ex∨X.s₀.heap.objs.size≤b)/\b≠X.env.locals/\(∀ x c,X.env.cells.lookup x=some c->c≠b)/\∀ p∈X.pn++pins,p.1≠b):Inv X pins σ H' s':=by
 obtain ⟨h',g',d',t',o'⟩:=s'
 have e:o'=s.os:=ho
 subst e
 exact I.call (g':=g') (t':=t') (d':=d') u hok hg hch
end
abbrev XK:=Value->Option Addr->Hp->Prop
abbrev St:=List (Option V)
abbrev VK:=V->Hp->Prop
abbrev TE:=St->Hp->VK->Prop
abbrev TT:=St->Hp->(Bool->Hp->Prop)->Prop
abbrev TA:=St->Hp->(List V->Hp->Prop)->Prop
structure Ends where
 nx:St->Hp->Prop
 rt:VK
 bk:St->Hp->Prop:=fun _ _=>False
 ct:St->Hp->Prop:=fun _ _=>False
abbrev TS:=Ends->St->Hp->Prop
def EP (X:Cx) (pins:List (Addr×Obj)) (σ:St) (Q:VK) (u:Value) (s':Shared):Prop:=∃ v H',Inv X pins σ H' s'/\RelV v u/\Q v H'
def TP (X:Cx) (pins:List (Addr×Obj)) (σ:St) (Q:Bool->Hp->Prop) (b:Bool) (s':Shared):Prop:=∃ H',Inv X pins σ H' s'/\Q b H'
def AP (X:Cx) (pins:List (Addr×Obj)) (σ:St) (Q:List V->Hp->Prop) (us:List Value) (s':Shared):Prop:=∃ vs H',Inv X pins σ H' s'/\Vals vs us/\Q vs H'
def SP (X:Cx) (pins:List (Addr×Obj)) (D:Ends) (f:Flow) (s':Shared):Prop :=
 match f with
 | .next=>∃ σ' H',Inv X pins σ' H' s'/\D.nx σ' H'
 | .brk=>∃ σ' H',Inv X pins σ' H' s'/\D.bk σ' H'
 | .cont=>∃ σ' H',Inv X pins σ' H' s'/\D.ct σ' H'
 | .ret u=>∃ v σ' H',Inv X pins σ' H' s'/\RelV v u/\D.rt v H'
def PE (X:Cx) (e:Expr) (t:TE):Prop :=
 ∀ (pins:List (Addr×Obj)) (s:Shared) (σ:St) (H:Hp) (Q:VK),Inv X pins σ H s->t σ H Q->wpAny (model X.prog X.w) X.A (eval e X.env) (EP X pins σ Q) X.xe s
def PT (X:Cx) (e:Expr) (t:TT):Prop :=
 ∀ (pins:List (Addr×Obj)) (s:Shared) (σ:St) (H:Hp) (Q:Bool->Hp->Prop),Inv X pins σ H s->t σ H Q->wpAny (model X.prog X.w) X.A (isTrue e X.env (eval e X.env)) (TP X pins σ Q) X.xe s
def PW (X:Cx) (e:Expr) (t:TT):Prop :=
 ∀ (whole:Sem Value) (pins:List (Addr×Obj)) (s:Shared) (σ:St) (H:Hp) (Q:Bool->Hp->Prop),Inv X pins σ H s->t σ H Q->wpAny (model X.prog X.w) X.A (isTrue e X.env whole) (TP X pins σ Q) X.xe s
theorem PW.pt {X:Cx}{e:Expr}{t:TT}(h:PW X e t):PT X e t:=h _
def PA (X:Cx) (es:List Expr) (t:TA):Prop :=
 ∀ (pos:Pos) (pins:List (Addr×Obj)) (s:Shared) (σ:St) (H:Hp) (Q:List V->Hp->Prop),Inv X pins σ H s->t σ H Q->wpAny (model X.prog X.w) X.A (spliced (backTo pos (starEach es X.env))) (AP X pins σ Q) X.xe s
def PS (X:Cx) (st:Stmt) (t:TS):Prop :=
 ∀ (pins:List (Addr×Obj)) (s:Shared) (σ:St) (H:Hp) (D:Ends),Inv X pins σ H s->t D σ H->wpAny (model X.prog X.w) X.A (exec st X.env) (SP X pins D) X.xe s
def PSs (X:Cx) (st:List Stmt) (t:TS):Prop :=
 ∀ (pins:List (Addr×Obj)) (s:Shared) (σ:St) (H:Hp) (D:Ends),Inv X pins σ H s->t D σ H->wpAny (model X.prog X.w) X.A (execs st X.env) (SP X pins D) X.xe s
theorem thn {α:Type}{t:Sem α}{Q Q':α->Shared->Prop}{M:Model}{A:Around}{E:Value->Shared->Prop}{s:Shared}(h:wpAny M A t Q E s) (hQ:∀ a s,Q a s->Q' a s):wpAny M A t Q' E s:=wpAny_mono h hQ fun _ _ x=>x
section
variable {X:Cx}
def tVar (i:Nat):TE:=fun σ H Q=>∃ v,σ[i]?=some (some v)/\Q v H
def tC (v:V):TE:=fun _ H Q=>Q v H
theorem zm2 {i:Nat}{x:Str}{pos:Pos}(hN:X.N[i]?=some x) (hv:Vis X.env.scope x) (hd:(x == ("__debug__":Str))=false:=by decide) (hcd:(x == ("__classdict__":Str))=false:=by decide):PE X (.Name x pos) (tVar i):=by
 intro pins s σ H Q I h
 obtain ⟨v,e,h⟩:=h
 obtain ⟨m,hn,hl⟩:=I.loc
 obtain ⟨u,r,l⟩:=hl i x v hN e hv
 have fin:EP X pins σ Q u s:=⟨v,H,I,r,h⟩
 rcases l with ⟨hk,hm⟩ | ⟨hk,c,hc,hcell⟩
 ·exact wpAny_Name (wpAny_loadName_local I.ok.kind hk hn hm fin) hd
 ·rcases hk with hk | hk
  ·exact wpAny_Name (wpAny_loadName_cell I.ok.kind hk hc hcell fin) hd
  ·exact wpAny_Name (wpAny_loadName_free I.ok.kind hk hc hcell fin hcd) hd
theorem zp9 {i j pos}:PE X (.Constant (.int i) j pos) (tC (.int i)):=fun _ _ _ H _ I h=>wpAny_Constant_int ⟨.int i,H,I.tok _,⟨_,rfl⟩,h⟩
theorem zA2 {b j pos}:PE X (.Constant (.bool b) j pos) (tC (.bl b)):=fun _ _ _ H _ I h=>Constant_bool ⟨.bl b,H,I,rfl,h⟩
theorem zw3 {j pos}:PE X (.Constant .none j pos) (tC .non):=fun _ _ _ H _ I h=>Constant_none ⟨.non,H,I,rfl,h⟩
theorem zu7 {x j pos}:PE X (.Constant (.str x) j pos) (tC (.str x)):=fun _ _ _ H _ I h=>Calls.Constant_str ⟨.str x,H,I.tok _,⟨_,rfl⟩,h⟩
def Gl (X:Cx) (x:Str):Prop:=X.env.kindOf x=some .globalImplicit
theorem z5n {E:Value->Shared->Prop}{pins:List (Addr×Obj)}{s:Shared}{σ:St}{H:Hp}{x:Str}{u:Value}{pos:Pos}{Q:Value->Shared->Prop}(I:Inv X pins σ H s) (hg:Gl X x) (hm:X.mg x=some u) (h:Q u s)
 (hd:(x == ("__debug__":Str))=false:=by decide):wpAny (model X.prog X.w) X.A (eval (.Name x pos) X.env) Q E s :=
 Calls.Name_function_global I.ok.kind hg (Calls.loadGlobal_global (by rw [I.ok.glob];exact I.mod.glob.keeps I.bk) hm h) hd
theorem z5l {E:Value->Shared->Prop}{pins:List (Addr×Obj)}{s:Shared}{σ:St}{H:Hp}{x:Str}{u:Value}{pos:Pos}{Q:Value->Shared->Prop}(I:Inv X pins σ H s) (hg:Gl X x) (hm:X.mg x=none) (hv:bootBuiltins x=some u) (h:Q u s)
 (hn:x≠"__name__":=by decide) (hd:(x == ("__debug__":Str))=false:=by decide):wpAny (model X.prog X.w) X.A (eval (.Name x pos) X.env) Q E s:=by
 obtain ⟨mb,h1,h2⟩:=I.mod.blt
 exact Calls.Name_function_global I.ok.kind hg (Calls.loadGlobal_builtin (by rw [I.ok.glob];exact I.mod.glob.keeps I.bk) hm (by rw [I.ok.blt];exact h1.keeps I.bk) ((h2 x hn).trans hv) h) hd
theorem zd7 {x:Str}{v:V}{u:Value}{pos:Pos}(hg:Gl X x) (hm:X.mg x=some u) (r:RelV v u) (hd:(x == ("__debug__":Str))=false:=by decide):PE X (.Name x pos) (tC v) :=
 fun _ _ _ H _ I h=>z5n I hg hm ⟨v,H,I,r,h⟩ hd
theorem zc5 {x:Str}{v:V}{u:Value}{pos:Pos}(hg:Gl X x) (hm:X.mg x=none) (hv:bootBuiltins x=some u) (r:RelV v u) (hn:x≠"__name__":=by decide) (hd:(x == ("__debug__":Str))=false:=by decide):PE X (.Name x pos) (tC v) :=
 fun _ _ _ H _ I h=>z5l I hg hm hv ⟨v,H,I,r,h⟩ hn hd
variable {a b:Expr}{ta tb:TE}{pos:Pos}
def PC (X:Cx) (op:CmpOp) (a b:Expr) (t:TE):Prop :=
 ∀ (pins:List (Addr×Obj)) (s:Shared) (σ:St) (H:Hp) (Q:VK),Inv X pins σ H s->t σ H Q ->
  wpAny (model X.prog X.w) X.A (eval a X.env) (fun v s₁=>wpAny (model X.prog X.w) X.A (eval b X.env) (fun u s₂=>wpAny (model X.prog X.w) X.A (compareOp op v u) (EP X pins σ Q) X.xe s₂) X.xe s₁) X.xe s
def tB (t:TE):TT:=fun σ H Q=>t σ H fun x H1=>∃ c,x=.bl c/\Q c H1
variable {tA tB':TT}{rest:List Expr}
def tAnd (t u:TT):TT:=fun σ H Q=>t σ H fun c H1=>if c=true then u σ H1 Q else Q false H1
def tOr (t u:TT):TT:=fun σ H Q=>t σ H fun c H1=>if c=true then Q true H1 else u σ H1 Q
def tNot (t:TT):TT:=fun σ H Q=>t σ H fun c H1=>Q (!c) H1
theorem zd8 (ha:PT X a tA):PW X (.BoolOp .And [a] pos) tA:=by
 intro wh pins s σ H Q I h
 refine isTrue_and (thn (ha pins s σ H Q I h) fun c s1 e=>?_)
 cases c with
 | true=>exact isTrue_and_nil e
 | false=>exact e
theorem zl6 (ha:PT X a tA):PW X (.BoolOp .Or [a] pos) tA:=by
 intro wh pins s σ H Q I h
 refine isTrue_or (thn (ha pins s σ H Q I h) fun c s1 e=>?_)
 cases c with
 | false=>exact isTrue_or_nil e
 | true=>exact e
theorem zt7 (ha:PT X a tA) (hb:PW X (.BoolOp .And (b :: rest) pos) tB'):PW X (.BoolOp .And (a :: b :: rest) pos) (tAnd tA tB'):=by
 intro wh pins s σ H Q I h
 refine isTrue_and (thn (ha pins s σ H _ I h) fun c s1 ⟨H1,I1,q1⟩=>?_)
 cases c with
 | true=>exact hb wh pins s1 σ H1 Q I1 q1
 | false=>exact ⟨H1,I1,q1⟩
theorem zx6 (ha:PT X a tA) (hb:PW X (.BoolOp .Or (b :: rest) pos) tB'):PW X (.BoolOp .Or (a :: b :: rest) pos) (tOr tA tB'):=by
 intro wh pins s σ H Q I h
 refine isTrue_or (thn (ha pins s σ H _ I h) fun c s1 ⟨H1,I1,q1⟩=>?_)
 cases c with
 | true=>exact ⟨H1,I1,q1⟩
 | false=>exact hb wh pins s1 σ H1 Q I1 q1
theorem zt5 (ha:PT X a tA):PT X (.UnaryOp .Not a pos) (tNot tA):=by
 intro pins s σ H Q I h
 exact isTrue_not (ha pins s σ H (fun c H1=>Q (!c) H1) I h)
def zC0 (ta tb:TE):TE:=fun σ H Q=>ta σ H fun x H1=>∃ c,x=.bl c/\if c=true then tb σ H1 Q else Q (.bl false) H1
def tOrV (ta tb:TE):TE:=fun σ H Q=>ta σ H fun x H1=>∃ c,x=.bl c/\if c=true then Q (.bl true) H1 else tb σ H1 Q
def zz6 (ta:TE):TE:=fun σ H Q=>ta σ H fun x H1=>∃ c,x=.bl c/\Q (.bl (!c)) H1
theorem zq9 {op}{t:TE}(h:PE X a t):PE X (.BoolOp op [a] pos) t:=fun pins s σ H Q I hw=>BoolOp_one (h pins s σ H Q I hw)
theorem zs5 (ha:PE X a ta) (hb:PE X (.BoolOp .And (b :: rest) pos) tb):PE X (.BoolOp .And (a :: b :: rest) pos) (zC0 ta tb):=by
 intro pins s σ H Q I h
 refine BoolOp_and (thn (ha pins s σ H _ I h) fun v s1 ⟨x,H1,I1,r1,q1⟩=>?_)
 obtain ⟨c,rfl,q1⟩:=q1
 cases r1
 refine wpAny_truthy_bool ?_
 cases c with
 | true=>exact hb pins s1 σ H1 Q I1 q1
 | false=>exact ⟨.bl false,H1,I1,rfl,q1⟩
theorem zC1 (ha:PE X a ta) (hb:PE X (.BoolOp .Or (b :: rest) pos) tb):PE X (.BoolOp .Or (a :: b :: rest) pos) (tOrV ta tb):=by
 intro pins s σ H Q I h
 refine BoolOp_or (thn (ha pins s σ H _ I h) fun v s1 ⟨x,H1,I1,r1,q1⟩=>?_)
 obtain ⟨c,rfl,q1⟩:=q1
 cases r1
 refine wpAny_truthy_bool ?_
 cases c with
 | false=>exact hb pins s1 σ H1 Q I1 q1
 | true=>exact ⟨.bl true,H1,I1,rfl,q1⟩
theorem zs6 (ha:PE X a ta):PE X (.UnaryOp .Not a pos) (zz6 ta):=by
 intro pins s σ H Q I h
 refine UnaryOp_ (thn (ha pins s σ H _ I h) fun v s1 ⟨x,H1,I1,r1,q1⟩=>?_)
 obtain ⟨c,rfl,q1⟩:=q1
 cases r1
 exact not_of (wpAny_truthy_bool ⟨.bl (!c),H1,I1,rfl,q1⟩)
def tIf (t:TT) (ta tb:TE):TE:=fun σ H Q=>t σ H fun c H1=>if c=true then ta σ H1 Q else tb σ H1 Q
theorem z9z {c:Expr}(hc:PT X c tA) (ha:PE X a ta) (hb:PE X b tb):PE X (.IfExp c a b pos) (tIf tA ta tb):=by
 intro pins s σ H Q I h
 refine wpAny_IfExp (thn (hc pins s σ H _ I h) fun d s1 ⟨H1,I1,q1⟩=>?_)
 cases d with
 | true=>exact ha pins s1 σ H1 Q I1 q1
 | false=>exact hb pins s1 σ H1 Q I1 q1
end
def SqL (K:PySem.W.Frag) (H:Hp) (a:Addr) (xs:List V):Prop :=
 Rd H a (.lst xs) ∨
  ∃ (o:Obj) (its:Array Value) (n:Nat),K.lookup a=some o/\o.cls=.type "list"/\o.dict=none/\o.data=.seq its n/\its.size≤sizeLine/\Vals xs its.toList
def SqT (K:PySem.W.Frag) (H:Hp) (a:Addr) (xs:List V):Prop :=
 Rd H a (.tup xs) ∨
  ∃ (o:Obj) (its:Array Value) (n:Nat),K.lookup a=some o/\(o.cls=.type "tuple"/\o.dict=none)/\o.data=.seq its n/\its.size≤sizeLine/\Vals xs its.toList
def absV:Value->Option V
 | .none=>some .non
 | .bool b=>some (.bl b)
 | .int i _=>some (.int i)
 | .str x _=>some (.str x)
 | .bytes b _=>some (.byt b)
 | .float b _=>some (.flt b)
 | .ref a=>some (.ref a)
 | .type n=>some (.ty n)
 | _=>none
theorem RelV.abs {x:V}{u:Value}(r:RelV x u):absV u=some x:=by
 cases x with
 | non=>cases r;rfl
 | bl _=>cases r;rfl
 | int _=>obtain ⟨t,rfl⟩:=r;rfl
 | str _=>obtain ⟨t,rfl⟩:=r;rfl
 | byt _=>obtain ⟨t,rfl⟩:=r;rfl
 | flt _=>obtain ⟨t,rfl⟩:=r;rfl
 | ref _=>cases r;rfl
 | ty _=>cases r;rfl
theorem RelV.inj {x y:V}{u:Value}(r:RelV x u) (q:RelV y u):x=y:=Option.some.inj (r.abs.symm.trans q.abs)
theorem Vals.inj:∀ {xs ys:List V}{us:List Value},Vals xs us->Vals ys us->xs=ys
 | _,_,_,.nil,.nil=>rfl
 | _,_,_,.cons r t,.cons r' t'=>by rw [r.inj r',Vals.inj t t']
section
variable {X:Cx}{pins:List (Addr×Obj)}{σ:St}{H:Hp}{s:Shared}{a:Addr}{xs ys:List V}
theorem SqL.of {K:PySem.W.Frag}(h:H a=some (.lst xs)):SqL K H a xs:=.inl (.inl h)
theorem SqT.of {K:PySem.W.Frag}(h:H a=some (.tup xs)):SqT K H a xs:=.inl (.inl h)
theorem Inv.list (I:Inv X pins σ H s) (h:SqL X.K H a xs):∃ its:List Value,Vals xs its/\PlainL s.heap a its.toArray/\xs.length≤sizeLine:=by
 rcases h with h | ⟨o,its,n,hk,hc,hd,hs,hz,r⟩
 ·obtain ⟨z,its,n,r,e⟩:=h.ok I.hok
  exact ⟨its,r,⟨_,n,e,rfl,rfl,rfl⟩,z⟩
 ·refine ⟨its.toList,r,⟨o,n,I.kIn a o hk,hc,hd,by simpa using hs⟩,?_⟩
  have e:=r.length
  simp only [Array.length_toList] at e
  omega
theorem Inv.tuple (I:Inv X pins σ H s) (h:SqT X.K H a xs):∃ its:List Value,Vals xs its/\IsTup s.heap a its.toArray/\xs.length≤sizeLine:=by
 rcases h with h | ⟨o,its,n,hk,hc,hs,hz,r⟩
 ·obtain ⟨z,its,r,p⟩:=h.ok I.hok
  exact ⟨its,r,p.tup,z⟩
 ·refine ⟨its.toList,r,⟨o,I.kIn a o hk,hc.1,n,by simpa using hs⟩,?_⟩
  have e:=r.length
  simp only [Array.length_toList] at e
  omega
theorem Inv.list_inj (I:Inv X pins σ H s) (h:SqL X.K H a xs) (h':SqL X.K H a ys):xs=ys:=by
 obtain ⟨its,r,⟨o,n,e,_,_,d⟩,_⟩:=I.list h
 obtain ⟨its',r',⟨o',n',e',_,_,d'⟩,_⟩:=I.list h'
 rw [e] at e';cases e'
 rw [d] at d'
 injection d' with d1 _
 have:its=its':=by simpa using congrArg Array.toList d1
 subst this
 exact r.inj r'
theorem Inv.tuple_inj (I:Inv X pins σ H s) (h:SqT X.K H a xs) (h':SqT X.K H a ys):xs=ys:=by
 obtain ⟨its,r,⟨o,e,_,n,d⟩,_⟩:=I.tuple h
 obtain ⟨its',r',⟨o',e',_,n',d'⟩,_⟩:=I.tuple h'
 rw [e] at e';cases e'
 rw [d] at d'
 injection d' with d1 _
 have:its=its':=by simpa using congrArg Array.toList d1
 subst this
 exact r.inj r'
end
abbrev Cx.wish (X:Cx) (E:Value->Shared->Prop):Cx:={ X with xe:=E }
abbrev Cx.nox (X:Cx):Cx:=X.wish fun _ _=>False
theorem Cx.Ok.wish {X:Cx}(ok:X.Ok) (E:Value->Shared->Prop):(X.wish E).Ok :=
 ⟨ok.mod,ok.kind,ok.glob,ok.blt,ok.above,ok.inj,ok.has,ok.cab,ok.hd,ok.frames,ok.stk,ok.exf,ok.bs,ok.bsz,ok.noex,ok.exfs,ok.funs,ok.frf⟩
theorem Cx.Ok.unwish {X:Cx}{E:Value->Shared->Prop}(ok:(X.wish E).Ok):X.Ok :=
 ⟨ok.mod,ok.kind,ok.glob,ok.blt,ok.above,ok.inj,ok.has,ok.cab,ok.hd,ok.frames,ok.stk,ok.exf,ok.bs,ok.bsz,ok.noex,ok.exfs,ok.funs,ok.frf⟩
section
variable {X:Cx}{pins:List (Addr×Obj)}{σ:St}{H:Hp}{s:Shared}{E:Value->Shared->Prop}
theorem Inv.wish (I:Inv X pins σ H s) (E:Value->Shared->Prop):Inv (X.wish E) pins σ H s:=⟨I.ok.wish E,I.os,I.bare,I.base,I.loc,I.cell,I.free,I.freeC,I.pin,I.hok,I.len⟩
theorem Inv.unwish (I:Inv (X.wish E) pins σ H s):Inv X pins σ H s:=⟨I.ok.unwish,I.os,I.bare,I.base,I.loc,I.cell,I.free,I.freeC,I.pin,I.hok,I.len⟩
theorem SP.unwish {D:Ends}{f:Flow}{s':Shared}(h:SP (X.wish E) pins D f s'):SP X pins D f s':=by
 cases f with
 | next=>obtain ⟨σ',H',I,q⟩:=h;exact ⟨σ',H',I.unwish,q⟩
 | brk=>obtain ⟨σ',H',I,q⟩:=h;exact ⟨σ',H',I.unwish,q⟩
 | cont=>obtain ⟨σ',H',I,q⟩:=h;exact ⟨σ',H',I.unwish,q⟩
 | ret u=>obtain ⟨v,σ',H',I,r,q⟩:=h;exact ⟨v,σ',H',I.unwish,r,q⟩
theorem PSs.nox {st:List Stmt}{t:TS}(h:PSs X.nox st t):PSs X st t:=fun pins s σ H D I hw =>
 wpAny_mono (h pins s σ H D (I.wish _) hw) (fun _ _ q=>q.unwish) fun _ _ z=>False.elim z
end
section
variable {X:Cx}{st:Stmt}{rest:List Stmt}{t u:TS}{e:Expr}{te:TE}{pos:Pos}
def zy9:TS:=fun D σ H=>D.nx σ H
def tSeq (t u:TS):TS:=fun D σ H=>t { D with nx:=u D } σ H
theorem zb5:PSs X [] zy9:=fun _ _ σ H _ I h=>wpAny_execs_nil ⟨σ,H,I,h⟩
theorem z9j (h1:PS X st t) (h2:PSs X rest u):PSs X (st :: rest) (tSeq t u):=by
 intro pins s σ H D I h
 refine wpAny_execs_cons (thn (h1 pins s σ H { D with nx:=u D } I h) fun f s1 q=>?_)
 cases f with
 | next =>
  obtain ⟨σ',H',I',q⟩:=q
  exact h2 pins s1 σ' H' D I' q
 | ret v=>exact q
 | brk=>exact q
 | cont=>exact q
theorem Inv.quiet {pins:List (Addr×Obj)}{σ:St}{H:Hp}{s:Shared}(I:Inv X pins σ H s):interactive X.env=false:=by simp [interactive,I.ok.kind]
def zz1 (te:TE):TS:=fun D σ H=>te σ H fun _ H1=>D.nx σ H1
theorem zc1 (he:PE X e te) (hs:swapsWith e none pos.line X.env=pure false:=by rfl):PS X (.Expr e pos) (zz1 te):=by
 intro pins s σ H D I h
 exact wpAny_Expr_any (thn (he pins s σ H _ I h) fun v s1 ⟨x,H1,I1,r1,q1⟩=>⟨σ,H1,I1,q1⟩) I.quiet hs
def tRet (te:TE):TS:=fun D σ H=>te σ H D.rt
theorem zv5 (he:PE X e te):PS X (.Return (some e) pos) (tRet te):=by
 intro pins s σ H D I h
 exact wpAny_Return_some (thn (he pins s σ H _ I h) fun v s1 ⟨x,H1,I1,r1,q1⟩=>⟨x,σ,H1,I1,r1,q1⟩)
def tIfS (c:TT) (t u:TS):TS:=fun D σ H=>c σ H fun b H1=>if b=true then t D σ H1 else u D σ H1
theorem zB3 {c:Expr}{a b:List Stmt}{tc:TT}(hc:PT X c tc) (ha:PSs X a t) (hb:PSs X b u):PS X (.If c a b pos) (tIfS tc t u):=by
 intro pins s σ H D I h
 refine wpAny_If (thn (hc pins s σ H _ I h) fun d s1 ⟨H1,I1,q1⟩=>?_)
 cases d with
 | true=>exact ha pins s1 σ H1 D I1 q1
 | false=>exact hb pins s1 σ H1 D I1 q1
end
abbrev TG:=V->St->Hp->(St->Hp->Prop)->Prop
abbrev TGs:=List V->St->Hp->(St->Hp->Prop)->Prop
def PG (X:Cx) (target:Expr) (t:TG):Prop :=
 ∀ (pins:List (Addr×Obj)) (s:Shared) (σ:St) (H:Hp) (v:V) (u:Value) (Q:St->Hp->Prop),Inv X pins σ H s->RelV v u->t v σ H Q ->
  wpAny (model X.prog X.w) X.A (assign target X.env u) (fun _ s'=>∃ σ' H',Inv X pins σ' H' s'/\Q σ' H') X.xe s
def PGs (X:Cx) (ts:List Expr) (t:TGs):Prop :=
 ∀ (pins:List (Addr×Obj)) (s:Shared) (σ:St) (H:Hp) (vs:List V) (us:List Value) (Q:St->Hp->Prop),Inv X pins σ H s->Vals vs us->t vs σ H Q ->
  wpAny (model X.prog X.w) X.A (assignInOrder ((assignEach ts X.env).map (·.2)) us) (fun _ s'=>∃ σ' H',Inv X pins σ' H' s'/\Q σ' H') X.xe s
abbrev TSet:=V->V->V->Hp->(Hp->Prop)->Prop
def PSet (X:Cx) (t:TSet):Prop :=
 ∀ (pins:List (Addr×Obj)) (s:Shared) (σ:St) (H:Hp) (o i v:V) (ov iv u:Value) (Q:Hp->Prop),Inv X pins σ H s->RelV o ov->RelV i iv->RelV v u->t o i v H Q ->
  wpAny (model X.prog X.w) X.A (setItem ov iv u) (fun _ s'=>∃ H',Inv X pins σ H' s'/\Q H') X.xe s
section
variable {X:Cx}{pos:Pos}
def zw2 (i:Nat):TG:=fun v σ H Q=>Q (σ.set i (some v)) H
theorem z5s {i:Nat}{x:Str}(hN:X.N.Nodup) (hi:X.N[i]?=some x) (hx:Loc X.env.scope x) (hf:X.fn x=true∨X.env.scope.names.lookup x=some .local:=by first | exact .inl rfl | exact .inr rfl | assumption):PG X (.Name x pos) (zw2 i):=by
 intro pins s σ H v u Q I r h
 exact wpAny_assign_Name (z6g I hN hi hx r (fun s' I'=>⟨_,H,I',h⟩) hf)
def gNil:TGs:=fun vs σ H Q=>vs=[]/\Q σ H
def zy0 (t:TG) (u:TGs):TGs:=fun vs σ H Q=>∃ v r,vs=v :: r/\t v σ H fun σ' H'=>u r σ' H' Q
theorem z80:PGs X [] gNil:=by
 intro pins s σ H vs us Q I r h
 obtain ⟨e,h⟩:=h
 subst e
 cases r
 exact assignInOrder_nil ⟨σ,H,I,h⟩
theorem z65 {e:Expr}{es:List Expr}{t:TG}{u:TGs}(h1:PG X e t) (h2:PGs X es u)
 (hs:(assignEach (e :: es) X.env).map (·.2)=assign e X.env :: (assignEach es X.env).map (·.2):=by rfl):PGs X (e :: es) (zy0 t u):=by
 intro pins s σ H vs us Q I r h
 obtain ⟨v,vr,e1,h⟩:=h
 subst e1
 cases r with
 | cons r rr =>
  rw [hs]
  refine assignInOrder_cons (thn (h1 pins s σ H _ _ _ I r h) fun _ s1 ⟨σ1,H1,I1,q1⟩=>?_)
  exact h2 pins s1 σ1 H1 _ _ Q I1 rr q1
def gTup (K:PySem.W.Frag) (n:Nat) (t:TGs):TG:=fun v σ H Q=>∃ a xs,v=.ref a/\SqT K H a xs/\xs.length=n/\t xs σ H Q
theorem za6 {es:List Expr}{k:Nat}{t:TGs}{n:Nat}(hc:X.calm=true) (h:PGs X es t)
 (hn:(assignEach es X.env).length=n:=by rfl) (hst:(assignEach es X.env).findIdx? (·.1)=none:=by rfl):PG X (.Tuple es k pos) (gTup X.K n t):=by
 intro pins s σ H v u Q I r hw
 obtain ⟨a,xs,e1,hq,hl,hw⟩:=hw
 subst e1
 cases r
 obtain ⟨its,rv,ht,hz⟩:=I.tuple hq
 refine assign_Tuple_tuple (I.ok.hd hc) ht (by simp [hn,← hl,rv.length]) hst fun h' hx=>?_
 have I1:Inv X pins σ H { s with heap:=h' }:=I.kept (t':=s.toks) fun b o e=>hx b o (Nat.ne_of_lt (Heap.lt_size e)) e
 exact h pins _ σ H xs _ Q I1 (by simpa using rv) hw
def gSub (to ti:TE) (t:TSet):TG:=fun v σ H Q=>to σ H fun o H1=>ti σ H1 fun i H2=>t o i v H2 fun H3=>Q σ H3
theorem z9S {o i:Expr}{to ti:TE}{t:TSet}(ho:PE X o to) (hi:PE X i ti) (hs:PSet X t)
 (ha:∀ v,assign (.Subscript o i pos) X.env v=(do
  let ov ← holding [v] (eval o X.env)
  let iv ← holding [v,ov] (eval i X.env)
  standAt pos
  holding [v,ov,iv] (setItem ov iv v)
  release [v,ov,iv] []):=by intro _;rfl):PG X (.Subscript o i pos) (gSub to ti t):=by
 intro pins s σ H v u Q I r h
 rw [ha]
 refine wpAny_bind (wpAny_holding (thn (ho pins s σ H _ I h) fun ov s1 ⟨x,H1,I1,r1,q1⟩=>?_))
 refine wpAny_bind (wpAny_holding (thn (hi pins s1 σ H1 _ I1 q1) fun iv s2 ⟨y,H2,I2,r2,q2⟩=>?_))
 refine wpAny_bind (wpAny_standAt (wpAny_bind (wpAny_holding (thn (hs pins s2 σ H2 x y v ov iv u _ I2 r1 r2 r q2) fun _ s3 ⟨H3,I3,q3⟩=>?_))))
 exact wpAny_release ⟨σ,H3,I3,q3⟩
def tAsg (te:TE) (g:TG):TS:=fun D σ H=>te σ H fun x H1=>g x σ H1 D.nx
theorem zq5 {tg e:Expr}{te:TE}{g:TG}(he:PE X e te) (hg:PG X tg g) (hs:swapsWithSole [tg] e pos.line X.env=pure false:=by rfl) (hw:swappedStores [tg] e X.env=pure none:=by rfl)
 (h1:(assignEach [tg] X.env).map (·.2)=[assign tg X.env]:=by rfl):PS X (.Assign [tg] e pos) (tAsg te g):=by
 intro pins s σ H D I h
 refine wpAny_Assign_stores (thn (he pins s σ H _ I h) fun v s1 ⟨x,H1,I1,r1,q1⟩=>?_) hs hw
 rw [h1]
 exact thn (hg pins s1 σ H1 x v _ I1 r1 q1) fun _ s2 q=>q
theorem zq7 {i:Nat}{x:Str}{e:Expr}{te:TE}{pos':Pos}(hN:X.N.Nodup) (hi:X.N[i]?=some x) (hx:Loc X.env.scope x) (he:PE X e te) (hs:swapsWith e (some (.Name x pos')) pos.line X.env=pure false:=by rfl) (hf:X.fn x=true∨X.env.scope.names.lookup x=some .local:=by first | exact .inl rfl | exact .inr rfl | assumption) :
 PS X (.Assign [.Name x pos'] e pos) (tAsg te (zw2 i)):=by
 intro pins s σ H D I h
 refine wpAny_Assign_Name (thn (he pins s σ H _ I h) fun v s1 ⟨y,H1,I1,r1,q1⟩=>?_) hs
 exact z6g I1 hN hi hx r1 (fun s2 I2=>⟨_,H1,I2,q1⟩) hf
end
section
variable {X:Cx}{pos:Pos}
end
structure It where
 go:Nat->Hp->Prop
 yld:Nat->Hp->V->Hp->Prop
 stop:Nat->Hp->Prop
def FpOk (X:Cx) (pins:List (Addr×Obj)) (H:Hp) (b:Addr):Prop :=
 H b=none/\b≠X.env.locals/\b∉X.fs/\(b∈X.ex∨X.s₀.heap.objs.size≤b)/\(∀ x c,X.env.cells.lookup x=some c->c≠b)/\∀ p∈X.pn++pins,p.1≠b
theorem Inv.fpOk {X:Cx}{pins:List (Addr×Obj)}{σ:St}{H H':Hp}{s:Shared}{b:Addr}(I:Inv X pins σ H s) (hb:s.heap.objs.size≤b) (hn:H' b=none):FpOk X pins H' b:=by
 refine ⟨hn,Nat.ne_of_gt (Nat.lt_of_lt_of_le I.lt hb),I.nofs hb,.inr (Nat.le_trans I.sz hb),fun x c e z=>?_,fun p hp z=>?_⟩
 ·obtain ⟨v,q⟩:=I.cell x c e
  exact absurd (Nat.lt_of_lt_of_le q.lt (by rw [z];exact hb)) (Nat.lt_irrefl _)
 ·exact absurd (Nat.lt_of_lt_of_le (Heap.lt_size (I.pin p hp).1) (by rw [z];exact hb)) (Nat.lt_irrefl _)
structure Turn (P:Program) (w:World) (K:PySem.W.Frag) (tg:Expr) (J:It) (fp:List Addr) (it:Addr) (tn:Nat->Heap->Prop):Prop where
 mem:it∈fp
 obj:∀ i h,tn i h->∀ b∈fp,∃ o,h.get? b=some o/\∀ v,o.data≠.cell v
 keep:∀ i h h',tn i h->(∀ b∈fp,∀ o,h.get? b=some o->h'.get? b=some o)->tn i h'
 item:∀ (X:Cx),X.prog=P->X.w=w->X.K=K->X.calm=true->∀ (i:Nat) (pins:List (Addr×Obj)) (s:Shared) (σ:St) (H:Hp) (E:Value->Shared->Prop),Inv X pins σ H s->(∀ b∈fp,FpOk X pins H b)->tn i s.heap->J.go i H ->
  wpAny (model P w) X.A (pyNext (.ref it)) (fun r s1=>∃ u,r=some u /\
   wpAny (model P w) X.A (letOwnedTupleGo tg (.ref it) u) (fun _ s2=>∃ x H',Inv X pins σ H' s2/\RelV x u/\J.yld i H x H'/\tn (i+1) s2.heap/\∀ b∈fp,H' b=none) E s1) E s
 done:∀ (X:Cx),X.prog=P->X.w=w->X.K=K->X.calm=true->∀ (i:Nat) (pins:List (Addr×Obj)) (s:Shared) (σ:St) (H:Hp) (E:Value->Shared->Prop),Inv X pins σ H s->(∀ b∈fp,FpOk X pins H b)->tn i s.heap->J.stop i H ->
  wpAny (model P w) X.A (pyNext (.ref it)) (fun r s1=>r=none/\Inv X pins σ H s1) E s
 self:∀ (A:Around) (i:Nat) (s:Shared) (Q:Value->Shared->Prop) (E:Value->Shared->Prop),tn i s.heap->Q (.ref it) s->wpAny (model P w) A (pyIter (.ref it)) Q E s
abbrev TI:=St->Hp->(It->Hp->Prop)->Prop
def PIE (X:Cx) (pins:List (Addr×Obj)) (σ:St) (tg:Expr) (R:It->Hp->Prop) (itv:Value) (s2:Shared):Prop :=
 ∃ (it:Addr) (fp:List Addr) (tn:Nat->Heap->Prop) (J:It) (H':Hp),itv=.ref it/\Inv X pins σ H' s2/\Turn X.prog X.w X.K tg J fp it tn/\tn 0 s2.heap/\(∀ b∈fp,FpOk X pins H' b)/\R J H'
def PI (X:Cx) (tg iter:Expr) (wi:TI):Prop :=
 ∀ (pins:List (Addr×Obj)) (s:Shared) (σ:St) (H:Hp) (R:It->Hp->Prop),Inv X pins σ H s->wi σ H R ->
  wpAny (model X.prog X.w) X.A (eval iter X.env) (fun v s1=>wpAny (model X.prog X.w) X.A (pyIter v) (PIE X pins σ tg R) X.xe s1) X.xe s
theorem zf3 {M:Model}{A:Around}{E:Value->Shared->Prop}{s:Shared}{tg:Expr}{it:Addr}{u:Value}{o:Obj}{n:String}{vs:Array Value}{Q:Unit->Shared->Prop}(ho:s.heap.get? it=some o) (hc:o.cls=.type n) (hd:o.data=.fields vs)
 (hn:["enumerate","zip","dict_itemiterator","dict_reverseitemiterator","odict_iterator","itertools.zip_longest","itertools.pairwise"].contains n=false) (hQ:Q () s):wpAny M A (letOwnedTupleGo tg (.ref it) u) Q E s:=by
 unfold letOwnedTupleGo
 cases tg<;>first
  | exact wpAny_pure hQ
  | (cases u<;>first
      | exact wpAny_pure hQ
      | (refine wpAny_bind (wpAny_load ho ?_)
         rw [hc,hd]
         show wpAny M A (if (["enumerate","zip","dict_itemiterator","dict_reverseitemiterator","odict_iterator","itertools.zip_longest","itertools.pairwise"].contains n && vs[0]? == some (rawInt _))=true then _ else _) Q E s
         rw [if_neg (by intro h;rw [hn,Bool.false_and] at h;cases h)]
         exact wpAny_pure hQ))
def Itl (K:PySem.W.Frag) (a:Addr):It :=
 ⟨fun i H=>∃ xs x,SqL K H a xs/\xs[i]?=some x,fun i H x H'=>H'=H/\∀ xs,SqL K H a xs->xs[i]?=some x,fun i H=>∃ xs,SqL K H a xs/\xs.length≤i⟩
def Itt (K:PySem.W.Frag) (a:Addr):It :=
 ⟨fun i H=>∃ xs x,SqT K H a xs/\xs[i]?=some x,fun i H x H'=>H'=H/\∀ xs,SqT K H a xs->xs[i]?=some x,fun i H=>∃ xs,SqT K H a xs/\xs.length≤i⟩
def Itr (lo:Int) (n:Nat):It:=⟨fun i _=>i<n,fun i H x H'=>H'=H/\x=.int (lo+i),fun i _=>n≤i⟩
theorem z7U {P:Program}{w:World}{K:PySem.W.Frag}{tg:Expr}(a it:Addr):Turn P w K tg (Itl K a) [it] it (fun i h=>h.IsListIter it a i) where
 mem:=by simp
 obj:=fun i h st b hb=>by
  have e:b=it:=by simpa using hb
  subst e
  obtain ⟨o,e,c,d⟩:=st
  exact ⟨o,e,fun v z=>by rw [d] at z;cases z⟩
 keep:=fun i h h' st k=>st.at fun o e=>k it (by simp) o e
 item:=by
  intro X hP hw hK hc i pins s σ H E I hf st hg
  subst hP hw hK
  obtain ⟨xs,x,hq,hx⟩:=hg
  obtain ⟨its,rv,p,hz⟩:=I.list hq
  obtain ⟨u,hu,ru⟩:=rv.get hx
  obtain ⟨f0,f1,f2,f3,f4,f5⟩:=hf it (by simp)
  refine wpAny_pyNext_list_item st p.isList (x:=u) (by simpa using hu) fun h' st' sb=>?_
  have I1:Inv X pins σ H { s with heap:=h' }:=I.turned (t':=s.toks) (fun b o hb e=>(sb.2 b hb).trans e) f0 f1 f3 f4 f5
  obtain ⟨o,e,c,d⟩:=id st'
  exact ⟨u,rfl,zf3 (s:={ s with heap:=h' }) e c d (by decide) ⟨x,H,I1,ru,⟨rfl,fun ys hy=>by rw [I.list_inj hy hq];exact hx⟩,st',fun b hb=>(hf b hb).1⟩⟩
 done:=by
  intro X hP hw hK hc i pins s σ H E I hf st hg
  subst hP hw hK
  obtain ⟨xs,hq,hx⟩:=hg
  obtain ⟨its,rv,p,hz⟩:=I.list hq
  obtain ⟨f0,f1,f2,f3,f4,f5⟩:=hf it (by simp)
  have hl:=rv.length
  exact wpAny_pyNext_list_end (I.ok.hd hc) st p.isList (by simp;omega) fun h' eb=>⟨rfl,I.turned (t':=s.toks) (fun b o hb e=>eb b o hb e) f0 f1 f3 f4 f5⟩
 self:=fun _ _ _ _ _ st h=>wpAny_pyIter_listiter st h
theorem z6J {P:Program}{w:World}{K:PySem.W.Frag}{tg:Expr}(a it:Addr):Turn P w K tg (Itt K a) [it] it (fun i h=>h.IsTupleIter it a i) where
 mem:=by simp
 obj:=fun i h st b hb=>by
  have e:b=it:=by simpa using hb
  subst e
  obtain ⟨o,e,c,d⟩:=st
  exact ⟨o,e,fun v z=>by rw [d] at z;cases z⟩
 keep:=fun i h h' st k=>st.at fun o e=>k it (by simp) o e
 item:=by
  intro X hP hw hK hc i pins s σ H E I hf st hg
  subst hP hw hK
  obtain ⟨xs,x,hq,hx⟩:=hg
  obtain ⟨its,rv,p,hz⟩:=I.tuple hq
  obtain ⟨u,hu,ru⟩:=rv.get hx
  obtain ⟨f0,f1,f2,f3,f4,f5⟩:=hf it (by simp)
  refine wpAny_pyNext_tuple_item st (show s.heap.IsTuple a its.toArray from p) (x:=u) (by simpa using hu) fun h' st' sb=>?_
  have I1:Inv X pins σ H { s with heap:=h' }:=I.turned (t':=s.toks) (fun b o hb e=>(sb.2 b hb).trans e) f0 f1 f3 f4 f5
  obtain ⟨o,e,c,d⟩:=id st'
  exact ⟨u,rfl,zf3 (s:={ s with heap:=h' }) e c d (by decide) ⟨x,H,I1,ru,⟨rfl,fun ys hy=>by rw [I.tuple_inj hy hq];exact hx⟩,st',fun b hb=>(hf b hb).1⟩⟩
 done:=by
  intro X hP hw hK hc i pins s σ H E I hf st hg
  subst hP hw hK
  obtain ⟨xs,hq,hx⟩:=hg
  obtain ⟨its,rv,p,hz⟩:=I.tuple hq
  obtain ⟨f0,f1,f2,f3,f4,f5⟩:=hf it (by simp)
  have hl:=rv.length
  exact wpAny_pyNext_tuple_end (I.ok.hd hc) st (show s.heap.IsTuple a its.toArray from p) (by simp;omega) fun h' eb=>⟨rfl,I.turned (t':=s.toks) (fun b o hb e=>eb b o hb e) f0 f1 f3 f4 f5⟩
 self:=fun _ _ _ _ _ st h=>wpAny_pyIter_tupleiter st h
theorem z72 {P:Program}{w:World}{K:PySem.W.Frag}{tg:Expr}(it:Addr) (lo:Int) (n:Nat):Turn P w K tg (Itr lo n) [it] it (fun i h=>IsRangeIter h it (lo+(i:Nat) * 1) ((n:Int) - (i:Nat)) 1) where
 mem:=by simp
 obj:=fun i h st b hb=>by
  have e:b=it:=by simpa using hb
  subst e
  exact ⟨_,st,fun v z=>by
   have z':Data.fields _=Data.cell v:=z
   cases z'⟩
 keep:=fun i h h' st k=>k it (by simp) _ st
 item:=by
  intro X hP hw hK hc i pins s σ H E I hf st hg
  subst hP hw hK
  obtain ⟨f0,f1,f2,f3,f4,f5⟩:=hf it (by simp)
  have W:=Walks.range (prog:=X.prog) (w:=X.w) (I.ok.hd hc) it lo 1 n
  refine W.item i s _ _ hg st fun v h' tk hv st' kk=>?_
  obtain ⟨t,rfl⟩:=hv
  have I1:Inv X pins σ H { s with heap:=h',toks:=tk }:=I.turned (fun b o hb e=>kk b o (by simpa using hb) e) f0 f1 f3 f4 f5
  refine ⟨_,rfl,zf3 (s:={ s with heap:=h',toks:=tk }) (n:="range_iterator") st' rfl rfl (by decide) ⟨.int (lo+i),H,I1,⟨t,?_⟩,⟨rfl,rfl⟩,st',fun b hb=>(hf b hb).1⟩⟩
  rw [Int.mul_one]
 done:=by
  intro X hP hw hK hc i pins s σ H E I hf st hg
  subst hP hw hK
  obtain ⟨f0,f1,f2,f3,f4,f5⟩:=hf it (by simp)
  exact wpAny_pyNext_range_end (I.ok.hd hc) st (by have:n≤i:=hg;omega) fun h' eb=>⟨rfl,I.turned (t':=s.toks) (fun b o hb e=>eb b o hb e) f0 f1 f3 f4 f5⟩
 self:=fun _ _ _ _ _ st h=>wpAny_pyIter_rangeiter st h
section
variable {X:Cx}{tg:Expr}
def zA1 (K:PySem.W.Frag) (tl:TE):TI:=fun σ H R=>tl σ H fun x H1=>∃ a,x=.ref a/\(∃ xs,SqL K H1 a xs)/\R (Itl K a) H1
def iTup (K:PySem.W.Frag) (tl:TE):TI:=fun σ H R=>tl σ H fun x H1=>∃ a,x=.ref a/\(∃ xs,SqT K H1 a xs)/\R (Itt K a) H1
theorem zf0 {l:Expr}{tl:TE}(hl:PE X l tl):PI X tg l (zA1 X.K tl):=by
 intro pins s σ H R I h
 refine thn (hl pins s σ H _ I h) fun v s1 ⟨x,H1,I1,r1,q1⟩=>?_
 obtain ⟨a,e,⟨xs,hq⟩,q⟩:=q1
 subst e
 cases r1
 obtain ⟨its,rv,p,hz⟩:=I1.list hq
 refine wpAny_pyIter_list p.isList ?_
 refine ⟨s1.heap.objs.size,[s1.heap.objs.size],_,_,H1,rfl,I1.kept (t':=s1.toks) fun b o e=>Heap.get?_push_of_some _ e,z7U a _,⟨_,Heap.get?_push_size _ rfl,rfl,rfl⟩,fun b hb=>?_,q⟩
 have e:b=s1.heap.objs.size:=by simpa using hb
 subst e
 exact I1.fpOk (Nat.le_refl _) (I1.hok.fresh (Nat.le_refl _))
theorem zm3 {l:Expr}{tl:TE}(hl:PE X l tl):PI X tg l (iTup X.K tl):=by
 intro pins s σ H R I h
 refine thn (hl pins s σ H _ I h) fun v s1 ⟨x,H1,I1,r1,q1⟩=>?_
 obtain ⟨a,e,⟨xs,hq⟩,q⟩:=q1
 subst e
 cases r1
 obtain ⟨its,rv,p,hz⟩:=I1.tuple hq
 refine wpAny_pyIter_tuple (show s1.heap.IsTuple a its.toArray from p) ?_
 refine ⟨s1.heap.objs.size,[s1.heap.objs.size],_,_,H1,rfl,I1.kept (t':=s1.toks) fun b o e=>Heap.get?_push_of_some _ e,z6J a _,⟨_,Heap.get?_push_size _ rfl,rfl,rfl⟩,fun b hb=>?_,q⟩
 have e:b=s1.heap.objs.size:=by simpa using hb
 subst e
 exact I1.fpOk (Nat.le_refl _) (I1.hok.fresh (Nat.le_refl _))
theorem z8J {pins:List (Addr×Obj)}{σ:St}{H:Hp}{s:Shared}{R:It->Hp->Prop}{E:Value->Shared->Prop}{lo hi:Int}{t u v:Tok}{tk:Nat}(I:Inv X pins σ H s) (h1:-(2 ^ 62)≤lo) (h2:lo<2 ^ 62) (h3:-(2 ^ 62)≤hi) (h4:hi<2 ^ 62)
 (q:R (Itr lo (hi - lo).toNat) H):wpAny (model X.prog X.w) X.A (pyIter (.ref s.heap.objs.size)) (PIE X pins σ tg R) E { s with heap:=s.heap.push { cls:=.type "range",data:=.fields #[.int lo t,.int hi u,.int 1 v] },toks:=tk }:=by
 refine wpAny_pyIter_range (IsRange.new ..) (small_one h1 h2 h3 h4) ?_
 have I1:Inv X pins σ H { s with heap:=s.heap.push { cls:=.type "range",data:=.fields #[.int lo t,.int hi u,.int 1 v] },toks:=tk }:=I.kept fun b o e=>Heap.get?_push_of_some _ e
 refine ⟨(s.heap.push { cls:=.type "range",data:=.fields #[.int lo t,.int hi u,.int 1 v] }).objs.size,[(s.heap.push { cls:=.type "range",data:=.fields #[.int lo t,.int hi u,.int 1 v] }).objs.size],_,_,H,rfl,
  I1.kept (t':=tk) fun b o e=>Heap.get?_push_of_some _ e,z72 _ lo (hi - lo).toNat,?_,fun b hb=>?_,q⟩
 ·have e1:lo+((0:Nat):Int) * 1=lo:=by simp
  have e2:(((hi - lo).toNat:Nat):Int) - ((0:Nat):Int)=Builtin.Range.rangeSize lo hi 1:=by rw [rangeSize_one];split<;>omega
  show IsRangeIter _ _ (lo+((0:Nat):Int) * 1) ((((hi - lo).toNat:Nat):Int) - ((0:Nat):Int)) 1
  rw [e1,e2]
  exact Heap.get?_push_size _ rfl
 ·have e:b=(s.heap.push { cls:=.type "range",data:=.fields #[.int lo t,.int hi u,.int 1 v] }).objs.size:=by simpa using hb
  subst e
  exact I1.fpOk (Nat.le_refl _) (I1.hok.fresh (Nat.le_refl _))
def zz0 (ta:TA):TI:=fun σ H R=>ta σ H fun vs H1=>∃ j:Int,vs=[.int j]/\-(2 ^ 62)≤j/\j<2 ^ 62/\R (Itr 0 j.toNat) H1
theorem z74 {a:Expr}{ta:TA}{p pos:Pos}(hg:Gl X "range") (hm:X.mg "range" = none) (ha:PA X [a] ta) (hs:starEach [a] X.env=[(false,eval a X.env)]:=by rfl):PI X tg (.Call (.Name "range" p) [a] [] pos) (zz0 ta):=by
 intro pins s σ H R I h
 refine Call_ (z5l I hg hm boot_range (PyProof.Rows.callWith_type1 (thn (ha pos pins s σ H _ I h) fun us s1 ⟨vs,H1,I1,r1,q1⟩=>?_) hs rfl))
 obtain ⟨j,e,q1,q2,q⟩:=q1
 subst e
 cases r1 with
 | cons r rr =>
  cases rr
  obtain ⟨t,rfl⟩:=r
  exact call_range_1 (z8J I1 (by omega) (by omega) q1 q2 (by simpa using q))
def tFor (wi:TI) (g:TG) (tb:TS):TS:=fun D σ H=>wi σ H fun J H1=>∃ W:Nat->Nat->St->Hp->Prop,(∃ m,W 0 m σ H1)/\∀ i m σ H,W i m σ H ->
 (J.stop i H/\D.nx σ H)∨(J.go i H/\∃ N:St->Hp->Prop,(∀ σ' H',N σ' H'->∃ m',m'<m/\W (i+1) m' σ' H')/\∀ x H',J.yld i H x H'->g x σ H' fun σ2 H2=>tb { D with nx:=N,ct:=N,bk:=D.nx } σ2 H2)
def z3V (fp:List Addr) (h:Heap):List (Addr×Obj):=fp.filterMap fun b=>(h.get? b).map fun o=>(b,o)
theorem z1v {fp:List Addr}{h:Heap}{b:Addr}{o:Obj}(hb:b∈fp) (e:h.get? b=some o):(b,o)∈z3V fp h:=List.mem_filterMap.mpr ⟨b,hb,by rw [e];rfl⟩
theorem z8l {fp:List Addr}{h:Heap}{p:Addr×Obj}(hp:p∈z3V fp h):p.1∈fp/\h.get? p.1=some p.2:=by
 obtain ⟨b,hb,e⟩:=List.mem_filterMap.mp hp
 cases q:h.get? b with
 | none=>rw [q] at e;cases e
 | some o =>
  rw [q] at e
  have e':(b,o)=p:=Option.some.inj e
  subst e'
  exact ⟨hb,q⟩
theorem Inv.pinned {pins:List (Addr×Obj)}{σ:St}{H:Hp}{s:Shared}{fp:List Addr}(I:Inv X pins σ H s) (hf:∀ b∈fp,FpOk X pins H b) (ho:∀ b∈fp,∃ o,s.heap.get? b=some o/\∀ v,o.data≠.cell v):Inv X (pins++z3V fp s.heap) σ H s :=
 I.pins_of fun p hp=>(List.mem_append.mp hp).elim (fun z=>I.pin p (List.mem_append_right _ z)) fun z=>by
  obtain ⟨hb,e⟩:=z8l z
  obtain ⟨f0,f1,f2,_⟩:=hf p.1 hb
  obtain ⟨o,e',d⟩:=ho p.1 hb
  rw [e] at e';cases e'
  exact ⟨e,f0,f1,f2,d⟩
theorem Inv.unpinned {pins pl:List (Addr×Obj)}{σ:St}{H:Hp}{s:Shared}(I:Inv X (pins++pl) σ H s):Inv X pins σ H s:=I.pins_of fun p hp=>I.pin p (List.mem_append_right _ (List.mem_append_left _ hp))
theorem zs9 {iter:Expr}{body:List Stmt}{wi:TI}{g:TG}{tb:TS}{pos:Pos}(hp:PassesOwn (model X.prog X.w) X.A X.env X.xe) (hc:X.calm=true) (hi:PI X tg iter wi) (hg:PG X tg g) (hb:PSs X body tb)
 (hs:∀ x,foldedSetIterable iter X.env x=pure x:=by intro _;rfl):PS X (.For tg iter body [] pos) (tFor wi g tb):=by
 intro pins s σ H D I h
 refine wpAny_For (thn (hi pins s σ H _ I h) fun v s1 h1=>thn h1 fun itv s2 h2=>?_) hs
 obtain ⟨it,fp,tn,J,H2,e,I2,T,st2,f2,W,⟨m0,w0⟩,turn⟩:=h2
 subst e
 have stat:∀ {H':Hp},(∀ b∈fp,H' b=none)->∀ b∈fp,FpOk X pins H' b:=fun hn b hb=>⟨hn b hb,(f2 b hb).2⟩
 refine codeAny_forLoop_any (fun n s'=>∃ i σ' H',Inv X pins σ' H' s'/\tn i s'.heap/\(∀ b∈fp,H' b=none)/\W i n σ' H') ?_ m0 ⟨0,σ,H2,I2,st2,fun b hb=>(f2 b hb).1,w0⟩
 rintro n s3 ⟨i,σ3,H3,I3,st3,fr3,w3⟩
 rcases turn i n σ3 H3 w3 with ⟨stop,qn⟩ | ⟨go,N,hN,step⟩
 ·refine wpAny_passesOwn hp (thn (T.done X rfl rfl rfl hc i pins s3 σ3 H3 X.xe I3 (stat fr3) st3 stop) fun r s4 ⟨hr,I4⟩=>?_)
  subst hr
  exact wpAny_execs_nil ⟨σ3,H3,I4,qn⟩
 ·refine wpAny_passesOwn hp (thn (T.item X rfl rfl rfl hc i pins s3 σ3 H3 X.xe I3 (stat fr3) st3 go) fun r s4 ⟨u,hr,h4⟩=>?_)
  subst hr
  refine wpAny_passesOwn hp (thn h4 fun _ s5 ⟨x,H5,I5,r5,y5,st5,fr5⟩=>?_)
  have I5':=I5.pinned (stat fr5) (T.obj _ _ st5)
  refine wpAny_passesOwn hp (thn (hg _ s5 σ3 H5 x u _ I5' r5 (step x H5 y5)) fun _ s6 ⟨σ6,H6,I6,q6⟩=>?_)
  refine wpAny_passesOwn hp (thn (hb _ s6 σ6 H6 _ I6 q6) fun f s7 q7=>?_)
  have again:∀ {σ7:St} {H7:Hp},Inv X (pins++z3V fp s5.heap) σ7 H7 s7->N σ7 H7->∃ m,m<n/\∃ i σ' H',Inv X pins σ' H' s7/\tn i s7.heap/\(∀ b∈fp,H' b=none)/\W i m σ' H':=fun {σ7 H7} I7 n7=>by
   obtain ⟨m',hm,w7⟩:=hN σ7 H7 n7
   refine ⟨m',hm,i+1,σ7,H7,I7.unpinned,T.keep _ _ _ st5 fun b hb o e=>(I7.pin (b,o) (List.mem_append_right _ (List.mem_append_right _ (z1v hb e)))).1,fun b hb=>?_,w7⟩
   obtain ⟨o,e,d⟩:=T.obj _ _ st5 b hb
   exact (I7.pin (b,o) (List.mem_append_right _ (List.mem_append_right _ (z1v hb e)))).2.1
  cases f with
  | next=>obtain ⟨σ7,H7,I7,n7⟩:=q7;exact again I7 n7
  | cont=>obtain ⟨σ7,H7,I7,n7⟩:=q7;exact again I7 n7
  | brk=>obtain ⟨σ7,H7,I7,q7⟩:=q7;exact ⟨σ7,H7,I7.unpinned,q7⟩
  | ret v=>obtain ⟨x7,σ7,H7,I7,r7,q7⟩:=q7;exact ⟨x7,σ7,H7,I7.unpinned,r7,q7⟩
end
theorem z0L {lo:Int}{n:Nat}{g:TG}{tb:TS}{D:Ends}{σ:St}{H:Hp}(Pv:Nat->St->Hp->Prop) (h0:Pv 0 σ H)
 (hs:∀ i σ H,i<n->Pv i σ H->g (.int (lo+i)) σ H fun σ2 H2=>tb { D with nx:=Pv (i+1),ct:=Pv (i+1),bk:=D.nx } σ2 H2) (hd:∀ σ H,Pv n σ H->D.nx σ H) :
 ∃ W:Nat->Nat->St->Hp->Prop,(∃ m,W 0 m σ H)/\∀ i m σ H,W i m σ H ->
  ((Itr lo n).stop i H/\D.nx σ H)∨((Itr lo n).go i H/\∃ N:St->Hp->Prop,(∀ σ' H',N σ' H'->∃ m',m'<m/\W (i+1) m' σ' H')/\∀ x H',(Itr lo n).yld i H x H'->g x σ H' fun σ2 H2=>tb { D with nx:=N,ct:=N,bk:=D.nx } σ2 H2):=by
 refine ⟨fun i m σ H=>m=n - i/\i≤n/\Pv i σ H,⟨n,by simp,Nat.zero_le _,h0⟩,?_⟩
 rintro i m σ H ⟨rfl,hi,p⟩
 by_cases hlt:i<n
 ·refine .inr ⟨hlt,Pv (i+1),fun σ' H' p'=>⟨n - (i+1),by omega,rfl,hlt,p'⟩,fun x H' y=>?_⟩
  obtain ⟨e,y⟩:=y
  subst e y
  exact hs i σ _ hlt p
 ·have e:i=n:=by omega
  subst e
  exact .inl ⟨Nat.le_refl _,hd σ H p⟩
abbrev R2:=V->V->Hp->VK->Prop
def OpR (X:Cx) (f:Value->Value->Sem Value) (r:R2):Prop :=
 ∀ (pins:List (Addr×Obj)) (s:Shared) (σ:St) (H:Hp) (x y:V) (v u:Value) (Q:VK),Inv X pins σ H s->RelV x v->RelV y u->r x y H Q ->
  wpAny (model X.prog X.w) X.A (f v u) (EP X pins σ Q) X.xe s
def UnR (X:Cx) (f:Value->Sem Value) (r:V->Hp->VK->Prop):Prop :=
 ∀ (pins:List (Addr×Obj)) (s:Shared) (σ:St) (H:Hp) (x:V) (v:Value) (Q:VK),Inv X pins σ H s->RelV x v->r x H Q ->
  wpAny (model X.prog X.w) X.A (f v) (EP X pins σ Q) X.xe s
def z3d (X:Cx) (f:Value) (r:List V->Hp->VK->Prop):Prop :=
 ∀ (pins:List (Addr×Obj)) (s:Shared) (σ:St) (H:Hp) (xs:List V) (us:List Value) (Q:VK),Inv X pins σ H s->Vals xs us->r xs H Q ->
  wpAny (model X.prog X.w) X.A (call f us) (EP X pins σ Q) X.xe s
def TruR (X:Cx) (r:V->Hp->(Bool->Hp->Prop)->Prop):Prop :=
 ∀ (pins:List (Addr×Obj)) (s:Shared) (σ:St) (H:Hp) (x:V) (v:Value) (Q:Bool->Hp->Prop),Inv X pins σ H s->RelV x v->r x H Q ->
  wpAny (model X.prog X.w) X.A (truthy v) (TP X pins σ Q) X.xe s
def tOp (r:R2) (ta tb:TE):TE:=fun σ H Q=>ta σ H fun x H1=>tb σ H1 fun y H2=>r x y H2 Q
def tUn (r:V->Hp->VK->Prop) (ta:TE):TE:=fun σ H Q=>ta σ H fun x H1=>r x H1 Q
def rI (C:Int->Int->Prop) (g:Int->Int->V):R2:=fun x y H Q=>∃ i j,x=.int i/\y=.int j/\C i j/\Q (g i j) H
def rI0 (g:Int->Int->V):R2:=fun x y H Q=>∃ i j,x=.int i/\y=.int j/\Q (g i j) H
def rU (g:Int->V):V->Hp->VK->Prop:=fun x H Q=>∃ i,x=.int i/\Q (g i) H
section
variable {X:Cx}{a b c:Expr}{ta tb tc:TE}{pos:Pos}
theorem binT (ha:PE X a ta) (hb:PE X b tb) {pins:List (Addr×Obj)}{s:Shared}{σ:St}{H:Hp}{R:V->V->Hp->Prop}(I:Inv X pins σ H s)
 (h:ta σ H fun x H1=>tb σ H1 fun y H2=>R x y H2) {Q:Value->Shared->Prop} {f:Value->Value->Sem Value}
 (hf:∀ v u s2 x y H2,Inv X pins σ H2 s2->RelV x v->RelV y u->R x y H2->wpAny (model X.prog X.w) X.A (f v u) Q X.xe s2) :
 wpAny (model X.prog X.w) X.A (eval a X.env) (fun v s₁=>wpAny (model X.prog X.w) X.A (eval b X.env) (fun u s₂=>wpAny (model X.prog X.w) X.A (f v u) Q X.xe s₂) X.xe s₁) X.xe s:=by
 refine thn (ha pins s σ H _ I h) fun v s1 ⟨x,H1,I1,r1,q1⟩=>?_
 refine thn (hb pins s1 σ H1 _ I1 q1) fun u s2 ⟨y,H2,I2,r2,q2⟩=>?_
 exact hf v u s2 x y H2 I2 r1 r2 q2
theorem zA0 {op:Operator}{r:R2}(ho:OpR X (binaryOp op) r) (ha:PE X a ta) (hb:PE X b tb):PE X (.BinOp a op b pos) (tOp r ta tb):=by
 intro pins s σ H Q I h
 exact wpAny_BinOp (binT ha hb I h fun v u s2 x y H2 I2 rx ry q=>ho pins s2 σ H2 x y v u Q I2 rx ry q)
theorem zA7 {op:UnaryOp}{r:V->Hp->VK->Prop}(ho:UnR X (unaryOp op) r) (ha:PE X a ta):PE X (.UnaryOp op a pos) (tUn r ta):=by
 intro pins s σ H Q I h
 exact UnaryOp_ (thn (ha pins s σ H _ I h) fun v s1 ⟨x,H1,I1,r1,q1⟩=>ho pins s1 σ H1 x v Q I1 r1 q1)
theorem opI {f:Value->Value->Sem Value}{C:Int->Int->Prop}{g:Int->Int->Int}
 (rule:∀ (i j:Int) (t u:Tok) (s:Shared) (Q:Value->Shared->Prop) (E:Value->Shared->Prop),C i j->Q (.int (g i j) s.toks) { s with toks:=s.toks+1 }->wpAny (model X.prog X.w) X.A (f (.int i t) (.int j u)) Q E s) :
 OpR X f (rI C fun i j=>.int (g i j)):=by
 intro pins s σ H x y v u Q I rx ry h
 obtain ⟨i,j,rfl,rfl,hc,q⟩:=h
 obtain ⟨t,rfl⟩:=rx
 obtain ⟨t',rfl⟩:=ry
 exact rule i j t t' s _ _ hc ⟨.int (g i j),H,I.tok _,⟨_,rfl⟩,q⟩
theorem opI0 {f:Value->Value->Sem Value}{g:Int->Int->Int}
 (rule:∀ (i j:Int) (t u:Tok) (s:Shared) (Q:Value->Shared->Prop) (E:Value->Shared->Prop),Q (.int (g i j) s.toks) { s with toks:=s.toks+1 }->wpAny (model X.prog X.w) X.A (f (.int i t) (.int j u)) Q E s) :
 OpR X f (rI0 fun i j=>.int (g i j)):=by
 intro pins s σ H x y v u Q I rx ry h
 obtain ⟨i,j,rfl,rfl,q⟩:=h
 obtain ⟨t,rfl⟩:=rx
 obtain ⟨t',rfl⟩:=ry
 exact rule i j t t' s _ _ ⟨.int (g i j),H,I.tok _,⟨_,rfl⟩,q⟩
theorem opB0 {f:Value->Value->Sem Value}{g:Int->Int->Bool}
 (rule:∀ (i j:Int) (t u:Tok) (s:Shared) (Q:Value->Shared->Prop) (E:Value->Shared->Prop),Q (.bool (g i j)) s->wpAny (model X.prog X.w) X.A (f (.int i t) (.int j u)) Q E s) :
 OpR X f (rI0 fun i j=>.bl (g i j)):=by
 intro pins s σ H x y v u Q I rx ry h
 obtain ⟨i,j,rfl,rfl,q⟩:=h
 obtain ⟨t,rfl⟩:=rx
 obtain ⟨t',rfl⟩:=ry
 exact rule i j t t' s _ _ ⟨.bl (g i j),H,I,rfl,q⟩
def CDiv (i j:Int):Prop:=0<j/\j<1073741824
def CPow (i j:Int):Prop:=0≤j/\j≤1000000/\i.natAbs<2 ^ 64
def CMul (i j:Int):Prop:=(-(2 ^ 64)<i/\i<2 ^ 64)∨(-(2 ^ 64)<j/\j<2 ^ 64)
theorem CMul.ok {i j:Int}(h:CMul i j):IntMulOk i j:=by
 rcases h with ⟨h1,h2⟩ | ⟨h1,h2⟩
 ·exact .of_left (intBits_le_64 h1 h2)
 ·exact .of_right (intBits_le_64 h1 h2)
theorem op_add:OpR X (binaryOp .Add) (rI0 fun i j=>.int (i+j)):=opI0 fun _ _ _ _ _ _ _ q=>add_int q
theorem zu3:OpR X (binaryOp .Sub) (rI0 fun i j=>.int (i - j)):=opI0 fun _ _ _ _ _ _ _ q=>sub_int q
theorem op_mul:OpR X (binaryOp .Mult) (rI CMul fun i j=>.int (i * j)):=opI fun _ _ _ _ _ _ _ hc q=>mul_int q hc.ok
theorem zb4:OpR X (binaryOp .FloorDiv) (rI CDiv fun i j=>.int (i / j)):=opI fun i j _ _ _ _ _ hc q=>by
 have h1:(0:Int)<j:=hc.1
 have h2:j<1073741824:=hc.2
 exact floordiv_int (by omega) (by rw [Int.fdiv_eq_ediv_of_nonneg i (by omega)];exact q) (.inl (PyProof.noPylong_small (by omega)))
theorem zv2:OpR X (binaryOp .Mod) (rI (fun _ j=>0<j) fun i j=>.int (i % j)):=opI fun i j _ _ _ _ _ hc q=>by
 have h1:(0:Int)<j:=hc
 exact mod_int' (by omega) (by rw [Int.fmod_eq_emod_of_nonneg i (by omega)];exact q)
theorem zn6:OpR X (binaryOp .Pow) (rI CPow fun i j=>.int (i ^ j.toNat)):=opI fun _ _ _ _ _ _ _ hc q=>pow_int_small hc.1 hc.2.1 hc.2.2 q
theorem unI {f:Value->Sem Value}{g:Int->Int}
 (rule:∀ (i:Int) (t:Tok) (s:Shared) (Q:Value->Shared->Prop) (E:Value->Shared->Prop),Q (.int (g i) s.toks) { s with toks:=s.toks+1 }->wpAny (model X.prog X.w) X.A (f (.int i t)) Q E s) :
 UnR X f (rU fun i=>.int (g i)):=by
 intro pins s σ H x v Q I rx h
 obtain ⟨i,rfl,q⟩:=h
 obtain ⟨t,rfl⟩:=rx
 exact rule i t s _ _ ⟨.int (g i),H,I.tok _,⟨_,rfl⟩,q⟩
theorem zp8:UnR X (unaryOp .USub) (rU fun i=>.int (-i)):=unI fun _ _ _ _ _ q=>neg_int q
end
def scal:V->V->Bool
 | .non,.non=>true | .non,.int _=>true | .int _,.non=>true | .non,.bl _=>true | .bl _,.non=>true | .non,.str _=>true | .str _,.non=>true
 | .int _,.int _=>true | .bl _,.bl _=>true | .str _,.str _=>true | .byt _,.byt _=>true
 | .int _,.str _=>true | .str _,.int _=>true | .bl _,.str _=>true | .str _,.bl _=>true
 | _,_=>false
def rEq:R2:=fun x y H Q=>scal x y=true/\Q (.bl (decide (x=y))) H
def rNe:R2:=fun x y H Q=>scal x y=true/\Q (.bl (!decide (x=y))) H
theorem z8s {i j:Int}:decide (V.int i=V.int j)=(i == j):=by
 rw [Bool.eq_iff_iff]
 simp
theorem za8 {i j:Bool}:decide (V.bl i=V.bl j)=(i == j):=by
 rw [Bool.eq_iff_iff]
 simp
theorem z7c {i j:Str}:decide (V.str i=V.str j)=(i == j):=by
 rw [Bool.eq_iff_iff]
 simp
theorem z8e {i j:Array UInt8}:decide (V.byt i=V.byt j)=(i.toList == j.toList):=by
 rw [Bool.eq_iff_iff]
 cases i
 cases j
 simp
section
variable {X:Cx}{a b c:Expr}{ta tb tc:TE}{pos:Pos}
theorem z08 {pins:List (Addr×Obj)}{σ:St}{H:Hp}{s:Shared}{Q:VK}{k k':Bool}(I:Inv X pins σ H s) (q:Q (.bl k) H) (e:k=k'):EP X pins σ Q (.bool k') s:=by
 subst e
 exact ⟨.bl k,H,I,rfl,q⟩
theorem zA6:OpR X (compareOp .Eq) rEq:=by
 intro pins s σ H x y v u Q I rx ry h
 obtain ⟨hs,q⟩:=h
 cases x with
 | non =>
  cases rx
  cases y with
  | non=>cases ry;exact PySem.EqNone.eq_none_none (z08 I q (by simp))
  | bl j=>cases ry;exact PySem.EqNone.eq_none_bool (z08 I q (by simp))
  | int j=>obtain ⟨t',rfl⟩:=ry;exact PySem.EqNone.eq_none_int (z08 I q (by simp))
  | str j=>obtain ⟨t',rfl⟩:=ry;exact PySem.EqNone.eq_none_str (z08 I q (by simp))
  | _=>exact absurd (show false=true from hs) Bool.false_ne_true
 | bl i =>
  cases rx
  cases y with
  | non=>cases ry;exact PySem.EqNone.eq_bool_none (z08 I q (by simp))
  | bl j=>cases ry;exact eq_bool (z08 I q za8)
  | str j=>obtain ⟨t',rfl⟩:=ry;exact PySem.EqMixed.eq_bool_str (z08 I q (by simp))
  | _=>exact absurd (show false=true from hs) Bool.false_ne_true
 | int i =>
  obtain ⟨t,rfl⟩:=rx
  cases y with
  | non=>cases ry;exact PySem.EqNone.eq_int_none (z08 I q (by simp))
  | int j=>obtain ⟨t',rfl⟩:=ry;exact eq_int (z08 I q z8s)
  | str j=>obtain ⟨t',rfl⟩:=ry;exact PySem.EqMixed.eq_int_str (z08 I q (by simp))
  | _=>exact absurd (show false=true from hs) Bool.false_ne_true
 | str i =>
  obtain ⟨t,rfl⟩:=rx
  cases y with
  | non=>cases ry;exact PySem.EqNone.eq_str_none (z08 I q (by simp))
  | bl j=>cases ry;exact PySem.EqMixed.eq_str_bool (z08 I q (by simp))
  | int j=>obtain ⟨t',rfl⟩:=ry;exact PySem.EqMixed.eq_str_int (z08 I q (by simp))
  | str j=>obtain ⟨t',rfl⟩:=ry;exact eq_str (z08 I q z7c)
  | _=>exact absurd (show false=true from hs) Bool.false_ne_true
 | byt i =>
  obtain ⟨t,rfl⟩:=rx
  cases y with
  | byt j=>obtain ⟨t',rfl⟩:=ry;exact PySem.W.eq_bytes (z08 I q z8e)
  | _=>exact absurd (show false=true from hs) Bool.false_ne_true
 | _=>cases y<;>exact absurd (show false=true from hs) Bool.false_ne_true
theorem zz5:OpR X (compareOp .NotEq) rNe:=by
 intro pins s σ H x y v u Q I rx ry h
 obtain ⟨hs,q⟩:=h
 cases x with
 | non =>
  cases rx
  cases y with
  | non=>cases ry;exact PySem.EqNone.ne_none_none (z08 I q (by simp))
  | bl j=>cases ry;exact PySem.EqNone.ne_none_bool (z08 I q (by simp))
  | int j=>obtain ⟨t',rfl⟩:=ry;exact PySem.EqNone.ne_none_int (z08 I q (by simp))
  | str j=>obtain ⟨t',rfl⟩:=ry;exact PySem.EqNone.ne_none_str (z08 I q (by simp))
  | _=>exact absurd (show false=true from hs) Bool.false_ne_true
 | bl i =>
  cases rx
  cases y with
  | non=>cases ry;exact PySem.EqNone.ne_bool_none (z08 I q (by simp))
  | bl j=>cases ry;exact ne_bool (z08 I q (congrArg not za8))
  | str j=>obtain ⟨t',rfl⟩:=ry;exact PySem.EqMixed.ne_bool_str (z08 I q (by simp))
  | _=>exact absurd (show false=true from hs) Bool.false_ne_true
 | int i =>
  obtain ⟨t,rfl⟩:=rx
  cases y with
  | non=>cases ry;exact PySem.EqNone.ne_int_none (z08 I q (by simp))
  | int j=>obtain ⟨t',rfl⟩:=ry;exact ne_int (z08 I q (congrArg not z8s))
  | str j=>obtain ⟨t',rfl⟩:=ry;exact PySem.EqMixed.ne_int_str (z08 I q (by simp))
  | _=>exact absurd (show false=true from hs) Bool.false_ne_true
 | str i =>
  obtain ⟨t,rfl⟩:=rx
  cases y with
  | non=>cases ry;exact PySem.EqNone.ne_str_none (z08 I q (by simp))
  | bl j=>cases ry;exact PySem.EqMixed.ne_str_bool (z08 I q (by simp))
  | int j=>obtain ⟨t',rfl⟩:=ry;exact PySem.EqMixed.ne_str_int (z08 I q (by simp))
  | str j=>obtain ⟨t',rfl⟩:=ry;exact ne_str (z08 I q (congrArg not z7c))
  | _=>exact absurd (show false=true from hs) Bool.false_ne_true
 | byt i =>
  obtain ⟨t,rfl⟩:=rx
  cases y with
  | byt j=>obtain ⟨t',rfl⟩:=ry;exact PySem.W.ne_bytes (z08 I q (congrArg not z8e))
  | _=>exact absurd (show false=true from hs) Bool.false_ne_true
 | _=>cases y<;>exact absurd (show false=true from hs) Bool.false_ne_true
theorem op_lt:OpR X (compareOp .Lt) (rI0 fun i j=>.bl (decide (i<j))):=opB0 fun _ _ _ _ _ _ _ q=>lt_int q
theorem op_le:OpR X (compareOp .LtE) (rI0 fun i j=>.bl (decide (i≤j))):=opB0 fun _ _ _ _ _ _ _ q=>le_int q
theorem zx4:OpR X (compareOp .Gt) (rI0 fun i j=>.bl (decide (j<i))):=opB0 fun _ _ _ _ _ _ _ q=>gt_int q
theorem zB9:OpR X (compareOp .GtE) (rI0 fun i j=>.bl (decide (j≤i))):=opB0 fun _ _ _ _ _ _ _ q=>ge_int q
theorem z7Y:OpR X (compareOp .Lt) (fun x y H Q=>∃ i j,x=.str i/\y=.str j/\Q (.bl (decide (i.cps.toList<j.cps.toList))) H):=by
 intro pins s σ H x y v u Q I rx ry h
 obtain ⟨i,j,rfl,rfl,q⟩:=h
 obtain ⟨t,rfl⟩:=rx
 obtain ⟨t',rfl⟩:=ry
 exact lt_str (z08 I q rfl)
theorem OpR.or {f:Value->Value->Sem Value}{r r':R2}(h:OpR X f r) (h':OpR X f r'):OpR X f (fun x y H Q=>r x y H Q∨r' x y H Q):=by
 intro pins s σ H x y v u Q I rx ry q
 rcases q with q | q
 ·exact h pins s σ H x y v u Q I rx ry q
 ·exact h' pins s σ H x y v u Q I rx ry q
theorem za5 (b:Expr) {op:CmpOp}(h:op≠.In:=by decide) (h2:op≠.NotIn:=by decide):behindInMarks op b=false:=by
 have e1:(op == CmpOp.In)=false:=by cases op<;>first | rfl | exact absurd rfl h
 have e2:(op == CmpOp.NotIn)=false:=by cases op<;>first | rfl | exact absurd rfl h2
 cases b<;>simp [behindInMarks,e1,e2]
theorem zd9 {op:CmpOp}{r:R2}(ho:OpR X (compareOp op) r) (ha:PE X a ta) (hb:PE X b tb) (hm:behindInMarks op b=false):PE X (.Compare a [op] [b] pos) (tOp r ta tb):=by
 intro pins s σ H Q I h
 exact wpAny_Compare1 (binT ha hb I h fun v u s2 x y H2 I2 rx ry q=>ho pins s2 σ H2 x y v u Q I2 rx ry q) hm
def zs1 (t:TE):TT:=fun σ H Q=>t σ H fun x H'=>∃ k,x=.bl k/\Q k H'
theorem zd1 {op:CmpOp}{r:R2}(ho:OpR X (compareOp op) r) (ha:PE X a ta) (hb:PE X b tb) (hm:behindInMarks op b=false):PT X (.Compare a [op] [b] pos) (zs1 (tOp r ta tb)):=by
 intro pins s σ H Q I h
 refine wpAny_isTrue_Compare1 (thn (ha pins s σ H _ I h) fun v s1 ⟨x,H1,I1,r1,q1⟩=>thn (hb pins s1 σ H1 _ I1 q1) fun u s2 ⟨y,H2,I2,r2,q2⟩ =>
  thn (ho pins s2 σ H2 x y v u _ I2 r1 r2 q2) fun c s3 ⟨z,H3,I3,r3,k,e,q3⟩=>?_) hm
 subst e
 cases r3
 exact wpAny_truthy_bool ⟨H3,I3,q3⟩
def z9P (r r':R2) (ta tb tc:TE):TE:=fun σ H Q=>ta σ H fun x H1=>tb σ H1 fun y H2=>r x y H2 fun z H3=>∃ k,z=.bl k /\
 (if k=true then tc σ H3 fun w' H4=>r' y w' H4 Q else Q (.bl false) H3)
theorem z8O {op op':CmpOp}{r r':R2}(ho:OpR X (compareOp op) r) (ho':OpR X (compareOp op') r') (ha:PE X a ta) (hb:PE X b tb) (hc:PE X c tc)
 (hm:lastMarks [op,op'] [b,c]=false:=by with_unfolding_all rfl):PE X (.Compare a [op,op'] [b,c] pos) (z9P r r' ta tb tc):=by
 intro pins s σ H Q I h
 refine Compare_chain (thn (ha pins s σ H _ I h) fun v s1 ⟨x,H1,I1,r1,q1⟩=>chain_link (thn (hb pins s1 σ H1 _ I1 q1) fun u s2 ⟨y,H2,I2,r2,q2⟩ =>
  thn (ho pins s2 σ H2 x y v u _ I2 r1 r2 q2) fun d s3 ⟨z,H3,I3,r3,k,e,q3⟩=>?_)) hm
 subst e
 cases r3
 refine wpAny_truthy_bool ?_
 cases k with
 | false=>exact ite_ff ⟨.bl false,H3,I3,rfl,q3⟩
 | true=>exact ite_tt (chain_last (thn (hc pins s3 σ H3 _ I3 q3) fun w' s4 ⟨z',H4,I4,r4,q4⟩=>ho' pins s4 σ H4 y z' u w' Q I4 r2 r4 q4))
def TruV (K:PySem.W.Frag) (x:V) (H:Hp) (k:Bool):Prop :=
 match x with
 | .non=>k=false
 | .bl b=>k=b
 | .int i=>k=(i != 0)
 | .str y=>y.length≤sizeLine/\k=((y.length:Int) != 0)
 | .byt y=>y.size≤sizeLine/\k=((y.size:Int) != 0)
 | .ref p=>(∃ xs,SqL K H p xs/\k = !xs.isEmpty)∨(∃ xs,SqT K H p xs/\k = !xs.isEmpty)∨∃ kvs,H p=some (.dK kvs)/\k = !kvs.isEmpty
 | _=>False
theorem z6K {κ:Type}{kvs:List (κ×V)}{vs:List (κ×Value)}(r:KV kvs vs):(!vs.isEmpty) = !kvs.isEmpty:=by
 cases r<;>rfl
theorem z41 {xs:List V}{its:List Value}(r:Vals xs its):(!its.toArray.isEmpty) = !xs.isEmpty:=by
 cases r<;>simp
theorem z43:(sizeLine:Nat)<2 ^ 63:=by rw [sizeLine_eq];decide
theorem zn3:TruR X (fun x H Q=>∃ k,TruV X.K x H k/\Q k H):=by
 intro pins s σ H x v Q I rx h
 obtain ⟨k,e,q⟩:=h
 have hl:=z43
 have hs:sizeLine=16777216:=sizeLine_eq
 cases x with
 | non =>
  cases rx
  have e':k=false:=e
  subst e'
  exact truthy_none ⟨H,I,q⟩
 | bl b =>
  cases rx
  have e':k=b:=e
  subst e'
  exact wpAny_truthy_bool ⟨H,I,q⟩
 | int i =>
  obtain ⟨t,rfl⟩:=rx
  have e':k=(i != 0):=e
  subst e'
  exact PySem.P.truthy_int ⟨H,I,q⟩
 | str y =>
  obtain ⟨t,rfl⟩:=rx
  obtain ⟨hy,e'⟩:y.length≤sizeLine/\k=((y.length:Int) != 0):=e
  subst e'
  exact PySem.P.truthy_str (by omega) ⟨H,I.tok _,q⟩
 | byt y =>
  obtain ⟨t,rfl⟩:=rx
  obtain ⟨hy,e'⟩:y.size≤sizeLine/\k=((y.size:Int) != 0):=e
  subst e'
  exact PySem.W.truthy_bytes (by omega) ⟨H,I.tok _,q⟩
 | ref p =>
  cases rx
  have e':(∃ xs,SqL X.K H p xs/\k = !xs.isEmpty)∨(∃ xs,SqT X.K H p xs/\k = !xs.isEmpty)∨∃ kvs,H p=some (.dK kvs)/\k = !kvs.isEmpty:=e
  rcases e' with ⟨xs,hx,e'⟩ | ⟨xs,hx,e'⟩ | ⟨kvs,hx,e'⟩
  ·subst e'
   obtain ⟨its,r,pl,hz⟩:=I.list hx
   have hlen:=r.length
   exact wpAny_truthy_list pl.isList (by simp only [List.size_toArray];omega) ⟨H,I.tok _,by rw [z41 r];exact q⟩
  ·subst e'
   obtain ⟨its,r,pl,hz⟩:=I.tuple hx
   have hlen:=r.length
   exact truthy_tuple pl (by simp only [List.size_toArray];omega) ⟨H,I.tok _,by rw [z41 r];exact q⟩
  ·subst e'
   obtain ⟨hz,hS,vs,r,m⟩:kvs.length≤sizeLine/\(p == sysModules)=false/\∃ vs,KV kvs vs/\s.heap.DictOf (z0S X.prog X.w) p vs:=I.hok p _ hx
   have hlen:kvs.length=vs.length:=Paired.length r
   exact wpAny_truthy_dict hS m (by omega) ⟨H,I.tok _,by rw [z6K r];exact q⟩
 | _=>exact (show False from e).elim
theorem z8X (ha:PE X a ta) (he:∀ whole,isTrue a X.env whole=(do let v ← whole;standAt a.pos;holding [v] (truthy v))) :
 PT X a (fun σ H Q=>ta σ H fun x H'=>∃ k,TruV X.K x H' k/\Q k H'):=by
 intro pins s σ H Q I h
 exact isTrue_plain (thn (ha pins s σ H _ I h) fun v s1 ⟨x,H1,I1,r1,q1⟩=>zn3 pins s1 σ H1 x v Q I1 r1 q1) (he _)
theorem op_add_str:OpR X (binaryOp .Add) (fun x y H Q=>∃ i j,x=.str i/\y=.str j/\i.length+j.length≤sizeLine/\Q (.str (i++j)) H):=by
 intro pins s σ H x y v u Q I rx ry h
 obtain ⟨i,j,rfl,rfl,hz,q⟩:=h
 obtain ⟨t,rfl⟩:=rx
 obtain ⟨t',rfl⟩:=ry
 exact add_str (fun t' tk=>⟨.str (i++j),H,I.tok _,⟨_,rfl⟩,q⟩) hz
theorem vals1 {x:V}{us:List Value}(r:Vals [x] us):∃ u,us=[u]/\RelV x u:=by
 cases r with
 | cons r1 r2=>cases r2;exact ⟨_,rfl,r1⟩
theorem vals2 {x y:V}{us:List Value}(r:Vals [x,y] us):∃ u w',us=[u,w']/\RelV x u/\RelV y w':=by
 cases r with
 | cons r1 r2 =>
  cases r2 with
  | cons r3 r4=>cases r4;exact ⟨_,_,rfl,r1,r3⟩
theorem z8y (hc:X.calm=true):z3d X (.builtin "min") (fun xs H Q=>∃ i j,xs=[.int i,.int j]/\Q (.int (if j<i then j else i)) H):=by
 intro pins s σ H xs us Q I r h
 obtain ⟨i,j,rfl,q⟩:=h
 obtain ⟨u,w',rfl,⟨t,rfl⟩,⟨t',rfl⟩⟩:=vals2 r
 refine min_two_ints (I.ok.hd hc) fun h' tk k=>⟨_,H,I.kept k,?_,q⟩
 by_cases hj:j<i
 ·rw [if_pos hj,if_pos hj];exact ⟨_,rfl⟩
 ·rw [if_neg hj,if_neg hj];exact ⟨_,rfl⟩
theorem z88:z3d X (.type "int") (fun xs H Q=>(∃ i,xs=[.int i]/\Q (.int i) H)∨∃ k,xs=[.bl k]/\Q (.int (if k then 1 else 0)) H):=by
 intro pins s σ H xs us Q I r h
 rcases h with ⟨i,rfl,q⟩ | ⟨k,rfl,q⟩
 ·obtain ⟨u,rfl,t,rfl⟩:=vals1 r
  exact call_int_int ⟨.int i,H,I,⟨_,rfl⟩,q⟩
 ·obtain ⟨u,rfl,r1⟩:=vals1 r
  cases r1
  exact call_int_bool ⟨.int (if k then 1 else 0),H,I.tok _,⟨_,rfl⟩,q⟩
def LenV (K:PySem.W.Frag) (x:V) (H:Hp) (n:Nat):Prop :=
 match x with
 | .str y=>y.length≤sizeLine/\n=y.length
 | .byt y=>y.size≤sizeLine/\n=y.size
 | .ref p=>(∃ xs,SqL K H p xs/\n=xs.length)∨∃ xs,SqT K H p xs/\n=xs.length
 | _=>False
theorem z9c:z3d X (.builtin "len") (fun xs H Q=>∃ x n,xs=[x]/\LenV X.K x H n/\Q (.int n) H):=by
 intro pins s σ H xs us Q I r h
 obtain ⟨x,n,rfl,e,q⟩:=h
 obtain ⟨u,rfl,rx⟩:=vals1 r
 have hl:=z43
 have hs:sizeLine=16777216:=sizeLine_eq
 cases x with
 | str y =>
  obtain ⟨t,rfl⟩:=rx
  obtain ⟨hy,e'⟩:y.length≤sizeLine/\n=y.length:=e
  subst e'
  exact len_str (by omega) ⟨.int _,H,I.tok _,⟨_,rfl⟩,q⟩
 | byt y =>
  obtain ⟨t,rfl⟩:=rx
  obtain ⟨hy,e'⟩:y.size≤sizeLine/\n=y.size:=e
  subst e'
  exact PySem.W.len_bytes (by omega) ⟨.int _,H,I.tok _,⟨_,rfl⟩,q⟩
 | ref p =>
  cases rx
  have e':(∃ xs,SqL X.K H p xs/\n=xs.length)∨∃ xs,SqT X.K H p xs/\n=xs.length:=e
  rcases e' with ⟨xs,hx,e'⟩ | ⟨xs,hx,e'⟩
  ·subst e'
   obtain ⟨its,r',pl,hz⟩:=I.list hx
   have hlen:=r'.length
   exact Calls.call_len_list pl.isList (by simp only [List.size_toArray];omega) ⟨.int xs.length,H,I.tok _,⟨_,by simp only [List.size_toArray];rw [hlen]⟩,q⟩
  ·subst e'
   obtain ⟨its,r',pl,hz⟩:=I.tuple hx
   have hlen:=r'.length
   exact len_tuple pl (by simp only [List.size_toArray];omega) ⟨.int xs.length,H,I.tok _,⟨_,by simp only [List.size_toArray];rw [hlen]⟩,q⟩
 | _=>exact (show False from e).elim
end
structure ObjM (h:Heap) (x dx C:Addr) (mA:Str->Option Value):Prop where
 obj:h.get? x=some (PySem.W.instObj C dx)
 ns:h.Ns1 dx mA
 ne:dx≠x
theorem z7x {h:Heap}{dx:Addr}{mA:Str->Option Value}(n:h.Ns1 dx mA):∃ od,h.get? dx=some od/\∀ name,PySem.W.lookIn name od=some (mA name):=by
 obtain ⟨o,es,ep,ho,hd,hk,_,hm⟩:=n
 refine ⟨o,ho,fun name=>?_⟩
 have e:=hm name
 unfold nsFind findBy at e
 rw [← Array.find?_toList] at e
 unfold PySem.W.lookIn
 rw [hd]
 dsimp only
 split
 ·rename_i y q
  rw [q] at e
  exact congrArg some e
 ·rename_i q
  rw [q] at e
  have a:es.toList.any (·.refKey)=false:=by
   rw [List.any_eq_false]
   intro y hy
   obtain ⟨z,t,hkey⟩:=hk y (Array.mem_toList_iff.mp hy)
   simp [DictEntry.refKey,hkey]
  have a':¬ es.toList.any (·.refKey)=true:=by rw [a];exact Bool.false_ne_true
  rw [if_neg a']
  exact congrArg some e
theorem ObjM.look {h:Heap}{x dx C:Addr}{mA:Str->Option Value}(I:ObjM h x dx C mA):∃ od,PySem.W.InstAt h x (PySem.W.instObj C dx) C (some od)/\∀ name,PySem.W.lookIn name od=some (mA name) :=
 let ⟨od,ho,hl⟩:=z7x I.ns
 ⟨od,⟨I.obj,rfl,rfl,ho⟩,hl⟩
section
variable {prog:Program}{w:World}{A:Around}{E:Value->Shared->Prop}{s:Shared}{K:PySem.W.Frag}{x dx C f:Addr}{mA:Str->Option Value}{name:Str}{v:Value}
end
section
variable {P:Program}{w:World}{H H':Hp}{h h':Heap}{a C dx:Addr}{fs fs':List (Str×V)}
theorem zk4 (hok:HOk P w H h) (e:H a=some (.ins C dx fs)):∃ mA,ObjM h a dx C mA/\(∀ f,RelO (fs.lookup f) (mA f))/\PySem.Within mA (fs.map (·.1))/\fs.length≤1000/\H dx=some (.own a):=by
 obtain ⟨d,z,ne,ob,mA,n,r,q⟩:=(show ObjOk P w H h a (.ins C dx fs) from hok a _ e)
 exact ⟨mA,⟨ob,n,ne⟩,r,q,z,d⟩
end
structure Cls (K:PySem.W.Frag) (C:Addr):Prop where
 pg:PySem.W.plainGet K C Str.empty=true
 hd:PySem.W.hasDictIn K C=true
 po:PySem.W.plainOver K C=true
 sa:PySem.W.findIn K (.ref C) "__setattr__" = some (some (.builtin "object.__setattr__"))
theorem Cls.get {K:PySem.W.Frag}{C:Addr}(c:Cls K C) (f:Str):PySem.W.plainGet K C f=true:=c.pg
section
variable {X:Cx}{pins:List (Addr×Obj)}{σ:St}{H:Hp}{s:Shared}{a C dx:Addr}{fs:List (Str×V)}{f:Str}{v:V}{A:Around}{E:Value->Shared->Prop}
end
section
variable {X:Cx}{o e value:Expr}{f:Str}{pos pos' tpos:Pos}{ta tv:TE}
end
section
variable {X:Cx}{pins:List (Addr×Obj)}{σ:St}{H:Hp}{s:Shared}{A:Around}{E:Value->Shared->Prop}{Q:Value->Shared->Prop}{c:Value}{b:Bool}
inductive TyOf (K:PySem.W.Frag) (H:Hp):V->Value->Prop where
 | non:TyOf K H .non (.type "NoneType")
 | bl (x:Bool):TyOf K H (.bl x) (.type "bool")
 | int (i:Int):TyOf K H (.int i) (.type "int")
 | str (x:Str):TyOf K H (.str x) (.type "str")
 | flt (x:UInt64):TyOf K H (.flt x) (.type "float")
 | lst {a:Addr} {xs:List V} (e:H a=some (.lst xs)):TyOf K H (.ref a) (.type "list")
 | frz {a:Addr} {o:Obj} {xs:List V} (e:H a=some (.frz o (.lst xs))):TyOf K H (.ref a) (.type "list")
 | tup {a:Addr} {xs:List V} (e:H a=some (.tup xs)):TyOf K H (.ref a) (.type "tuple")
 | dK {a:Addr} {kvs:List (Key×V)} (e:H a=some (.dK kvs)):TyOf K H (.ref a) (.type "dict")
 | dT {a:Addr} {kvs:List (List Key×V)} (e:H a=some (.dT kvs)):TyOf K H (.ref a) (.type "dict")
 | ins {a C dx:Addr} {fs:List (Str×V)} (e:H a=some (.ins C dx fs)) (cl:Cls K C) (ha:PySem.W.findIn K (.ref C) "__class__" = some (some (.builtin "object.__class__")))
  (hn:PySem.W.specialIn K (.builtin "object.__class__") "__get__" = some (some (.builtin "getset_descriptor.__get__"))) (htk:PySem.W.takesIn K (.builtin "object.__class__")=some true)
  (hm:PySem.W.mroIn K C (.type "object")=some true):TyOf K H (.ref a) (.ref C)
theorem z7j {x:V}{u t:Value}(I:Inv X pins σ H s) (rx:RelV x u) (ty:TyOf X.K H x t) (e:PySem.W.kitOne X.K t c=some b) (h:∀ tk,Q (.bool b) { s with toks:=tk }) :
 wpAny (model X.prog X.w) A (call (.builtin "isinstance") [u,c]) Q E s:=by
 cases ty with
 | non=>cases (show u=Value.none from rx);exact PySem.W.kia_one PySem.W.kitx_none I.kIn True.intro e (fun z=>nomatch z) h
 | bl y=>cases (show u=Value.bool y from rx);exact PySem.W.kia_one PySem.W.kitx_bool I.kIn True.intro e (fun z=>nomatch z) h
 | int i=>obtain ⟨t,q⟩:=(show ∃ t,u=Value.int i t from rx);cases q;exact PySem.W.kia_one PySem.W.kitx_int I.kIn True.intro e (fun z=>nomatch z) h
 | str y=>obtain ⟨t,q⟩:=(show ∃ t,u=Value.str y t from rx);cases q;exact PySem.W.kia_one PySem.W.kitx_str I.kIn True.intro e (fun z=>nomatch z) h
 | flt y=>obtain ⟨t,q⟩:=(show ∃ t,u=Value.float y t from rx);cases q;exact PySem.W.kia_one PySem.W.kitx_float I.kIn True.intro e (fun z=>nomatch z) h
 | @lst a xs ea =>
  cases (show u=Value.ref a from rx)
  obtain ⟨_,_,n,_,h1⟩:=(show ObjOk X.prog X.w H s.heap a (.lst xs) from I.hok a _ ea)
  exact PySem.W.kia_one PySem.W.kitx_list I.kIn ⟨_,h1,rfl⟩ e (fun z=>nomatch z) h
 | @frz a ob xs ea =>
  cases (show u=Value.ref a from rx)
  obtain ⟨_,_,_,n,_,h1⟩:=(show ObjOk X.prog X.w H s.heap a (.frz ob (.lst xs)) from I.hok a _ ea)
  exact PySem.W.kia_one PySem.W.kitx_list I.kIn ⟨_,h1,rfl⟩ e (fun z=>nomatch z) h
 | @tup a xs ea =>
  cases (show u=Value.ref a from rx)
  obtain ⟨_,_,_,p⟩:=(show ObjOk X.prog X.w H s.heap a (.tup xs) from I.hok a _ ea)
  obtain ⟨o,h1,h2,_⟩:=p
  exact PySem.W.kia_one PySem.W.kitx_tuple I.kIn ⟨o,h1,h2.1⟩ e (fun z=>nomatch z) h
 | @dK a kvs ea =>
  cases (show u=Value.ref a from rx)
  obtain ⟨_,_,vs,_,p⟩:=(show ObjOk X.prog X.w H s.heap a (.dK kvs) from I.hok a _ ea)
  obtain ⟨o,es,ep,h1,h2,_⟩:=p
  exact PySem.W.kia_one PySem.W.kitx_dict I.kIn ⟨o,h1,h2.1⟩ e (fun z=>nomatch z) h
 | @dT a kvs ea =>
  cases (show u=Value.ref a from rx)
  obtain ⟨_,_,xs,_,o,es,ep,h1,h2,_⟩:=(show ObjOk X.prog X.w H s.heap a (.dT kvs) from I.hok a _ ea)
  exact PySem.W.kia_one PySem.W.kitx_dict I.kIn ⟨o,h1,h2.1⟩ e (fun z=>nomatch z) h
 | @ins a C dx fs ea cl ha hn htk hm =>
  cases (show u=Value.ref a from rx)
  obtain ⟨mA,O,_⟩:=zk4 I.hok ea
  obtain ⟨od,J,_⟩:=O.look
  exact PySem.W.kia_one (PySem.W.kitx_own (cl.get _) cl.hd ha hn htk hm) I.kIn J e (fun z=>nomatch z) h
end
structure Room (k:Nat) (A:Around):Prop where
 hd:A.handled=none
 dp:A.depth+3 * k+5<recursionLimit
 un:A.units+16 * k+200<cLine
 gd:A.guards=some []
theorem Room.mono {j k:Nat}{A:Around}(r:Room k A) (h:j≤k):Room j A:=⟨r.hd,by have:=r.dp;omega,by have:=r.un;omega,r.gd⟩
theorem Room.deeper {k:Nat}{A:Around}(r:Room (k+1) A) (env:Env):Room k (A.deeper env) :=
 ⟨r.hd,by have:=r.dp;show A.depth+1+3 * k+5<_;omega,by have:=r.un;show A.units+3+16 * k+200<_;omega,r.gd⟩
theorem Room.depth {k:Nat}{A:Around}(r:Room k A):A.depth<recursionLimit:=by have:=r.dp;omega
theorem Room.units {k:Nat}{A:Around}(r:Room k A):A.units+64<cLine:=by have:=r.un;omega
def tNil:TA:=fun _ H Q=>Q [] H
def z8a (ta:TE) (tr:TA):TA:=fun σ H Q=>ta σ H fun x H1=>tr σ H1 fun xs H2=>Q (x :: xs) H2
section
variable {X:Cx}{e:Expr}{es:List Expr}{te:TE}{t:TA}{pos:Pos}
theorem z3A:PA X [] tNil:=fun _ _ _ _ H Q I h=>Calls.spliced_nil ⟨[],H,I,.nil,h⟩
theorem z2q (ha:PE X e te) (hr:PA X es t) (hs:starEach (e :: es) X.env=(false,eval e X.env) :: starEach es X.env:=by rfl):PA X (e :: es) (z8a te t):=by
 intro pos pins s σ H Q I h
 rw [hs]
 show wpAny _ _ (spliced ((false,eval e X.env) :: backTo pos (starEach es X.env))) _ _ s
 refine Calls.spliced_cons (thn (ha pins s σ H _ I h) fun u s1 ⟨x,H1,I1,r1,q1⟩=>?_)
 exact thn (hr pos pins s1 σ H1 _ I1 q1) fun us s2 ⟨xs,H2,I2,r2,q2⟩=>⟨x :: xs,H2,I2,.cons r1 r2,q2⟩
def tTup (t:TA):TE:=fun σ H Q=>t σ H fun xs H1=>xs.length≤sizeLine/\∀ p,H1 p=none->Q (.ref p) (upd H1 p (.tup xs))
def tLst (t:TA):TE:=fun σ H Q=>t σ H fun xs H1=>xs.length≤sizeLine/\∀ p,H1 p=none->Q (.ref p) (upd H1 p (.lst xs))
theorem zo7 {x1}(h:PA X es t):PE X (.Tuple es x1 pos) (tTup t):=by
 intro pins s σ H Q I hq
 refine wpAny_Tuple_spliced (thn (h pos pins s σ H _ I hq) fun us s1 ⟨xs,H1,I1,r,z,q⟩=>⟨by rw [← r.length];exact z,?_⟩)
 have hf:H1 s1.heap.objs.size=none:=I1.hok.fresh (Nat.le_refl _)
 refine ⟨.ref s1.heap.objs.size,upd H1 s1.heap.objs.size (.tup xs),I1.laid (t':=s1.toks) (fun b u e=>Heap.get?_push_of_some _ e) (Nat.le_refl _) ?_,rfl,q _ hf⟩
 exact ⟨z,us,r,⟨_,Heap.get?_push_size _ rfl,⟨rfl,rfl⟩,_,rfl⟩⟩
theorem zr0 (h:PA X es t):PE X (.List es pos) (tLst t):=by
 intro pins s σ H Q I hq
 refine wpAny_List_spliced (thn (h pos pins s σ H _ I hq) fun us s1 ⟨xs,H1,I1,r,z,q⟩=>⟨by rw [← r.length];exact z,?_⟩)
 have hf:H1 s1.heap.objs.size=none:=I1.hok.fresh (Nat.le_refl _)
 refine ⟨.ref s1.heap.objs.size,upd H1 s1.heap.objs.size (.lst xs),I1.laid (t':=s1.toks) (fun b u e=>Heap.get?_push_of_some _ e) (Nat.le_refl _) ?_,rfl,q _ hf⟩
 exact ⟨z,us,0,r,Heap.get?_push_size _ rfl⟩
end
abbrev Sp:=List V->Hp->VK->XK->Prop
abbrev CXT:=List Env->Hp->Shared->XK->Value->Shared->Prop
structure Env0 (P:Program) (w:World) (K:PySem.W.Frag) (mg:Str->Option Value) (base:Heap) (A:Around) (outer:List Env) (s:Shared) (H:Hp):Prop where
 frames:A.frames=some outer
 mod:Mod K mg base
 bs:∀ b o,base.get? b=some o->s.heap.get? b=some o/\H b=none
 bsz:base.objs.size≤s.heap.objs.size
 funs:s.heap.FunFrames base outer
 frf:∀ b∈frs outer,H b=none
 hok:HOk P w H s.heap
 bare:AllBare s.gens
def CE (outer:List Env) (P:Program) (w:World) (H:Hp) (s:Shared) (Q:VK) (u:Value) (s':Shared):Prop :=
 ∃ v H',s'.os=s.os/\AllBare s'.gens/\Un (frs outer) [] H H' s.heap s'.heap/\HOk P w H' s'.heap/\RelV v u/\Q v H'
def CR (CX:CXT) (outer:List Env) (P:Program) (w:World) (H:Hp) (s:Shared) (Q:VK) (E:XK) (r:Result) (s':Shared):Prop :=
 match r with
 | .ok (.ret u)=>CE outer P w H s Q u s'
 | .ok _=>False
 | .error e=>CX outer H s E e s'
structure FnOk (P:Program) (w:World) (K:PySem.W.Frag) (mg:Str->Option Value) (base:Heap) (CX:CXT) (k:Nat) (f:Addr) (fd:FuncData) (ps:List Str) (sp:Sp):Prop where
 len:∀ vs H Q E,sp vs H Q E->vs.length=ps.length
 run:∀ (A:Around) (outer:List Env) (s:Shared) (H:Hp) (args:Args) (us:List Value) (vs:List V) (Q:VK) (E:XK),Room k A->Env0 P w K mg base A outer s H->BindsTo s fd args (ps.zip us)->Vals vs us->sp vs H Q E ->
  codeAny (model P w) A (.call (.ref f) args) (CR CX outer P w H s Q E) s
theorem FnOk.imp {P:Program}{w:World}{K:PySem.W.Frag}{mg:Str->Option Value}{base:Heap}{CX:CXT}{k:Nat}{f:Addr}{fd:FuncData}{ps:List Str}{sp sp':Sp}(F:FnOk P w K mg base CX k f fd ps sp)
 (h:∀ vs H Q E,sp' vs H Q E->sp vs H Q E):FnOk P w K mg base CX k f fd ps sp' :=
 ⟨fun vs H Q E q=>F.len vs H Q E (h _ _ _ _ q),fun A outer s H args us vs Q E hr he hb hv hs=>F.run A outer s H args us vs Q E hr he hb hv (h _ _ _ _ hs)⟩
section
variable {X:Cx}{pins:List (Addr×Obj)}{σ:St}{H:Hp}{s s':Shared}
theorem Inv.env0 (I:Inv X pins σ H s):Env0 X.prog X.w X.K X.mg X.base X.A X.stack s H :=
 ⟨I.ok.frames,I.ok.mod,I.bs,Nat.le_trans I.ok.bsz I.sz,I.stack,I.stkFree,I.hok,I.bare⟩
theorem Inv.after {Q:VK}{u:Value}(I:Inv X pins σ H s) (h:CE X.stack X.prog X.w H s Q u s'):EP X pins σ Q u s':=by
 obtain ⟨v,H',os,bare,un,hok,r,q⟩:=h
 obtain ⟨hh,g,d,t,os'⟩:=s'
 obtain rfl:os'=s.os:=os
 exact ⟨v,H',I.call (h':=hh) (g':=g) (d':=d) (t':=t) (ch:=[]) un hok bare (fun b z=>absurd z (by simp)),r,q⟩
end
def zC2 (sp:Sp) (dvs:List V) (E:XK) (t:TA):TE:=fun σ H Q=>t σ H fun vs H1=>sp (vs++dvs) H1 Q E
def Binds (K:PySem.W.Frag) (fd:FuncData) (ps:List Str) (ds:List Value):Prop :=
 ∀ (s:Shared) (us:List Value),K.In s.heap->(us++ds).length=ps.length->BindsTo s fd ⟨us,[]⟩ (ps.zip (us++ds))
theorem Binds.all {K:PySem.W.Frag}{fd:FuncData}{ps:List Str}(h:∀ us:List Value,us.length=ps.length->bindArgs fd ⟨us,[]⟩=pure (ps.zip us)):Binds K fd ps []:=fun s us _ hl=>by
 rw [List.append_nil] at hl ⊢
 exact .of_eq (h us hl)
def z5k (CX:CXT) (X:Cx) (E:XK):Prop:=∀ (pins:List (Addr×Obj)) (σ:St) (H:Hp) (s:Shared) (e:Value) (s':Shared),Inv X pins σ H s->CX X.stack H s E e s'->X.xe e s'
section
variable {X:Cx}{CX:CXT}{k:Nat}{f C:Addr}{fd:FuncData}{ps:List Str}{sp:Sp}{dvs:List V}{ds:List Value}{E:XK}{x m:Str}{p pos apos:Pos}{e o:Expr}{es:List Expr}{ta:TE}{t:TA}
theorem zq8 {pins:List (Addr×Obj)}{σ:St}{H:Hp}{s:Shared}{Q:VK}{us:List Value}{vs:List V}(F:FnOk X.prog X.w X.K X.mg X.base CX k f fd ps sp) (hr:Room k X.A) (hb:Binds X.K fd ps ds) (hd:Vals dvs ds) (hx:z5k CX X E)
 (I:Inv X pins σ H s) (r:Vals vs us) (h:sp (vs++dvs) H Q E):wpAny (model X.prog X.w) X.A (call (.ref f) us) (EP X pins σ Q) X.xe s:=by
 have r2:Vals (vs++dvs) (us++ds):=r.append hd
 have hl:(us++ds).length=ps.length:=by rw [← r2.length];exact F.len _ _ _ _ h
 refine wpAny_call (codeAny_mono (F.run X.A X.stack s H ⟨us,[]⟩ (us++ds) (vs++dvs) Q E hr I.env0 (hb s us I.kIn hl) r2 h) fun r s' hq=>?_)
 cases r with
 | error e=>exact hx pins σ H s e s' I hq
 | ok fl =>
  cases fl with
  | ret u=>exact I.after hq
  | next=>exact False.elim hq
  | brk=>exact False.elim hq
  | cont=>exact False.elim hq
theorem zj2 (F:FnOk X.prog X.w X.K X.mg X.base CX k f fd ps sp) (hr:Room k X.A) (hg:Gl X x) (hm:X.mg x=some (.ref f)) (hk:PySem.W.keepIn X.K (.ref f)=true) (hb:Binds X.K fd ps ds) (hd:Vals dvs ds) (hx:z5k CX X E)
 (ha:PA X (e :: es) t) (hdb:(x == ("__debug__":Str))=false:=by decide) (he:starEach (e :: es) X.env=(false,eval e X.env) :: starEach es X.env:=by rfl) (hpl:(backTo pos (starEach es X.env)).any (·.1)=false:=by rfl) :
 PE X (.Call (.Name x p) (e :: es) [] pos) (zC2 sp dvs E t):=by
 intro pins s σ H Q I h
 refine wpAny_Call_Name_kw (z5n I hg hm ?_ hdb)
 refine PySem.W.callWith_K (h₀:=X.base) I.ok.mod.kin hk (thn (ha pos pins s σ H _ I h) fun us s1 ⟨vs,H1,I1,r,q⟩=>⟨I1.kIn,?_⟩) he hpl
 exact zq8 F hr hb hd hx I1 r q
end
def PK (X:Cx) (kws:List Keyword) (t:TA):Prop :=
 ∀ (pos:Pos) (pins:List (Addr×Obj)) (s:Shared) (σ:St) (H:Hp) (Q:List V->Hp->Prop),Inv X pins σ H s->t σ H Q->wpAny (model X.prog X.w) X.A (evalAll ((backToKw pos (keywordEach kws X.env)).map (·.2))) (AP X pins σ Q) X.xe s
section
variable {X:Cx}{CX:CXT}{k:Nat}{f C:Addr}{fd:FuncData}{ps ks:List Str}{sp:Sp}{E:XK}{x m:Str}{p pos apos kpos:Pos}{e o:Expr}{es:List Expr}{kws:List Keyword}{te ta:TE}{t tk:TA}{nm:Option Str}
theorem zo9:PK X [] tNil:=fun _ _ _ _ H Q I h=>wpAny_evalAll_nil ⟨[],H,I,.nil,h⟩
theorem zb9 (ha:PE X e te) (hr:PK X kws t):PK X (⟨nm,e,kpos⟩ :: kws) (z8a te t):=by
 intro pos pins s σ H Q I h
 show wpAny _ _ (evalAll ((do let v ← eval e X.env;standAt pos;pure v) :: (backToKw pos (keywordEach kws X.env)).map (·.2))) _ _ s
 refine wpAny_evalAll_cons (wpAny_bind (thn (ha pins s σ H _ I h) fun u s1 ⟨x,H1,I1,r1,q1⟩=>wpAny_bind (wpAny_standAt (wpAny_pure ?_))))
 exact thn (hr pos pins s1 σ H1 _ I1 q1) fun us s2 ⟨xs,H2,I2,r2,q2⟩=>⟨x :: xs,H2,I2,.cons r1 r2,q2⟩
structure KBinds (K:PySem.W.Frag) (fd:FuncData) (ps ks:List Str) (g:List Value->List Value->List Value) (gV:List V->List V->List V):Prop where
 to:∀ (s:Shared) (us ws:List Value),K.In s.heap->(g us ws).length=ps.length->BindsTo s fd ⟨us,ks.zip ws⟩ (ps.zip (g us ws))
 rel:∀ {vs:List V} {us:List Value} {zs:List V} {ws:List Value},Vals vs us->Vals zs ws->Vals (gV vs zs) (g us ws)
def zu1 (sp:Sp) (gV:List V->List V->List V) (E:XK) (t tk:TA):TE:=fun σ H Q=>t σ H fun vs H1=>tk σ H1 fun zs H2=>sp (gV vs zs) H2 Q E
variable {g:List Value->List Value->List Value}{gV:List V->List V->List V}
theorem zg9 {pins:List (Addr×Obj)}{σ:St}{H:Hp}{s:Shared}{Q:VK}{us ws:List Value}{vs zs:List V}(F:FnOk X.prog X.w X.K X.mg X.base CX k f fd ps sp) (hr:Room k X.A) (hb:KBinds X.K fd ps ks g gV) (hx:z5k CX X E)
 (I:Inv X pins σ H s) (r:Vals vs us) (rz:Vals zs ws) (h:sp (gV vs zs) H Q E):wpAny (model X.prog X.w) X.A (call (.ref f) us (ks.zip ws)) (EP X pins σ Q) X.xe s:=by
 have r2:=hb.rel r rz
 have hl:(g us ws).length=ps.length:=by rw [← r2.length];exact F.len _ _ _ _ h
 refine wpAny_call (codeAny_mono (F.run X.A X.stack s H ⟨us,ks.zip ws⟩ (g us ws) (gV vs zs) Q E hr I.env0 (hb.to s us ws I.kIn hl) r2 h) fun r s' hq=>?_)
 cases r with
 | error e=>exact hx pins σ H s e s' I hq
 | ok fl =>
  cases fl with
  | ret u=>exact I.after hq
  | next=>exact False.elim hq
  | brk=>exact False.elim hq
  | cont=>exact False.elim hq
theorem z98 (F:FnOk X.prog X.w X.K X.mg X.base CX k f fd ps sp) (hr:Room k X.A) (hg:Gl X x) (hm:X.mg x=some (.ref f)) (hk:PySem.W.keepIn X.K (.ref f)=true) (hb:KBinds X.K fd ps ks g gV) (hx:z5k CX X E)
 (ha:PA X (e :: es) t) (hkw:PK X kws tk) (hall:(backToKw pos (keywordEach kws X.env)).all (·.1.isSome)=true:=by rfl) (hks:(backToKw pos (keywordEach kws X.env)).filterMap (·.1)=ks:=by rfl)
 (hdb:(x == ("__debug__":Str))=false:=by decide) (he:starEach (e :: es) X.env=(false,eval e X.env) :: starEach es X.env:=by rfl)
 (hpl:((backTo pos (starEach (e :: es) X.env)).any (·.1) || (backToKw pos (keywordEach kws X.env)).any (·.1.isNone))=false:=by rfl) :
 PE X (.Call (.Name x p) (e :: es) kws pos) (zu1 sp gV E t tk):=by
 intro pins s σ H Q I h
 refine wpAny_Call_Name_kw (z5n I hg hm ?_ hdb)
 refine PySem.W.callWith_KW (h₀:=X.base) I.ok.mod.kin hk hall (thn (ha pos pins s σ H _ I h) fun us s1 ⟨vs,H1,I1,r,q⟩=>?_) hpl he
 refine thn (hkw pos pins s1 σ H1 _ I1 q) fun ws s2 ⟨zs,H2,I2,rz,q2⟩=>⟨I2.kIn,?_⟩
 rw [hks]
 exact zg9 F hr hb hx I2 r rz q2
end
structure FnScope (N P:List Str) (sc:Scope):Prop where
 kind:sc.kind=.function
 co:sc.isCoroutine=false
 gen:sc.isGenerator=false
 nd:N.Nodup
 pre:N.take P.length=P
 par:∀ x∈P,sc.names.lookup x=some .local∨sc.names.lookup x=some .cell
 nofree:∀ y∈sc.names,y.2≠.free
theorem z5e {kindOf:Str->Option NameKind}{x:Str}:∀ {binds:List (Str×Value)}{m:Str->Option Value},(∀ v,(x,v)∉binds)->bindL kindOf binds m x=m x
 | [],_,_=>rfl
 | (n,v) :: r,m,h=>by
  unfold bindL
  rw [z5e fun w hw=>h w (List.mem_cons_of_mem _ hw)]
  split
  ·have:x≠n:=by rintro rfl;exact h v List.mem_cons_self
   simp [this]
  ·rfl
theorem z53 {kindOf:Str->Option NameKind}{x:Str}:∀ {binds:List (Str×Value)}{m:Str->Option Value},(∀ v,(x,v)∉binds)->bindC kindOf binds m x=m x
 | [],_,_=>rfl
 | (n,v) :: r,m,h=>by
  unfold bindC
  rw [z53 fun w hw=>h w (List.mem_cons_of_mem _ hw)]
  split
  ·rfl
  ·have:x≠n:=by rintro rfl;exact h v List.mem_cons_self
   simp [this]
theorem z4T {kindOf:Str->Option NameKind}{x:Str}{v:Value}:∀ {P:List Str}{vs:List Value}{i:Nat}{m:Str->Option Value},P.Nodup->P[i]?=some x->vs[i]?=some v->kindOf x=some .local ->
 bindL kindOf (P.zip vs) m x=some v
 | [],_,_,_,_,h,_,_=>by simp at h
 | _ :: _,[],_,_,_,_,h,_=>by simp at h
 | p :: P,w :: vs,0,m,nd,h1,h2,hk=>by
  simp at h1 h2;subst h1;subst h2
  show bindL kindOf ((p,w) :: P.zip vs) m p=_
  unfold bindL
  rw [z5e fun v hv=>(List.nodup_cons.mp nd).1 (List.of_mem_zip hv).1,if_pos hk]
  simp
 | p :: P,w :: vs,i+1,m,nd,h1,h2,hk=>by
  show bindL kindOf ((p,w) :: P.zip vs) m x=_
  unfold bindL
  exact z4T (i:=i) (List.nodup_cons.mp nd).2 (by simpa using h1) (by simpa using h2) hk
theorem z4I {kindOf:Str->Option NameKind}{x:Str}{v:Value}:∀ {P:List Str}{vs:List Value}{i:Nat}{m:Str->Option Value},P.Nodup->P[i]?=some x->vs[i]?=some v->kindOf x≠some .local ->
 bindC kindOf (P.zip vs) m x=some v
 | [],_,_,_,_,h,_,_=>by simp at h
 | _ :: _,[],_,_,_,_,h,_=>by simp at h
 | p :: P,w :: vs,0,m,nd,h1,h2,hk=>by
  simp at h1 h2;subst h1;subst h2
  show bindC kindOf ((p,w) :: P.zip vs) m p=_
  unfold bindC
  rw [z53 fun v hv=>(List.nodup_cons.mp nd).1 (List.of_mem_zip hv).1,if_neg hk]
  simp
 | p :: P,w :: vs,i+1,m,nd,h1,h2,hk=>by
  show bindC kindOf ((p,w) :: P.zip vs) m x=_
  unfold bindC
  exact z4I (i:=i) (List.nodup_cons.mp nd).2 (by simpa using h1) (by simpa using h2) hk
def start (N:List Str) (vs:List V):St:=vs.map some++List.replicate (N.length - vs.length) none
def cxOf (CX:CXT) (P:Program) (w:World) (K:PySem.W.Frag) (mg:Str->Option Value) (base:Heap) (N:List Str) (qual:Str) (scope:Scope) (f:Addr) (cd:Value) (A:Around) (outer:List Env) (s:Shared) (H:Hp) (E:XK):Cx where
 prog:=P
 w:=w
 K:=K
 mg:=mg
 base:=base
 A:=A.deeper (envOfC qual scope s.heap.objs.size f cd)
 N:=N
 s₀:=s
 H₀:=H
 env:=envOfC qual scope s.heap.objs.size f cd
 outer:=outer
 stack:=envOfC qual scope s.heap.objs.size f cd :: outer
 ex:=[]
 calm:=true
 fn:=fun _=>true
 pn:=[]
 xe:=fun e s'=>wpAny (model P w) (A.deeper (envOfC qual scope s.heap.objs.size f cd)) (leaving (envOfC qual scope s.heap.objs.size f cd) e) (fun _ s''=>CX outer H s E e s'') (fun e' s''=>CX outer H s E e' s'') s'
theorem z6x {sc:Scope}{n:Nat}{x:Str}(h:sc.names.lookup x=some .cell):∃ c,(cellsFrom n sc.names []).lookup x=some c:=by
 have q:=PySem.W.cellsFrom_some sc.names n [] (.inl h)
 exact Option.isSome_iff_exists.mp q
theorem z7M {CX:CXT}{P:Program}{w:World}{K:PySem.W.Frag}{mg:Str->Option Value}{base:Heap}{N ps:List Str}{qual:Str}{scope:Scope}{f:Addr}{cd:Value}{A:Around}{outer:List Env}{s s1:Shared}{H:Hp}{E:XK}{us:List Value}{vs:List V}
 (S:FnScope N ps scope) (hd:A.handled=none) (e0:Env0 P w K mg base A outer s H) (hl:vs.length=ps.length) (r:Vals vs us)
 (x:InCallC s s.heap.objs.size (bindL (envOfC qual scope s.heap.objs.size f cd).kindOf (ps.zip us) fun _=>none) (cellsFrom (s.heap.objs.size+1) scope.names []) (bindC (envOfC qual scope s.heap.objs.size f cd).kindOf (ps.zip us) fun _=>none) s1) :
 Inv (cxOf CX P w K mg base N qual scope f cd A outer s H E) [] (start N vs) H s1:=by
 have hpl:ps.length≤N.length:=by have:=congrArg List.length S.pre;rw [List.length_take] at this;omega
 obtain ⟨h1,tk,rfl,hk⟩:=x.done
 have noA:∀ b:Addr,b∉(cxOf CX P w K mg base N qual scope f cd A outer s H E).ex:=fun b z=>absurd (show b∈([]:List Addr) from z) (by simp)
 refine ⟨⟨e0.mod,S.kind,rfl,rfl,Nat.le_refl _,fun y z c h1 h2=>?_,fun y hy=>?_,fun y c _ h=>?_,fun _=>hd,Around.frames_deeper e0.frames,.inr ⟨rfl,rfl⟩,fun b z=>absurd z (noA b),e0.bs,e0.bsz,fun b _ _=>noA b,fun b z=>absurd z (noA b),e0.funs,e0.frf⟩,
  rfl,e0.bare,Un.kept hk,⟨_,x.toInCall.ns,fun i y v h1 h2 h3=>?_⟩,fun y c h=>⟨_,x.cell y c h⟩,e0.hok.fresh (Nat.le_refl _),fun y c h=>?_,fun p hp=>absurd (show p∈([]:List (Addr×Obj)) from hp) (by simp),e0.hok.kept hk,?_⟩
 ·exact name_of_addr x.apart (PySem.mem_of_lookup h1) (PySem.mem_of_lookup h2)
 ·have hy:scope.names.lookup y=some .cell∨scope.names.lookup y=some .free:=hy
  rcases hy with hy | hy
  ·exact z6x hy
  ·exact absurd rfl (S.nofree _ (PySem.mem_of_lookup hy))
 ·exact Nat.le_of_lt (x.above y c (PySem.mem_of_lookup h))
 ·have hi:i<vs.length:=by
   unfold start at h2
   by_cases hi:i<vs.length
   ·exact hi
   ·rw [List.getElem?_append_right (by simpa using hi)] at h2
    rw [List.getElem?_replicate] at h2
    split at h2<;>cases h2
  have ha:vs[i]?=some v:=by
   unfold start at h2
   rw [List.getElem?_append_left (by simpa using hi),List.getElem?_map] at h2
   cases e:vs[i]? with
   | none=>rw [e] at h2;cases h2
   | some a=>rw [e] at h2;cases h2;rfl
  obtain ⟨u,hu,rv⟩:=r.get ha
  have hp:ps[i]?=some y:=by
   rw [← S.pre,List.getElem?_take_of_lt (by omega)];exact h1
  have ndP:ps.Nodup:=by rw [← S.pre];exact S.nd.sublist (List.take_sublist _ _)
  refine ⟨u,rv,?_⟩
  rcases S.par y (List.mem_of_getElem? hp) with k | k
  ·exact .inl ⟨k,z4T ndP hp hu k⟩
  ·obtain ⟨c,e⟩:=z6x (n:=s.heap.objs.size+1) k
   refine .inr ⟨.inl k,c,e,?_⟩
   have q:=x.cell y c e
   rw [z4I ndP hp hu (by show scope.names.lookup y≠_;rw [k];decide)] at q
   exact q
 ·exact e0.hok.fresh (Nat.le_of_lt (x.above y c (PySem.mem_of_lookup h)))
 ·unfold start
  show _=N.length
  rw [List.length_append,List.length_map,List.length_replicate]
  omega
theorem zk6 {CX:CXT}{P:Program}{w:World}{K:PySem.W.Frag}{mg:Str->Option Value}{base:Heap}{k:Nat}{f:Addr}{name qual:Str}{params:Arguments}{body:List Stmt}{scope:Scope}{dV kV doc pm cdv ct oc:Value}{an od:Option Addr}
 {osl:Array (Option Value)} {N ps:List Str} {sp:Sp} (lk:K.lookup f=some ⟨oc,od,.func (PySem.W.fnOf name qual params body scope dV kV doc pm an cdv ct),osl⟩) (hcd:PySem.W.codeIn K cdv qual=true) (S:FnScope N ps scope)
 (len:∀ vs H Q E,sp vs H Q E->vs.length=ps.length)
 (hbody:∀ (A:Around) (outer:List Env) (s:Shared) (H:Hp) (vs:List V) (Q:VK) (E:XK),Room k (A.deeper (envOfC qual scope s.heap.objs.size f cdv))->sp vs H Q E ->
  ∃ t,PSs (cxOf CX P w K mg base N qual scope f cdv A outer s H E) body t/\t { nx:=fun _ H'=>Q .non H',rt:=Q } (start N vs) H) :
 FnOk P w K mg base CX (k+1) f (PySem.W.fnOf name qual params body scope dV kV doc pm an cdv ct) ps sp:=by
 refine ⟨len,fun A outer s H args us vs Q E hr e0 hb r hsp=>?_⟩
 have hl:=len _ _ _ _ hsp
 have KX:K.In s.heap:=e0.mod.kin.keeps fun b o e=>(e0.bs b o e).1
 have lim:s.heap.NoLimit:=e0.mod.nolimit.keeps fun b o e=>(e0.bs b o e).1
 have hkind:∀ y∈ps.zip us,scope.names.lookup y.1=some .local∨(scope.names.lookup y.1=some .cell/\((cellsFrom (s.heap.objs.size+1) scope.names []).lookup y.1).isSome=true):=fun ⟨n,v⟩ hy=>by
  rcases S.par n (List.of_mem_zip hy).1 with q | q
  ·exact .inl q
  ·exact .inr ⟨q,PySem.W.cellsFrom_some _ _ _ (.inl q)⟩
 refine codeAny_call_function hr.depth (KX _ _ lk) rfl S.co S.gen rfl (PySem.W.codeRec_of KX hcd) (hb _ _ _ _ ?_)
 refine wpAny_newFunctionEnv_cells S.kind hkind fun env he s1 x=>?_
 subst he
 refine ⟨lim.keeps x.toInCall.keep,codeAny_func ?_⟩
 obtain ⟨t,ht,hq⟩:=hbody A outer s H vs Q E (hr.deeper _) hsp
 have I:Inv (cxOf CX P w K mg base N qual scope f cdv A outer s H E) [] (start N vs) H s1:=z7M S hr.hd e0 hl r x
 refine wpAny_mono (ht [] s1 (start N vs) H _ I hq) (fun fl s' hs=>?_) fun e s' hs=>hs
 have fin:∀ {σ':St} {H':Hp} {v:V} {u:Value},Inv (cxOf CX P w K mg base N qual scope f cdv A outer s H E) [] σ' H' s'->RelV v u->Q v H'->CE outer P w H s Q u s' :=
  fun {σ' H' v u} J rv q=>⟨v,H',J.os,J.bare,J.base,J.hok,rv,q⟩
 cases fl with
 | ret u =>
  obtain ⟨v,σ',H',J,rv,q⟩:=hs
  exact fin J rv q
 | next =>
  obtain ⟨σ',H',J,q⟩:=hs
  exact fin (v:=V.non) (u:=Value.none) J rfl q
 | brk =>
  obtain ⟨_,_,_,q⟩:=hs
  exact False.elim q
 | cont =>
  obtain ⟨_,_,_,q⟩:=hs
  exact False.elim q
section
variable {X:Cx}{x:Str}{p pos:Pos}{e:Expr}{es:List Expr}{t:TA}{id T:String}{r:List V->Hp->VK->Prop}
def tCB (r:List V->Hp->VK->Prop) (t:TA):TE:=fun σ H Q=>t σ H fun vs H1=>r vs H1 Q
theorem z29 (hc:z3d X (.builtin id) r) (hg:Gl X x) (hm:X.mg x=none) (hv:bootBuiltins x=some (.builtin id)) (ha:PA X (e :: es) t) (hn:x≠"__name__":=by decide) (hdb:(x == ("__debug__":Str))=false:=by decide)
 (he:starEach (e :: es) X.env=(false,eval e X.env) :: starEach es X.env:=by rfl) (hpl:(backTo pos (starEach es X.env)).any (·.1)=false:=by rfl):PE X (.Call (.Name x p) (e :: es) [] pos) (tCB r t):=by
 intro pins s σ H Q I h
 refine wpAny_Call_Name_kw (z5l I hg hm hv ?_ hn hdb)
 exact PyProof.Rows.callWith_builtin1 (thn (ha pos pins s σ H _ I h) fun us s1 ⟨vs,H1,I1,r1,q1⟩=>hc pins s1 σ H1 vs us Q I1 r1 q1) he hpl
theorem z2u (hc:z3d X (.type T) r) (hg:Gl X x) (hm:X.mg x=none) (hv:bootBuiltins x=some (.type T)) (ha:PA X (e :: es) t) (hn:x≠"__name__":=by decide) (hdb:(x == ("__debug__":Str))=false:=by decide)
 (he:starEach (e :: es) X.env=(false,eval e X.env) :: starEach es X.env:=by rfl) (hpl:(backTo pos (starEach es X.env)).any (·.1)=false:=by rfl):PE X (.Call (.Name x p) (e :: es) [] pos) (tCB r t):=by
 intro pins s σ H Q I h
 refine wpAny_Call_Name_kw (z5l I hg hm hv ?_ hn hdb)
 exact PyProof.Rows.callWith_type1 (thn (ha pos pins s σ H _ I h) fun us s1 ⟨vs,H1,I1,r1,q1⟩=>hc pins s1 σ H1 vs us Q I1 r1 q1) he hpl
end
end L2
namespace HT
open PySem PyProof.Rows
section
open PySem.SeqAt
open PySem.AutoSeq1 (wpAny_loadPart')
open PySem.MeetsSeq PySem.MeetsSeq2 PySem.MeetsSeq3
end
section
variable {prog:Program}{w:World}{A:Around}{E:Value->Shared->Prop}{s:Shared}
theorem cat_tup {t b:Addr}{vs ws:List Value}{Q:Value->Shared->Prop}(ht:IsTup s.heap t vs.toArray) (hb:IsTup s.heap b ws.toArray) (hv:vs≠[])
 (h1:ws=[]->Q (.ref t) s) (h2:ws≠[]->Q (.ref s.heap.objs.size) { s with heap:=s.heap.push { cls:=.type "tuple",data:=.seq (vs++ws).toArray } })
 (hsz:vs.length+ws.length≤sizeLine):wpAny (model prog w) A (binaryOp .Add (.ref t) (.ref b)) Q E s:=by
 obtain ⟨⟨cls,dd,data,sl⟩,ho,hc,n,hd⟩:=id ht
 obtain ⟨⟨cls2,dd2,data2,sl2⟩,ho2,hc2,n2,hd2⟩:=id hb
 simp only at hc hd hc2 hd2
 subst hc hd hc2 hd2
 have e:vs.toArray++ws.toArray=(vs++ws).toArray:=by simp
 by_cases hw:ws=[]
 ·exact concat_meets ⟨_,ho,rfl⟩ ⟨_,ho2,rfl⟩ noFill_tuple_add seq_tuple_add PySem.F.slot_tuple_add PySem.F.entry_tuple_add (PySem.F.args_tuple_add_2 _ _)
   (tuple_addW1 t b vs.toArray ws.toArray n n2 dd dd2 sl sl2 (by simpa using hv) (by simp [hw])) ⟨ho,ho2,h1 hw⟩
 ·refine concat_meets ⟨_,ho,rfl⟩ ⟨_,ho2,rfl⟩ noFill_tuple_add seq_tuple_add PySem.F.slot_tuple_add PySem.F.entry_tuple_add (PySem.F.args_tuple_add_2 _ _)
   (tuple_addW2 t b vs.toArray ws.toArray n n2 dd dd2 sl sl2 (by simpa using hv) (by simpa using hw) (by rw [List.size_toArray,List.size_toArray];exact hsz)) ⟨ho,ho2,?_⟩
  rw [e]
  exact h2 hw
def sIx (n d:Nat):Option Int->Nat
 | none=>d
 | some v=>if v<0 then (v+(n:Int)).toNat else min v.toNat n
theorem sIx_none (n d:Nat):sIx n d none=d:=rfl
theorem sIx_nat (n d k:Nat):sIx n d (some (k:Int))=min k n:=by
 show (if (k:Int)<0 then ((k:Int)+(n:Int)).toNat else min (k:Int).toNat n)=min k n
 rw [if_neg (by omega),Int.toNat_natCast]
theorem zl0 (n d:Nat) (hd:d≤n) (o:Option Int):sIx n d o≤n:=by
 cases o with
 | none=>exact hd
 | some v =>
  show (if v<0 then (v+(n:Int)).toNat else min v.toNat n)≤n
  by_cases hv:v<0
  ·rw [if_pos hv];omega
  ·rw [if_neg hv];exact Nat.min_le_right _ _
theorem z7i (v:Int) (n d:Nat):(if v<0 then max (v+(n:Int)) 0 else min v (n:Int))=((sIx n d (some v):Nat):Int):=by
 show (if v<0 then max (v+(n:Int)) 0 else min v (n:Int))=(((if v<0 then (v+(n:Int)).toNat else min v.toNat n):Nat):Int)
 by_cases hv:v<0
 ·simp only [if_pos hv];omega
 ·simp only [if_neg hv];omega
theorem z6U (lo hi:Option Int) (n:Nat):Builtin.Slice.sliceAdjust lo hi 1 (n:Int)=(((sIx n 0 lo:Nat):Int),((sIx n n hi:Nat):Int)):=by
 have h1:¬ ((1:Int)<0):=by omega
 unfold Builtin.Slice.sliceAdjust
 simp only [h1,if_false]
 refine Prod.ext ?_ ?_
 ·cases lo with
  | none=>rfl
  | some v=>exact z7i v n 0
 ·cases hi with
  | none=>rfl
  | some v=>exact z7i v n n
theorem z6N (i j:Nat):Builtin.Slice.slicePlaces (i:Int) (j:Int) 1=j - i:=by
 unfold Builtin.Slice.slicePlaces
 have h1:(1:Int) > 0:=by omega
 simp only [h1,if_true,Int.ediv_one]
 split<;>omega
theorem z3S {v:Value}{o:Option Int}{Q:Option Int->Shared->Prop}(p:IsPart v o) (h:Q o s):wpAny (model prog w) A (Builtin.Slice.slicePartIndex v) Q E s:=by
 cases p with
 | none=>exact slicePart_none h
 | int i t=>exact slicePart_int h
theorem sliceApplied_gen {sl:Addr}{vl vu:Value}{lo hi:Option Int}{n:Nat}{Q:Int×Int×Nat->Shared->Prop}(hs:s.heap.IsSliceOf sl vl vu .none) (pl:IsPart vl lo) (pu:IsPart vu hi)
 (h:Q (((sIx n 0 lo:Nat):Int),1,sIx n n hi - sIx n 0 lo) s):wpAny (model prog w) A (Builtin.Slice.sliceApplied (.ref sl) (pure (n:Int))) Q E s:=by
 obtain ⟨os,hos,hcs,hds⟩:=id hs
 unfold Builtin.Slice.sliceApplied Builtin.Slice.sliceFields
 refine wpAny_bind (wpAny_bind (wpAny_field hos hds (x:=vl) rfl (wpAny_bind (wpAny_field hos hds (x:=vu) rfl (wpAny_bind (wpAny_field hos hds (x:=.none) rfl (wpAny_pure ?_)))))))
 refine wpAny_bind (slicePart_none ?_)
 show wpAny _ _ (if ((1:Int) == 0)=true then _ else _) _ _ s
 rw [if_neg (by decide)]
 refine wpAny_bind (z3S pl (wpAny_bind (z3S pu (wpAny_bind (wpAny_pure ?_)))))
 show wpAny _ _ (match Builtin.Slice.sliceAdjust lo hi 1 (n:Int) with | (lo,hi)=>pure (lo,(1:Int),Builtin.Slice.slicePlaces lo hi 1)) _ _ s
 rw [z6U lo hi n]
 show wpAny _ _ (pure (((sIx n 0 lo:Nat):Int),(1:Int),Builtin.Slice.slicePlaces ((sIx n 0 lo:Nat):Int) ((sIx n n hi:Nat):Int) 1)) _ _ s
 rw [z6N]
 exact wpAny_pure h
theorem z9t (xs:Array Value) (i k:Nat):((List.range k).filterMap fun (m:Nat)=>xs[((i:Int)+(m:Int) * 1).toNat]?).toArray=((xs.toList.drop i).take k).toArray:=by
 have e:(fun (m:Nat)=>xs[((i:Int)+(m:Int) * 1).toNat]?)=fun m=>xs[i+m]?:=by
  funext m
  have:((i:Int)+(m:Int) * 1).toNat=i+m:=by omega
  rw [this]
 rw [e]
 have:=pick_run xs i k
 rw [List.filterMap_map] at this
 have e2:((fun x=>xs[x]?) ∘ fun x=>i+x)=fun m=>xs[i+m]?:=rfl
 rw [e2] at this
 rw [this]
theorem getItem_tuple_cut {t sl:Addr}{items:Array Value}{vl vu:Value}{lo hi:Option Int}{Q:Value->Shared->Prop}(ht:IsTup s.heap t items) (hs:s.heap.IsSliceOf sl vl vu .none) (pl:IsPart vl lo) (pu:IsPart vu hi)
 (hw:¬ (sIx items.size 0 lo=0/\sIx items.size items.size hi=items.size))
 (h:Q (.ref s.heap.objs.size) { s with heap:=s.heap.push { cls:=.type "tuple",data:=.seq ((items.toList.drop (sIx items.size 0 lo)).take (sIx items.size items.size hi - sIx items.size 0 lo)).toArray } })
 (hsz:items.size≤sizeLine):wpAny (model prog w) A (getItem (.ref t) (.ref sl)) Q E s:=by
 have htake:sizeOk (.seq ((items.toList.drop (sIx items.size 0 lo)).take (sIx items.size items.size hi - sIx items.size 0 lo)).toArray):=by
  show ((items.toList.drop (sIx items.size 0 lo)).take (sIx items.size items.size hi - sIx items.size 0 lo)).toArray.size≤sizeLine
  rw [List.size_toArray,List.length_take,List.length_drop,Array.length_toList]
  omega
 have hj:sIx items.size items.size hi≤items.size:=zl0 _ _ (Nat.le_refl _) hi
 obtain ⟨os,hos,hcs,hds⟩:=id hs
 have hTs:s.TypeIs (.ref sl) "slice":=⟨os,hos,hcs⟩
 unfold getItem
 try with_reducible refine wpAny_holding ?_
 first | refine wpAny_bind (wpAny_pure ?_) | skip
 refine wpAny_bind (wpAny_sequenceKey ht.typeIs (by decide) ?_)
 refine wpAny_bind (wpAny_callSpecial?_slot (name:=Str.ofString "__getitem__") ht.typeIs PyProof.Rows.slot_tuple_getitem
  (wpAny_call_entry PyProof.Rows.slot_tuple_getitem ht.typeIs entry_tuple_getitem ?_ (args_tuple_getitem _ _)))
 show wpAny _ _ (Builtin.Tuple.tupleItemsOf (.ref t) >>= _) _ _ s
 refine wpAny_bind (tupleItemsOf_ ht ?_)
 refine wpAny_bind (wpAny_typeOf hTs ?_)
 rw [if_pos (by decide)]
 refine wpAny_bind (sliceApplied_gen hs pl pu ?_)
 have hno:¬ ((((sIx items.size 0 lo:Nat):Int) == 0 && (1:Int) == 1 && (sIx items.size items.size hi - sIx items.size 0 lo) == items.size)=true):=by
  intro q
  rw [Bool.and_eq_true,Bool.and_eq_true] at q
  have q1:((sIx items.size 0 lo:Nat):Int)=0:=eq_of_beq q.1.1
  have q2:sIx items.size items.size hi - sIx items.size 0 lo=items.size:=eq_of_beq q.2
  exact hw ⟨by omega,by omega⟩
 show wpAny _ _ (if (((sIx items.size 0 lo:Nat):Int) == 0 && (1:Int) == 1 && (sIx items.size items.size hi - sIx items.size 0 lo) == items.size)=true then _ else _) _ _ s
 rw [if_neg hno,z9t]
 first
  | exact wpAny_bind (m:=Builtin.Tuple.tupleExact _) (wpAny_newObj_type (wpAny_pure ⟨_,rfl,wpAny_pure h⟩) htake)
  | exact wpAny_bind (m:=Builtin.Tuple.tupleExact _) (wpAny_newObj_type (wpAny_bind (wpAny_pure (wpAny_pure ⟨_,rfl,wpAny_pure h⟩))) htake)
  | exact wpAny_bind (wpAny_bind (m:=Builtin.Tuple.tupleExact _) (wpAny_newObj_type (wpAny_pure (wpAny_pure ⟨_,rfl,wpAny_pure h⟩)) htake))
  | exact wpAny_bind (wpAny_bind (m:=Builtin.Tuple.tupleExact _) (wpAny_newObj_type (wpAny_pure ⟨_,rfl,wpAny_pure h⟩) htake))
end
end HT
namespace L2
open PySem PySem.Spec PyProof.Rows
abbrev TO:=St->Hp->(Option Int->Hp->Prop)->Prop
def PO (X:Cx) (e:Option Expr) (t:TO):Prop :=
 ∀ (pins:List (Addr×Obj)) (s:Shared) (σ:St) (H:Hp) (Q:Option Int->Hp->Prop),Inv X pins σ H s->t σ H Q ->
  wpAny (model X.prog X.w) X.A (evalPart e X.env) (fun u s'=>∃ o H',Inv X pins σ H' s'/\IsPart u o/\Q o H') X.xe s
def zj6:TO:=fun _ H Q=>Q none H
def zB7 (t:TE):TO:=fun σ H Q=>t σ H fun x H1=>∃ i,x=.int i/\Q (some i) H1
theorem intsAre_of {ns:List Int}:∀ {us:List Value},Vals (ns.map V.int) us->IntsAre us ns:=by
 induction ns with
 | nil=>intro us r;rw [List.map_nil] at r;cases r;exact .nil
 | cons n ns ih =>
  intro us r
  rw [List.map_cons] at r
  cases r with
  | cons r1 r2 =>
   obtain ⟨t,e⟩:=r1
   subst e
   exact .cons n t (ih r2)
section
variable {X:Cx}{e:Expr}{te:TE}{lo hi:Option Expr}{tl th:TO}{pos p2:Pos}
theorem zh7:PO X none zj6:=by
 intro pins s σ H Q I h
 rw [evalPart_none]
 exact wpAny_pure ⟨none,H,I,.none,h⟩
theorem zb6 (h:PE X e te):PO X (some e) (zB7 te):=by
 intro pins s σ H Q I hw
 rw [evalPart_some]
 refine thn (h pins s σ H _ I hw) fun u s1 ⟨x,H1,I1,r1,q1⟩=>?_
 obtain ⟨i,rfl,q⟩:=q1
 obtain ⟨t,rfl⟩:=r1
 exact ⟨some i,H1,I1,.int i t,q⟩
def SlR (X:Cx) (r:V->Option Int->Option Int->Hp->VK->Prop):Prop :=
 ∀ (pins:List (Addr×Obj)) (s:Shared) (σ:St) (H:Hp) (x:V) (v vl vu:Value) (lo hi:Option Int) (sl:Addr) (Q:VK),Inv X pins σ H s->RelV x v->s.heap.IsSliceOf sl vl vu .none->IsPart vl lo->IsPart vu hi->r x lo hi H Q ->
  ∃ T id,typeLookup (.type T) "__getitem__" = pure (some (.builtin id))/\s.TypeIs v T/\wpAny (model X.prog X.w) X.A (getItem v (.ref sl)) (EP X pins σ Q) X.xe s
theorem SlR.or {r r':V->Option Int->Option Int->Hp->VK->Prop}(h:SlR X r) (h':SlR X r'):SlR X (fun x lo hi H Q=>r x lo hi H Q∨r' x lo hi H Q):=by
 intro pins s σ H x v vl vu lo hi sl Q I rx hs pl pu q
 rcases q with q | q
 ·exact h pins s σ H x v vl vu lo hi sl Q I rx hs pl pu q
 ·exact h' pins s σ H x v vl vu lo hi sl Q I rx hs pl pu q
def tSl (r:V->Option Int->Option Int->Hp->VK->Prop) (te:TE) (tl th:TO):TE:=fun σ H Q=>te σ H fun x H1=>tl σ H1 fun l H2=>th σ H2 fun u H3=>r x l u H3 Q
theorem z8Z {r:V->Option Int->Option Int->Hp->VK->Prop}(hr:SlR X r) (he:PE X e te) (hl:PO X lo tl) (hu:PO X hi th):PE X (.Subscript e (.Slice lo hi none p2) pos) (tSl r te tl th):=by
 intro pins s σ H Q I h
 refine Subscript_ (thn (he pins s σ H _ I h) fun v s1 ⟨x,H1,I1,r1,q1⟩=>?_)
 refine wpAny_Slice (thn (hl pins s1 σ H1 _ I1 q1) fun vl s2 ⟨l,H2,I2,pl,q2⟩=>thn (hu pins s2 σ H2 _ I2 q2) fun vu s3 ⟨u,H3,I3,pu,q3⟩=>?_)
 rw [evalPart_none]
 refine wpAny_pure ?_
 have I4:Inv X pins σ H3 { s3 with heap:=s3.heap.push { cls:=.type "slice",data:=.fields #[vl,vu,.none] } }:=I3.kept (t':=s3.toks) fun b ob q=>Heap.get?_push_of_some _ q
 obtain ⟨T,id,hT,ht,hg⟩:=hr pins { s3 with heap:=s3.heap.push { cls:=.type "slice",data:=.fields #[vl,vu,.none] } } σ H3 x v vl vu l u s3.heap.objs.size Q I4 r1 (Heap.IsSliceOf.new ..) pl pu q3
 show wpAny (model X.prog X.w) X.A (subscriptTail e (.Slice lo hi none p2) v (.ref s3.heap.objs.size)) (EP X pins σ Q) X.xe { s3 with heap:=s3.heap.push { cls:=.type "slice",data:=.fields #[vl,vu,.none] } }
 exact tail_any (ops:=[.ref s3.heap.objs.size,v]) ht hT hg (by with_unfolding_all rfl)
def cutV (xs:List V) (lo hi:Option Int):List V:=(xs.drop (HT.sIx xs.length 0 lo)).take (HT.sIx xs.length xs.length hi - HT.sIx xs.length 0 lo)
theorem z3K (xs:List V) (lo hi:Option Int):(cutV xs lo hi).length≤xs.length:=by
 unfold cutV
 rw [List.length_take,List.length_drop]
 omega
def rSlT (K:PySem.W.Frag):V->Option Int->Option Int->Hp->VK->Prop:=fun x lo hi H Q=>∃ a xs,x=.ref a/\SqT K H a xs /\
 ¬ (HT.sIx xs.length 0 lo=0/\HT.sIx xs.length xs.length hi=xs.length)/\∀ p,H p=none->Q (.ref p) (upd H p (.tup (cutV xs lo hi)))
theorem sl_tup:SlR X (rSlT X.K):=by
 intro pins s σ H x v vl vu lo hi sl Q I rx hs pl pu h
 obtain ⟨a,xs,rfl,hx,hw,q⟩:=h
 cases rx
 obtain ⟨its,r,ht,hz⟩:=I.tuple hx
 have hlen:its.toArray.size=xs.length:=by rw [List.size_toArray];exact r.length.symm
 refine ⟨"tuple",_,PyProof.Rows.slot_tuple_getitem.lookup,ht.typeIs,?_⟩
 refine HT.getItem_tuple_cut ht hs pl pu (by rw [hlen];exact hw) ?_ (by rw [hlen];exact hz)
 rw [hlen]
 refine ⟨.ref s.heap.objs.size,_,I.laid (t':=s.toks) (o:=.tup (cutV xs lo hi)) (fun b ob q=>Heap.get?_push_of_some _ q) (Nat.le_refl _) ?_,rfl,q _ (I.hok.fresh (Nat.le_refl _))⟩
 exact ⟨Nat.le_trans (z3K xs lo hi) hz,_,(r.drop (HT.sIx xs.length 0 lo)).take (HT.sIx xs.length xs.length hi - HT.sIx xs.length 0 lo),FT.IsTup0.new _ _⟩
def zh9 (K:PySem.W.Frag):R2:=fun x y H Q=>∃ a b xs ys,x=.ref a/\y=.ref b/\SqT K H a xs/\SqT K H b ys/\xs≠[]/\xs.length+ys.length≤sizeLine /\
 (ys=[]->Q (.ref a) H)/\(ys≠[]->∀ p,H p=none->Q (.ref p) (upd H p (.tup (xs++ys))))
theorem Vals.nil_iff {xs:List V}{us:List Value}(r:Vals xs us):us=[]↔xs=[]:=by
 cases r with
 | nil=>simp
 | cons _ _=>simp
theorem op_catT:OpR X (binaryOp .Add) (zh9 X.K):=by
 intro pins s σ H x y v u Q I rx ry h
 obtain ⟨a,b,xs,ys,rfl,rfl,ha,hb,hx,hz,q1,q2⟩:=h
 cases rx
 cases ry
 obtain ⟨its,r1,p1,_⟩:=I.tuple ha
 obtain ⟨its2,r2,p2,_⟩:=I.tuple hb
 refine HT.cat_tup p1 p2 (fun z=>hx (r1.nil_iff.mp z)) (fun z=>⟨.ref a,H,I,rfl,q1 (r2.nil_iff.mp z)⟩) (fun z=>?_) (by rw [← r1.length,← r2.length];exact hz)
 refine ⟨.ref s.heap.objs.size,_,I.laid (t':=s.toks) (o:=.tup (xs++ys)) (fun b ob q=>Heap.get?_push_of_some _ q) (Nat.le_refl _) ?_,rfl,q2 (fun w=>z (r2.nil_iff.mpr w)) _ (I.hok.fresh (Nat.le_refl _))⟩
 exact ⟨by rw [List.length_append];exact hz,_,r1.append r2,FT.IsTup0.new _ _⟩
end
def ixN (n:Nat) (i:Int):Option Nat:=if 0≤i then (if i<n then some i.toNat else none) else if -(n:Int)≤i then some (i+n).toNat else none
def atI {α:Type} (xs:List α) (i:Int):Option α:=(ixN xs.length i).bind fun j=>xs[j]?
theorem z7A {n:Nat}{i:Int}{j:Nat}(h:ixN n i=some j):seqIndex? i n=some j/\j<n/\-(n:Int)≤i/\i<n:=by
 unfold ixN at h
 by_cases h0:0≤i
 ·rw [if_pos h0] at h
  by_cases h1:i<n
  ·rw [if_pos h1] at h
   have e:i.toNat=j:=Option.some.inj h
   exact ⟨by rw [seqIndex_of h0 h1,e],by omega,by omega,h1⟩
  ·rw [if_neg h1] at h;cases h
 ·rw [if_neg h0] at h
  by_cases h1:-(n:Int)≤i
  ·rw [if_pos h1] at h
   have e:(i+n).toNat=j:=Option.some.inj h
   exact ⟨by rw [seqIndex_neg (by omega) h1,e],by omega,h1,by omega⟩
  ·rw [if_neg h1] at h;cases h
theorem z5E {α:Type}{xs:List α}{i:Int}{v:α}(h:atI xs i=some v):∃ j,seqIndex? i xs.length=some j/\xs[j]?=some v/\j<xs.length/\-(xs.length:Int)≤i/\i<xs.length:=by
 unfold atI at h
 cases e:ixN xs.length i with
 | none=>rw [e] at h;cases h
 | some j =>
  rw [e] at h
  obtain ⟨h1,h2,h3,h4⟩:=z7A e
  exact ⟨j,h1,h,h2,h3,h4⟩
theorem z03 {α:Type}{xs:List α}{j:Nat}{v:α}(h:xs[j]?=some v):atI xs (j:Int)=some v:=by
 have hj:j<xs.length:=(List.getElem?_eq_some_iff.mp h).1
 have e:ixN xs.length (j:Int)=some j:=by
  unfold ixN
  rw [if_pos (by omega),if_pos (by omega)];simp
 unfold atI;rw [e];exact h
def z7L (b:Expr):Prop:=∀ o i,subscripted b false o i=operate [o,i] (getItem o i)
def IxR (X:Cx) (r:R2):Prop :=
 ∀ (value slice:Expr) (pins:List (Addr×Obj)) (s:Shared) (σ:St) (H:Hp) (x y:V) (v u:Value) (Q:VK),Inv X pins σ H s->RelV x v->RelV y u->r x y H Q ->
  subscripted slice false v u=operate [v,u] (getItem v u)->wpAny (model X.prog X.w) X.A (subscriptTail value slice v u) (EP X pins σ Q) X.xe s
def MtR (X:Cx) (id:String) (r:V->List V->Hp->VK->Prop):Prop :=
 ∀ (pins:List (Addr×Obj)) (s:Shared) (σ:St) (H:Hp) (x:V) (xs:List V) (v:Value) (us:List Value) (Q:VK),Inv X pins σ H s->RelV x v->Vals xs us->r x xs H Q ->
  wpAny (model X.prog X.w) X.A (call (.builtin id) (v :: us)) (EP X pins σ Q) X.xe s
section
variable {X:Cx}{a b:Expr}{ta tb:TE}{pos:Pos}
theorem IxR.or {r r':R2}(h:IxR X r) (h':IxR X r'):IxR X (fun x y H Q=>r x y H Q∨r' x y H Q):=by
 intro value slice pins s σ H x y v u Q I rx ry q hs
 rcases q with q | q
 ·exact h value slice pins s σ H x y v u Q I rx ry q hs
 ·exact h' value slice pins s σ H x y v u Q I rx ry q hs
theorem zy2 {r:R2}(hr:IxR X r) (ha:PE X a ta) (hb:PE X b tb) (hs:z7L b):PE X (.Subscript a b pos) (tOp r ta tb):=by
 intro pins s σ H Q I h
 exact Subscript_ (binT ha hb I h fun v u s2 x y H2 I2 rx ry q=>hr a b pins s2 σ H2 x y v u Q I2 rx ry q (hs _ _))
def rIxL (K:PySem.W.Frag):R2:=fun x y H Q=>∃ p xs i v,x=.ref p/\y=.int i/\SqL K H p xs/\atI xs i=some v/\Q v H
def rIxT (K:PySem.W.Frag):R2:=fun x y H Q=>∃ p xs i v,x=.ref p/\y=.int i/\SqT K H p xs/\atI xs i=some v/\Q v H
def rIxS:R2:=fun x y H Q=>∃ z i c,x=.str z/\y=.int i/\z.length≤sizeLine/\atI z.cps.toList i=some c/\Q (.str ⟨#[c]⟩) H
theorem ix_list:IxR X (rIxL X.K):=by
 intro value slice pins s σ H x y v u Q I rx ry h hs
 obtain ⟨p,xs,i,z,rfl,rfl,hq,he,q⟩:=h
 cases rx
 obtain ⟨t,rfl⟩:=ry
 obtain ⟨its,r,pl,hz⟩:=I.list hq
 obtain ⟨j,h1,h2,h3,h4,h5⟩:=z5E he
 obtain ⟨w,ew,rw'⟩:=r.get h2
 have hl:=r.length
 have hn:=z43
 have fin:EP X pins σ Q w s:=⟨z,H,I,rw',q⟩
 by_cases h0:0≤i
 ·have hj:i.toNat=j:=by
   rw [seqIndex_of h0 h5] at h1
   exact Option.some.inj h1
  exact item_listR pl.isList h0 (by omega) (by rw [hj];simpa using ew) fin hs
 ·have hj:(i+(its.toArray.size:Int)).toNat=j:=by
   rw [seqIndex_neg (by omega) h4] at h1
   rw [List.size_toArray,← hl]
   exact Option.some.inj h1
  exact subscriptTail_builtinR (x:=w) pl.isList.typeIs slot_list_getitem.lookup
   (wpAny_getItem_list_neg (Q:=fun r s'=>r=w/\EP X pins σ Q r s') pl.isList (by omega) (by rw [List.size_toArray]<;>omega) (by omega) (by rw [hj];simpa using ew) ⟨rfl,fin⟩) hs
theorem ix_tup:IxR X (rIxT X.K):=by
 intro value slice pins s σ H x y v u Q I rx ry h hs
 obtain ⟨p,xs,i,z,rfl,rfl,hq,he,q⟩:=h
 cases rx
 obtain ⟨t,rfl⟩:=ry
 obtain ⟨its,r,pl,hz⟩:=I.tuple hq
 obtain ⟨j,h1,h2,h3,h4,h5⟩:=z5E he
 obtain ⟨w,ew,rw'⟩:=r.get h2
 have hl:=r.length
 have hn:=z43
 have fin:EP X pins σ Q w s:=⟨z,H,I,rw',q⟩
 exact subscriptTail_builtinR (x:=w) pl.typeIs slot_tuple_getitem.lookup
  (getItem_tuple (j:=j) (Q:=fun r s'=>r=w/\EP X pins σ Q r s') pl (by omega) (by omega) (by rw [List.size_toArray,← hl];exact h1) (by simpa using ew) ⟨rfl,fin⟩) hs
theorem zn9:IxR X rIxS:=by
 intro value slice pins s σ H x y v u Q I rx ry h hs
 obtain ⟨z,i,c,rfl,rfl,hz,he,q⟩:=h
 obtain ⟨t,rfl⟩:=rx
 obtain ⟨t',rfl⟩:=ry
 obtain ⟨j,h1,h2,h3,h4,h5⟩:=z5E he
 have hl:z.cps.toList.length=z.length:=by simp [Str.length]
 rw [hl] at h1 h4 h5
 have hn:=z43
 exact tail_any (typeIs_str s z t) slot_str_getitem.lookup (getItem_str (c:=c) (by
  have e1:decide (i < -(2 ^ 63:Int))=false:=decide_eq_false (by omega)
  have e2:decide (i ≥ 2 ^ 63)=false:=decide_eq_false (by omega)
  rw [e1,e2,Bool.or_false]) (by rw [h1];simpa using h2) ⟨.str ⟨#[c]⟩,H,I.tok _,⟨_,rfl⟩,q⟩) hs
def rIx (K:PySem.W.Frag):R2:=fun x y H Q=>rIxL K x y H Q∨rIxT K x y H Q∨rIxS x y H Q
theorem zs2:IxR X (rIx X.K):=ix_list.or (ix_tup.or zn9)
theorem z6Z (its:List Value) (n j:Nat) (u:Value):Obj.mapSeq (·.setIfInBounds j u) { cls:=.type "list",data:=.seq its.toArray n }={ cls:=.type "list",data:=.seq (its.set j u).toArray n }:=by
 simp [Obj.mapSeq]
theorem Inv.lst {pins:List (Addr×Obj)}{σ:St}{H:Hp}{s:Shared}{p:Addr}{xs:List V}(I:Inv X pins σ H s) (h:H p=some (.lst xs)) :
 ∃ (its:List Value) (n:Nat),Vals xs its/\s.heap.get? p=some { cls:=.type "list",data:=.seq its.toArray n }/\xs.length≤sizeLine:=by
 obtain ⟨z,its,n,r,e⟩:=I.hok p _ h
 exact ⟨its,n,r,e,z⟩
theorem Inv.lstUpd {pins:List (Addr×Obj)}{σ:St}{H:Hp}{s:Shared}{p:Addr}{xs ys:List V}{its its':List Value}{n n':Nat}{f:Obj->Obj}(I:Inv X pins σ H s) (h:H p=some (.lst xs))
 (ho:s.heap.get? p=some { cls:=.type "list",data:=.seq its.toArray n }) (hf:f { cls:=.type "list",data:=.seq its.toArray n }={ cls:=.type "list",data:=.seq its'.toArray n' }) (r:Vals ys its') (hz:ys.length≤sizeLine) (t:Nat) :
 Inv X pins σ (upd H p (.lst ys)) { s with heap:=s.heap.update p f,toks:=t }:=by
 have e:(s.heap.update p f).get? p=some { cls:=.type "list",data:=.seq its'.toArray n' }:=by
  rw [Heap.get?_update_self f ho (by rw [hf]<;>rfl),hf]
 refine I.write (x:=p) (e:=p) (by rw [h];trivial) (.inl rfl) (fun b u hb q=>(Heap.get?_update_other _ _ (Ne.symm hb)).trans q) ⟨_,e⟩ ?_
 exact ⟨hz,its',n',r,e⟩
def zB4:V->V->V->Hp->(Hp->Prop)->Prop:=fun o i v H Q=>∃ p xs k j,o=.ref p/\i=.int k/\H p=some (.lst xs)/\ixN xs.length k=some j/\Q (upd H p (.lst (xs.set j v)))
theorem set_list:PSet X zB4:=by
 intro pins s σ H o i v ov iv u Q I ro ri rv h
 obtain ⟨p,xs,k,j,rfl,rfl,hp,hj,q⟩:=h
 cases ro
 obtain ⟨t,rfl⟩:=ri
 obtain ⟨its,n,r,ho,hz⟩:=I.lst hp
 obtain ⟨h1,h2,h3,h4⟩:=z7A hj
 have hl:=r.length
 have hn:=z43
 have I':Inv X pins σ (upd H p (.lst (xs.set j v))) { s with heap:=s.heap.update p (Obj.mapSeq (·.setIfInBounds j u)) } :=
  I.lstUpd hp ho (z6Z its n j u) (r.set rv j) (by rw [List.length_set];exact hz) s.toks
 by_cases h0:0≤k
 ·have hk:k.toNat=j:=by
   rw [seqIndex_of h0 h4] at h1
   exact Option.some.inj h1
  exact PySem.W.ki_setAt ho h0 (by omega) (by rw [List.size_toArray,← hl];exact h4) (by rw [hk];exact ⟨_,I',q⟩)
 ·have hk:(k+(its.toArray.size:Int)).toNat=j:=by
   rw [seqIndex_neg (by omega) h3] at h1
   rw [List.size_toArray,← hl]
   exact Option.some.inj h1
  exact PySem.W.ki_setBack ho (by omega) (by rw [List.size_toArray,← hl];exact h3) (by omega) (by rw [hk];exact ⟨_,I',q⟩)
theorem z5d (lo hi:Option Int) (n:Nat):(sliceBounds lo hi none n).1=((HT.sIx n 0 lo:Nat):Int)/\(sliceBounds lo hi none n).2.1=((HT.sIx n n hi:Nat):Int)/\(sliceBounds lo hi none n).2.2=1:=by
 refine ⟨?_,?_,rfl⟩
 ·cases lo with
  | none=>simp [sliceBounds,HT.sIx]
  | some i =>
   simp only [sliceBounds,HT.sIx,Option.getD_none,show (1:Int) > 0 by decide,if_true]
   by_cases h:i<0
   ·simp only [h,if_true]<;>omega
   ·simp only [h,if_false]<;>omega
 ·cases hi with
  | none=>simp [sliceBounds,HT.sIx]
  | some i =>
   simp only [sliceBounds,HT.sIx,Option.getD_none,show (1:Int) > 0 by decide,if_true]
   by_cases h:i<0
   ·simp only [h,if_true]<;>omega
   ·simp only [h,if_false]<;>omega
theorem z4q (its:List Value) (lo hi:Option Int):slicePick its.toArray lo hi none=((its.drop (HT.sIx its.length 0 lo)).take (HT.sIx its.length its.length hi - HT.sIx its.length 0 lo)).toArray:=by
 obtain ⟨h1,h2,h3⟩:=z5d lo hi its.toArray.size
 unfold slicePick
 rw [h1,h2,h3]
 simp only [sliceRange_one,pick_run,List.size_toArray]<;>rfl
def rSlL (K:PySem.W.Frag):V->Option Int->Option Int->Hp->VK->Prop:=fun x lo hi H Q=>∃ a xs,x=.ref a/\SqL K H a xs/\∀ p,H p=none->Q (.ref p) (upd H p (.lst (cutV xs lo hi)))
theorem sl_list:SlR X (rSlL X.K):=by
 intro pins s σ H x v vl vu lo hi sl Q I rx hs pl pu h
 obtain ⟨a,xs,rfl,hx,q⟩:=h
 cases rx
 obtain ⟨its,r,ht,hz⟩:=I.list hx
 have hlen:=r.length
 refine ⟨"list",_,slot_list_getitem.lookup,ht.isList.typeIs,?_⟩
 refine wpAny_getItem_list_slice ht.isList hs pl pu .none (by simp) ?_ (by rw [List.size_toArray]<;>omega)
 rw [z4q,← hlen]
 refine ⟨.ref s.heap.objs.size,_,I.laid (t':=s.toks) (o:=.lst (cutV xs lo hi)) (fun b ob q=>Heap.get?_push_of_some _ q) (Nat.le_refl _) ?_,rfl,q _ (I.hok.fresh (Nat.le_refl _))⟩
 exact ⟨Nat.le_trans (z3K xs lo hi) hz,_,0,(r.drop (HT.sIx xs.length 0 lo)).take (HT.sIx xs.length xs.length hi - HT.sIx xs.length 0 lo),Heap.get?_push_size _ rfl⟩
def z3N:V->Bool
 | .non=>true
 | .bl _=>true
 | .int _=>true
 | .str _=>true
 | _=>false
def eqV:V->V->Bool
 | .non,.non=>true
 | .bl a,.bl b=>a == b
 | .bl a,.int b=>(if a then 1 else 0) == b
 | .int a,.bl b=>a == (if b then 1 else 0)
 | .int a,.int b=>a == b
 | .str a,.str b=>a == b
 | _,_=>false
theorem zq3 {A:Around}{s:Shared}{y x:V}{u v:Value}(ry:RelV y u) (rx:RelV x v) (fy:z3N y=true) (fx:z3N x=true):SeqAt.EqAt A s u v (eqV y x):=by
 cases y with
 | non =>
  cases ry
  cases x with
  | non=>cases rx;exact SeqAt.EqAt.same _
  | bl b=>cases rx;exact SeqAt.EqAt.none_bool b
  | int b=>obtain ⟨t,rfl⟩:=rx;exact SeqAt.EqAt.none_int b t
  | str b=>obtain ⟨t,rfl⟩:=rx;exact SeqAt.EqAt.none_str b t
  | _=>exact absurd (show false=true from fx) Bool.false_ne_true
 | bl a =>
  cases ry
  cases x with
  | non=>cases rx;exact SeqAt.EqAt.bool_none a
  | bl b=>cases rx;exact SeqAt.EqAt.bool_bool a b
  | int b=>obtain ⟨t,rfl⟩:=rx;exact SeqAt.EqAt.bool_int a b t
  | str b=>obtain ⟨t,rfl⟩:=rx;exact SeqAt.EqAt.bool_str a b t
  | _=>exact absurd (show false=true from fx) Bool.false_ne_true
 | int a =>
  obtain ⟨t',rfl⟩:=ry
  cases x with
  | non=>cases rx;exact SeqAt.EqAt.int_none a t'
  | bl b=>cases rx;exact SeqAt.EqAt.int_bool a t' b
  | int b=>obtain ⟨t,rfl⟩:=rx;exact SeqAt.EqAt.int_int a t' b t
  | str b=>obtain ⟨t,rfl⟩:=rx;exact SeqAt.EqAt.int_str a t' b t
  | _=>exact absurd (show false=true from fx) Bool.false_ne_true
 | str a =>
  obtain ⟨t',rfl⟩:=ry
  cases x with
  | non=>cases rx;exact SeqAt.EqAt.str_none a t'
  | bl b=>cases rx;exact SeqAt.EqAt.str_bool a t' b
  | int b=>obtain ⟨t,rfl⟩:=rx;exact SeqAt.EqAt.str_int a t' b t
  | str b=>obtain ⟨t,rfl⟩:=rx;exact SeqAt.EqAt.str_str a t' b t
  | _=>exact absurd (show false=true from fx) Bool.false_ne_true
 | _=>exact absurd (show false=true from fy) Bool.false_ne_true
def eqU (x:V) (u:Value):Bool:=match u with
 | .none=>eqV .non x
 | .bool b=>eqV (.bl b) x
 | .int i _=>eqV (.int i) x
 | .str z _=>eqV (.str z) x
 | _=>false
theorem z9T {x y:V}{u:Value}(r:RelV y u) (f:z3N y=true):eqU x u=eqV y x:=by
 cases y with
 | non=>cases r;rfl
 | bl b=>cases r;rfl
 | int i=>obtain ⟨t,rfl⟩:=r;rfl
 | str z=>obtain ⟨t,rfl⟩:=r;rfl
 | _=>exact absurd (show false=true from f) Bool.false_ne_true
theorem z3z {x:V}:∀ {xs:List V}{us:List Value},Vals xs us->xs.all z3N=true->us.any (eqU x)=xs.any fun y=>eqV y x
 | _,_,.nil,_=>rfl
 | y :: xs,u :: us,.cons r t,f=>by
  rw [List.all_cons,Bool.and_eq_true] at f
  rw [List.any_cons,List.any_cons,z9T r f.1,z3z t f.2]
theorem z2U {A:Around}{s:Shared}{x:V}{v:Value}(rx:RelV x v) (fx:z3N x=true):∀ {xs:List V}{us:List Value},Vals xs us->xs.all z3N=true->∀ u∈us,SeqAt.EqAt A s u v (eqU x u)
 | _,_,.nil,_=>fun u hu=>by cases hu
 | y :: xs,u :: us,.cons r t,f=>fun u' hu=>by
  rw [List.all_cons,Bool.and_eq_true] at f
  rcases List.mem_cons.mp hu with rfl | hu
  ·rw [z9T r f.1];exact zq3 r rx f.1 fx
  ·exact z2U rx fx t f.2 u' hu
def inV (x:V) (xs:List V):Bool:=xs.any fun y=>eqV y x
def rIn (K:PySem.W.Frag) (neg:Bool):R2:=fun x y H Q=>∃ p xs,y=.ref p/\(SqL K H p xs∨SqT K H p xs)/\z3N x=true/\xs.all z3N=true/\Q (.bl (if neg then !inV x xs else inV x xs)) H
theorem z7S:OpR X (compareOp .In) (rIn X.K false):=by
 intro pins s σ H x y v u Q I rx ry h
 obtain ⟨p,xs,rfl,hq,fx,fs,q⟩:=h
 cases ry
 rcases hq with hq | hq
 ·obtain ⟨its,r,pl,hz⟩:=I.list hq
  refine SeqAt.in_listAt (eqU x) pl.isList (fun w hw=>z2U rx fx r fs w (by simpa using hw)) ⟨.bl _,H,I,rfl,?_⟩
  rw [show its.toArray.any (eqU x)=its.any (eqU x) by simp,z3z r fs]
  exact q
 ·obtain ⟨its,r,pl,hz⟩:=I.tuple hq
  refine SeqAt.in_tupleAt (eqU x) pl (fun w hw=>z2U rx fx r fs w (by simpa using hw)) ⟨.bl _,H,I,rfl,?_⟩
  rw [show its.toArray.any (eqU x)=its.any (eqU x) by simp,z3z r fs]
  exact q
theorem z5b:OpR X (compareOp .NotIn) (rIn X.K true):=by
 intro pins s σ H x y v u Q I rx ry h
 obtain ⟨p,xs,rfl,hq,fx,fs,q⟩:=h
 cases ry
 rcases hq with hq | hq
 ·obtain ⟨its,r,pl,hz⟩:=I.list hq
  refine SeqAt.notIn_listAt (eqU x) pl.isList (fun w hw=>z2U rx fx r fs w (by simpa using hw)) ⟨.bl _,H,I,rfl,?_⟩
  rw [show its.toArray.any (eqU x)=its.any (eqU x) by simp,z3z r fs]
  exact q
 ·obtain ⟨its,r,pl,hz⟩:=I.tuple hq
  refine SeqAt.notIn_tupleAt (eqU x) pl (fun w hw=>z2U rx fx r fs w (by simpa using hw)) ⟨.bl _,H,I,rfl,?_⟩
  rw [show its.toArray.any (eqU x)=its.any (eqU x) by simp,z3z r fs]
  exact q
theorem z4z:z3d X (.type "tuple") (fun xs H Q=>∃ p ys,xs=[.ref p]/\((SqL X.K H p ys/\∀ l,H l=none->Q (.ref l) (upd H l (.tup ys)))∨(SqT X.K H p ys/\Q (.ref p) H))):=by
 intro pins s σ H xs us Q I r h
 obtain ⟨p,ys,rfl,h⟩:=h
 obtain ⟨u,rfl,rx⟩:=vals1 r
 cases rx
 rcases h with ⟨hq,q⟩ | ⟨hq,q⟩
 ·obtain ⟨its,r',pl,hz⟩:=I.list hq
  have hlen:=r'.length
  refine call_tuple_list pl.isList (fun h' kp=>?_) (by simp only [List.size_toArray]<;>omega)
  have I1:Inv X pins σ H { s with heap:=h' }:=I.kept (t':=s.toks) kp
  have I2:Inv X pins σ (upd H h'.objs.size (.tup ys)) { s with heap:=h'.push { cls:=.type "tuple",data:=.seq its.toArray } } :=
   I1.laid (t':=s.toks) (fun b o e=>Heap.get?_push_of_some _ e) (Nat.le_refl _) (show ObjOk X.prog X.w _ _ _ (.tup ys) from ⟨hz,its,r',FT.IsTup0.new _ _⟩)
  exact ⟨.ref h'.objs.size,_,I2,rfl,q _ (I1.hok.fresh (Nat.le_refl _))⟩
 ·obtain ⟨its,r',pl,hz⟩:=I.tuple hq
  exact call_tuple_same pl ⟨.ref p,H,I,rfl,q⟩
def tyV (K:PySem.W.Frag) (T:String) (x:V) (H:Hp):Prop:=match x with
 | .str _=>T = "str"
 | .int _=>T = "int"
 | .ref p=>(T = "list"/\∃ xs,SqL K H p xs)∨(T = "tuple"/\∃ o,K.lookup p=some o/\o.cls=.type "tuple"/\o.dict=none) ∨
  (T = "dict"/\((∃ kvs,H p=some (.dK kvs))∨∃ kvs,H p=some (.dT kvs)))∨(T = "set"/\∃ ks,H p=some (.set ks))
 | _=>False
theorem zv9 {pins:List (Addr×Obj)}{σ:St}{H:Hp}{s:Shared}{T:String}{x:V}{v:Value}(I:Inv X pins σ H s) (r:RelV x v) (ty:tyV X.K T x H) :
 s.TypeIs v T/\∀ a,v=.ref a->∃ ob,s.heap.get? a=some ob/\ob.dict=none:=by
 cases x with
 | str z =>
  obtain ⟨t,rfl⟩:=r
  cases (show T = "str" from ty)
  exact ⟨typeIs_str s z t,fun _ e=>nomatch e⟩
 | int i =>
  obtain ⟨t,rfl⟩:=r
  cases (show T = "int" from ty)
  exact ⟨typeIs_int s i t,fun _ e=>nomatch e⟩
 | ref p =>
  cases r
  rcases ty with ⟨rfl,xs,hq⟩ | ⟨rfl,o,hk,hc,hd⟩ | ⟨rfl,hk⟩ | ⟨rfl,ks,hk⟩
  ·obtain ⟨its,_,pl,_⟩:=I.list hq
   refine ⟨pl.isList.typeIs,fun a e=>?_⟩
   cases e
   obtain ⟨o,n,e,c,hd,_⟩:=pl
   exact ⟨o,e,hd⟩
  ·refine ⟨⟨o,I.kIn p o hk,hc⟩,fun a e=>?_⟩
   cases e
   exact ⟨o,I.kIn _ o hk,hd⟩
  ·have z:∃ o,s.heap.get? p=some o/\o.ExactDict:=by
    rcases hk with ⟨kvs,hk⟩ | ⟨kvs,hk⟩
    ·obtain ⟨_,_,_,_,o,_,_,e,ex,_⟩:=I.hok p _ hk
     exact ⟨o,e,ex⟩
    ·obtain ⟨_,_,_,_,o,_,_,e,ex,_⟩:=I.hok p _ hk
     exact ⟨o,e,ex⟩
   obtain ⟨o,e,ex⟩:=z
   refine ⟨⟨o,e,ex.1⟩,fun a e2=>?_⟩
   cases e2
   exact ⟨o,e,ex.2.1⟩
  ·obtain ⟨o,_,_,_,_,e,ex,_⟩:=I.hok p _ hk
   refine ⟨⟨o,e,ex.1⟩,fun a e2=>?_⟩
   cases e2
   exact ⟨o,e,ex.2.1⟩
 | _=>exact False.elim ty
def tBM (K:PySem.W.Frag) (T:String) (r:V->List V->Hp->VK->Prop) (to:TE) (t:TA):TE:=fun σ H Q=>to σ H fun x H1=>tyV K T x H1/\t σ H1 fun xs H2=>r x xs H2 Q
variable {o e:Expr}{es:List Expr}{to:TE}{t:TA}{name:Str}{apos cpos:Pos}{T id:String}{r:V->List V->Hp->VK->Prop}
theorem zu2 (pa:PlainAttrs T) (slot:Slot T name id) (hty:typeOf (.builtin id)=pure (.type "method_descriptor")) (hm:MtR X id r) (ho:PE X o to) (ha:PA X (e :: es) t)
 (hbase:attributeBase o name X.env (eval o X.env)=eval o X.env:=by rfl)
 (hfew:((backTo cpos (starEach (e :: es) X.env)).all (fun x=>!x.1) && (backToKw cpos (keywordEach [] X.env)).all (fun x=>x.1.isSome)
  && decide ((e :: es).length+([]:List Keyword).length+(if ([]:List Keyword).isEmpty then 0 else 1)<30))=true:=by rfl)
 (hline:(apos.endLine == cpos.line)=true:=by rfl) (hs:starEach (e :: es) X.env=(false,eval e X.env) :: starEach es X.env:=by rfl) (hplain:(backTo cpos (starEach es X.env)).any (·.1)=false:=by rfl) :
 PE X (.Call (.Attribute o name apos) (e :: es) [] cpos) (tBM X.K T r to t):=by
 intro pins s σ H Q I h
 refine wpAny_Call_method_late hbase hfew hline rfl (thn (ho pins s σ H _ I h) fun v s1 ⟨x,H1,I1,r1,ty,q1⟩=>?_)
 obtain ⟨h1,h2⟩:=zv9 I1 r1 ty
 refine ⟨T,id,pa,slot,hty,h1,h2,?_⟩
 have hA:=ha cpos pins s1 σ H1 _ I1 q1
 rw [hs] at hA ⊢
 refine Calls.callWith_builtin (by show (false || (backTo cpos (starEach es X.env)).any (·.1))=false;rw [hplain]<;>rfl) (Calls.evalArgs_plain ?_)
 exact thn hA fun us s2 ⟨vs,H2,I2,r2,q2⟩=>hm pins s2 σ H2 x vs v us Q I2 r1 r2 q2
end
def MtM (X:Cx) (id:String) (r:V->List V->Hp->VK->Prop):Prop :=
 ∀ (pins:List (Addr×Obj)) (s:Shared) (σ:St) (H:Hp) (x:V) (xs:List V) (v:Value) (us:List Value) (Q:VK),Inv X pins σ H s->RelV x v->Vals xs us->r x xs H Q ->
  wpAny (model X.prog X.w) X.A (call (.builtin id) (v :: us)) (EP X pins σ Q) X.xe s
theorem Vals.one:∀ {x:V}{us:List Value},Vals [x] us->∃ u,us=[u]/\RelV x u
 | _,_,.cons r .nil=>⟨_,rfl,r⟩
theorem Vals.eraseIdx:∀ {xs:List V}{us:List Value}(i:Nat),Vals xs us->Vals (xs.eraseIdx i) (us.eraseIdx i)
 | _,_,_,.nil=>.nil
 | _,_,0,.cons _ t=>t
 | _,_,i+1,.cons r t=>.cons r (Vals.eraseIdx i t)
theorem Vals.rep {xs:List V}{us:List Value}(h:Vals xs us):∀ k:Nat,Vals (List.replicate k xs).flatten (List.replicate k us).flatten
 | 0=>.nil
 | k+1=>by
  rw [List.replicate_succ,List.replicate_succ,List.flatten_cons,List.flatten_cons]
  exact Vals.append h (Vals.rep h k)
theorem z5h {α:Type}:∀ (l:List α) (i:Nat),(l.eraseIdx i).length≤l.length
 | [],_=>Nat.le_refl _
 | _ :: _,0=>Nat.le_succ _
 | _ :: r,i+1=>Nat.succ_le_succ (z5h r i)
theorem foldl_rep (its:List Value):∀ (k:Nat) (acc:List Value),
 List.foldl (fun x1 x2=>x1++x2) acc.toArray (List.replicate k its.toArray)=(acc++(List.replicate k its).flatten).toArray
 | 0,acc=>by simp
 | k+1,acc=>by
  have e:acc.toArray++its.toArray=(acc++its).toArray:=by simp
  have e2:(acc++its)++(List.replicate k its).flatten=acc++(List.replicate (k+1) its).flatten:=by
   rw [List.replicate_succ,List.flatten_cons,List.append_assoc]
  rw [← e2,← foldl_rep its k (acc++its),← e,List.replicate_succ,List.foldl_cons]
section
variable {X:Cx}{pins:List (Addr×Obj)}{σ:St}{H:Hp}{s:Shared}{l b:Addr}{xs ys zs:List V}
theorem Inv.lset {its its':List Value}{n:Nat}{f:Array Value->Array Value}{t':Nat}(I:Inv X pins σ H s) (hH:H l=some (.lst xs))
 (e:s.heap.get? l=some { cls:=.type "list",data:=.seq its.toArray n }) (hf:f its.toArray=its'.toArray) (hv:Vals ys its') (hz:ys.length≤sizeLine) :
 Inv X pins σ (upd H l (.lst ys)) { s with heap:=s.heap.update l (Obj.mapSeq f),toks:=t' }:=by
 have q:=PySem.IsL.update e f
 rw [hf] at q
 refine I.write (x:=l) (e:=l) (by rw [hH];exact trivial) (.inl rfl) (fun b' u hb hu=>(Heap.get?_update_other s.heap (Obj.mapSeq f) (Ne.symm hb)).trans hu) ⟨_,q⟩ ?_
 exact ⟨hz,its',_,hv,q⟩
theorem Inv.lnew {its:List Value}{t':Nat}(I:Inv X pins σ H s) (hv:Vals ys its) (hz:ys.length≤sizeLine) :
 Inv X pins σ (upd H s.heap.objs.size (.lst ys)) { s with heap:=s.heap.push { cls:=.type "list",data:=.seq its.toArray },toks:=t' } :=
 I.laid (fun _ _ q=>Heap.get?_push_of_some _ q) (Nat.le_refl _) ⟨hz,its,0,hv,Heap.get?_push_size _ rfl⟩
theorem Inv.fresh (I:Inv X pins σ H s):H s.heap.objs.size=none:=I.hok.fresh (Nat.le_refl _)
theorem Inv.lstM (I:Inv X pins σ H s) (hH:H l=some (.lst xs)):xs.length≤sizeLine/\∃ (its:List Value) (n:Nat),Vals xs its/\xs.length=its.length/\s.heap.get? l=some { cls:=.type "list",data:=.seq its.toArray n }:=by
 obtain ⟨z,its,n,r,e⟩:=I.hok l _ hH
 exact ⟨z,its,n,r,r.length,e⟩
theorem z8H {n:Nat}(h:n≤sizeLine):Builtin.List.listTooLong n=false:=by
 unfold Builtin.List.listTooLong
 exact decide_eq_false (by omega)
end
section
variable {X:Cx}
def zi0:V->List V->Hp->VK->Prop:=fun x vs H Q=>∃ l xs y,x=.ref l/\vs=[y]/\H l=some (.lst xs)/\xs.length<sizeLine/\Q .non (upd H l (.lst (xs++[y])))
theorem z5i:MtM X "list.append" zi0:=by
 intro pins s σ H x vs v us Q I rx rv h
 obtain ⟨l,xs,y,rfl,rfl,hH,hz,q⟩:=h
 cases rx
 obtain ⟨u,rfl,ru⟩:=rv.one
 obtain ⟨z,its,n,r,hl,e⟩:=I.lstM hH
 refine call_meets F.slot_list_append ⟨_,e,rfl⟩ F.entry_list_append (F.args_list_append_2 _ _) (PySem.list_append l its.toArray n u (by rw [List.size_toArray];omega)) ⟨e,?_⟩
 refine ⟨.non,_,I.lset (its':=its++[u]) hH e (by simp) (r.append (.cons ru .nil)) ?_,rfl,q⟩
 rw [List.length_append,List.length_singleton]
 omega
def zk9:V->List V->Hp->VK->Prop:=fun x vs H Q=>∃ l xs i k y,x=.ref l/\vs=[.int i]/\H l=some (.lst xs)/\-(2 ^ 63)≤i/\i<2 ^ 63/\seqIndex? i xs.length=some k/\xs[k]?=some y/\Q y (upd H l (.lst (xs.eraseIdx k)))
theorem z8L:MtM X "list.pop" zk9:=by
 intro pins s σ H x vs v us Q I rx rv h
 obtain ⟨l,xs,i,k,y,rfl,rfl,hH,h1,h2,hk,hy,q⟩:=h
 cases rx
 obtain ⟨u,rfl,ru⟩:=rv.one
 obtain ⟨t,rfl⟩:=ru
 obtain ⟨z,its,n,r,hl,e⟩:=I.lstM hH
 obtain ⟨w,hw,rw'⟩:=r.get hy
 refine call_meets F.slot_list_pop ⟨_,e,rfl⟩ F.entry_list_pop (F.args_list_pop_2 _ _)
  (MeetsSeq.list_pop_at l its.toArray n i t k w (fitsIndex_both h1 h2) (by rw [List.size_toArray,← hl];exact hk) (by rw [← Array.getElem?_toList];exact hw) (by rw [List.size_toArray];omega)) ⟨e,?_⟩
 refine ⟨y,_,I.lset (its':=its.eraseIdx k) hH e ?_ (r.eraseIdx k) ?_,rw',q⟩
 ·show its.toArray.eraseIdxIfInBounds k=(its.eraseIdx k).toArray
  rw [List.eraseIdxIfInBounds_toArray]
 ·have:=z5h xs k
  omega
def rCat:R2:=fun x y H Q=>∃ l b xs zs,x=.ref l/\y=.ref b/\H l=some (.lst xs)/\H b=some (.lst zs)/\xs.length+zs.length≤sizeLine/\∀ p,H p=none->Q (.ref p) (upd H p (.lst (xs++zs)))
theorem op_cat:OpR X (binaryOp .Add) rCat:=by
 intro pins s σ H x y v u Q I rx ry h
 obtain ⟨l,b,xs,zs,rfl,rfl,hH,hB,hz,q⟩:=h
 cases rx
 cases ry
 obtain ⟨z,its,n,r,hl,e⟩:=I.lstM hH
 obtain ⟨z2,its2,n2,r2,hl2,e2⟩:=I.lstM hB
 refine PySem.P.add_list e e2 ?_ (by rw [List.size_toArray,List.size_toArray];omega)
 have ea:its.toArray++its2.toArray=(its++its2).toArray:=by simp
 rw [ea]
 exact ⟨.ref _,_,I.lnew (t':=s.toks) (r.append r2) (by rw [List.length_append];omega),rfl,q _ I.fresh⟩
def rRep:R2:=fun x y H Q=>∃ l k xs,x=.ref l/\y=.int k/\H l=some (.lst xs)/\-(2 ^ 63)≤k/\k<2 ^ 63/\xs.length * k.toNat≤sizeLine /\
 ∀ p,H p=none->Q (.ref p) (upd H p (.lst (List.replicate k.toNat xs).flatten))
theorem len_rep {α:Type}(xs:List α) (k:Nat):(List.replicate k xs).flatten.length=k * xs.length:=by
 induction k with
 | zero=>simp
 | succ k ih=>rw [List.replicate_succ,List.flatten_cons,List.length_append,ih,Nat.succ_mul,Nat.add_comm]
theorem zu0:OpR X (binaryOp .Mult) rRep:=by
 intro pins s σ H x y v u Q I rx ry h
 obtain ⟨l,k,xs,rfl,rfl,hH,h1,h2,hz,q⟩:=h
 cases rx
 obtain ⟨t,rfl⟩:=ry
 obtain ⟨z,its,n,r,hl,e⟩:=I.lstM hH
 have hlen:its.toArray.size * k.toNat≤sizeLine:=by rw [List.size_toArray,← hl];exact hz
 have hcap:¬ its.toArray.size * k.toNat > (2 ^ 63 - 1) / 8:=by
  have:(sizeLine:Nat)≤(2 ^ 63 - 1) / 8:=by decide
  omega
 have hfit:¬ (!Builtin.List.listFitsIndex k)=true:=by
  rw [fitsIndex_both h1 h2]
  exact Bool.false_ne_true
 have hlong:¬ Builtin.List.listTooLong (its.toArray.size * k.toNat)=true:=by
  rw [z8H hlen]
  exact Bool.false_ne_true
 have hnew:List.foldl (fun x1 x2=>x1++x2) #[] (List.replicate (if its.toArray.isEmpty=true then 0 else k.toNat) its.toArray)=(List.replicate k.toNat its).flatten.toArray:=by
  have f0:∀ m:Nat,List.foldl (fun x1 x2=>x1++x2) #[] (List.replicate m its.toArray)=(List.replicate m its).flatten.toArray:=fun m=>by
   have:=foldl_rep its m []
   rw [List.nil_append] at this
   exact this
  rw [f0]
  cases its with
  | nil=>simp
  | cons a r'=>rw [if_neg (by simp)]
 refine wpAny_binaryOp_repeat_ref (T:="list") (U:="int") (by decide) ⟨_,e,rfl⟩ (fun s'=>typeIs_int s' k t) noFill_list_mul F.fills_int_mul F.slot_int_rmul repeat_list F.slot_int_index.lookup
  (call_meets F.slot_int_rmul (typeIs_int s k t) F.entry_int_rmul (F.args_int_rmul_2 _ _) (int___rmul___int_list k t l its.toArray n)
   ⟨e,rfl,⟨_,e,rfl⟩,call_meets F.slot_list_mul ⟨_,e,rfl⟩ F.entry_list_mul (F.args_list_mul_2 _ _) (AutoListH.list___mul___list_int_3 l its.toArray n k t hfit hcap hlong) ⟨e,?_⟩⟩)
 rw [hnew]
 exact ⟨.ref _,_,I.lnew (t':=s.toks) (r.rep k.toNat) (by rw [len_rep,Nat.mul_comm];exact hz),rfl,q _ I.fresh⟩
end
section
variable {prog:Program}{w:World}{A:Around}{E:Value->Shared->Prop}{s:Shared}
end
section
variable {X:Cx}
end
end L2
namespace Att
open PySem PySem.W PySem.Calls PyProof.Rows
theorem z3w {P:Params}{h:Heap}:∀ (ns:List Int) (vs:List Value),WellAll P h vs (ns.map WData.int)->IntsAre vs ns:=by
 intro ns
 induction ns with
 | nil =>
  intro vs w
  rw [List.map_nil] at w
  cases w
  exact .nil
 | cons n ns ih =>
  intro vs w
  rw [List.map_cons] at w
  cases w with
  | cons a b =>
   cases a
   exact .cons _ _ (ih _ b)
theorem z7e {l:OpenLaw}{n:Nat}(hn:l.most=some n) {P:Params}{h:Heap}{args:List WData}{vals:List Value}
 (hpre:l.row.toRowW.claim.pre args=true) (hwl:WellAll P h vals args) :
 ∃ a vs ns,vals=[Value.ref a]/\args=[WData.list (ns.map WData.int)]/\h.get? a=some { cls:=.type "list",data:=.seq vs.toArray }/\IntsAre vs ns/\ns.length≤n:=by
 have hsh:WShape.hasAll [] args [.list .int]=true:=(pre_splitW hpre).1
 have hc:l.pre.holds [] { args:=args }=true:=(pre_splitW hpre).2
 obtain ⟨d,r,rfl,h1,h2⟩:=hasAllW_cons hsh
 obtain rfl:=hasAllW_nil h2
 obtain ⟨xs,rfl,h3⟩:=hasW_list h1
 obtain ⟨ns,rfl⟩:=items_int h3
 have hlen:ns.length≤n:=by
  unfold OpenLaw.pre at hc
  have h4:(WTm.not (.lt (.lit (.int (n:Int))) (.len (.arg 0)))).holds [] { args:=[.list (ns.map .int)] }=true:=by
   have h4:=(holds_andW hc).1
   rw [hn] at h4
   exact h4
  have h5:=condW_of h4 (w_not (w_lt w_lit (w_len_list (w_arg rfl))))
  rw [List.length_map] at h5
  refine Nat.le_of_not_lt fun q=>?_
  have q':(n:Int)<((ns.length:Nat):Int):=by omega
  first
   | (rw [decide_eq_true q'] at h5;exact absurd h5 (by decide))
   | (simp at h5;omega)
 cases hwl with
 | cons w1 w2 =>
  cases w2
  cases w1 with
  | list ho hall=>exact ⟨_,_,ns,rfl,rfl,ho,z3w ns _ hall,hlen⟩
theorem z7B (l:OpenLaw) (args:List WData):l.row.toRowW.claim.post args (.bool true) args=true :=
 postW_of (r:=l.row.toRowW) (X:=(true == true))
  (show WShape.has [] (.bool true) .bool=true by first | rfl | decide | simp [WShape.has,WShape.arms,WShape.armsAll])
  (show (WTm.eq .res (.lit (.bool true))).value [] { args:=args,res:=some (.bool true),after:=args }=some (.bool (true == true)) from w_eq_bool (w_res rfl) w_lit) rfl
theorem attach_call {l:OpenLaw}{n:Nat}{q:Program}{loose:List Str}{XP:(Str->Option Value)->Heap->Prop}{YP:World->Heap->Prop}{d:DefRec}
 (hn:l.most=some n) (hdf:d.params.defaults=[])
 (call:∀ (w:World) (s₀ s₁:Shared) (mg mb:Str->Option Value) (fa:Addr) (o:Obj) (pm cd doc:Value) (a:Addr) (vs:List Value) (ns:List Int),
  Ground q loose [] XP w s₀ mg mb s₁.heap->YP w s₁.heap ->
  s₁.heap.get? fa=some o->o.data=.func (docDef d.name d.params d.body d.scope pm cd doc)->s₁.heap.CodeRec cd d.name->mg d.name=some (.ref fa) ->
  s₁.heap.get? a=some { cls:=.type "list",data:=.seq vs.toArray }->IntsAre vs ns->ns.length≤n->s₁.gens = #[] ->
  codeAny (model l.prog w) callerA (.call (.ref fa) ⟨[.ref a],[]⟩) (fun r s'=>r=.ok (.ret (.bool true))/\OldK s₁.heap s'.heap/\s'.os=s₁.os/\AllBare s'.gens) s₁) :
 WalkO q loose XP YP l.row.toRowW d [] (fun f vs=>PySem.call f vs):=by
 intro w s₀ s₁ mg mb G Y fa o pm cd doc dV kV ho hd hcd hD hmg hg args vals as hpre hlay hrd hwl hlo
 obtain rfl:dV=.none:=Dflts.none hD hdf
 obtain rfl:kV=.none:=Dflts.noKw hD
 obtain ⟨a,vs,ns,rfl,rfl,hobj,hints,hlen⟩:=z7e hn hpre hwl
 refine enter_call (codeAny_mono (call w s₀ s₁ mg mb fa o pm cd doc a vs ns G Y ho (fd_plain hd) hcd hmg hobj hints hlen hg) fun r s' hq=>?_)
 obtain ⟨rfl,h2,h3,h4⟩:=hq
 exact ⟨.inl ⟨.bool true,.bool true,[],rfl,fun _=>rfl,.bool true,z7B l _,fun _=>⟨List.Pairwise.nil,fun _ hm=>(nomatch hm)⟩⟩,h2,h3,h4⟩
section
variable {prog:Program}{w:World}{A:Around}{E:Value->Shared->Prop}{s:Shared}{K:Frag}
end
end Att
namespace L2
open PySem PySem.Spec PyProof.Rows
theorem z3L:∀ {vs:List Value}{ns:List Int},IntsAre vs ns->Vals (ns.map V.int) vs
 | _,_,.nil=>.nil
 | _,_,.cons n t h=>.cons ⟨t,rfl⟩ (z3L h)
def Only (H:Hp):Prop:=∀ b,H b=none∨∃ o xs,H b=some (.frz o (.lst xs))
theorem z9k {P:Program}{w:World}{K:PySem.W.Frag}{mg mb:Str->Option Value}{CX:CXT}{k:Nat}{fa a:Addr}{fd:FuncData}{x:Str}{sp:Sp}{s₁:Shared}{vs:List Value}{ns:List Int}
 (KX:K.In s₁.heap) (hns:s₁.heap.Ns mainGlobals mg) (hb:s₁.heap.Ns builtinsNs mb) (hbb:∀ x:Str,x≠"__name__"->mb x=bootBuiltins x) (hlim:s₁.heap.NoLimit) (hg:s₁.gens = #[])
 (ha:s₁.heap.get? a=some { cls:=.type "list",data:=.seq vs.toArray }) (hi:IntsAre vs ns) (hl:ns.length≤sizeLine) (hr:Room k callerA)
 (F:∀ base:Heap,K.In base->base.Ns mainGlobals mg->FnOk P w K mg base CX k fa fd [x] sp) (hbind:∀ (s:Shared) (u:Value),BindsTo s fd ⟨[u],[]⟩ [(x,u)])
 (hsp:∀ H:Hp,Only H->SqL K H a (ns.map V.int)->sp [.ref a] H (fun v _=>v=.bl true) fun _ _ _=>False)
 (hCX:∀ H e s',CX [] H s₁ (fun _ _ _=>False) e s'->False) :
 codeAny (model P w) callerA (.call (.ref fa) ⟨[.ref a],[]⟩) (fun r s'=>r=.ok (.ret (.bool true))/\OldK s₁.heap s'.heap/\s'.os=s₁.os/\AllBare s'.gens) s₁:=by
 have rv:=z3L hi
 have lenV:=hi.length
 have core:∀ H:Hp,Only H->SqL K H a (ns.map V.int)->HOk P w H s₁.heap->(∀ b,H b≠none->b=a)->(H a≠none->K.lookup a=none) ->
  codeAny (model P w) callerA (.call (.ref fa) ⟨[.ref a],[]⟩) (fun r s'=>r=.ok (.ret (.bool true))/\OldK s₁.heap s'.heap/\s'.os=s₁.os/\AllBare s'.gens) s₁:=by
  intro H hO hS hok hA hK
  have base_of:∀ {b:Addr} {o:Obj},s₁.heap.get? b=some o->H b=none->(hidT s₁.heap H).get? b=some o:=fun e n=>z9i e n
  have noA:∀ {b:Addr} {o:Obj} {es:Array DictEntry} {ep:Nat},s₁.heap.get? b=some o->o.data=.dict es ep->H b=none:=fun {b o es ep} e d=>by
   cases q:H b with
   | none=>rfl
   | some u =>
    have e':b=a:=hA b (by rw [q];simp)
    subst e'
    rw [ha] at e;cases e
    have d':Data.seq vs.toArray _=Data.dict es ep:=d
    cases d'
  have nsK:∀ {b:Addr} {m:Str->Option Value},s₁.heap.Ns b m->(hidT s₁.heap H).Ns b m:=fun {b m} ⟨o,es,ep,e,d,r⟩=>⟨o,es,ep,base_of e (noA e d),d,r⟩
  have hKb:K.In (hidT s₁.heap H):=fun b o e=>base_of (KX b o e) (by
   cases q:H b with
   | none=>rfl
   | some u =>
    have e':b=a:=hA b (by rw [q];simp)
    subst e'
    rw [hK (by rw [q];simp)] at e;cases e)
  have hM:Mod K mg (hidT s₁.heap H):=⟨hKb,nsK hns,⟨mb,nsK hb,hbb⟩,let ⟨mc,h1,h2⟩:=hlim;⟨mc,nsK h1,h2⟩⟩
  have e0:Env0 P w K mg (hidT s₁.heap H) callerA [] s₁ H:=⟨rfl,hM,fun b o e=>zi5 e,Nat.le_of_eq (z7R _ _),trivial,fun b hb=>absurd (show b∈([]:List Addr) from hb) (by simp),hok,.of_eq hg⟩
  refine codeAny_mono ((F _ hKb (nsK hns)).run callerA [] s₁ H ⟨[.ref a],[]⟩ [.ref a] [.ref a] _ _ hr e0 (hbind s₁ (.ref a)) (.cons rfl .nil) (hsp H hO hS)) fun r s' h=>?_
  cases r with
  | error e=>exact (hCX H e s' h).elim
  | ok fl =>
   cases fl with
   | next=>exact False.elim h
   | brk=>exact False.elim h
   | cont=>exact False.elim h
   | ret u =>
    obtain ⟨v,H',os,bare,un,hok',r',q⟩:=h
    have q':v=.bl true:=q
    subst q'
    obtain rfl:u=Value.bool true:=r'
    refine ⟨rfl,OldK.of_keep fun b o e=>?_,os,bare⟩
    cases q:H b with
    | none=>exact un.keep b o e q (by intro z;exact absurd (show b∈([]:List Addr) from z) (by simp)) (by simp)
    | some u =>
     rcases hO b with z | ⟨ob,xs,z⟩
     ·rw [q] at z;cases z
     ·have z2:=un.frzs b ob _ z
      obtain ⟨e1,_⟩:=hok b _ z
      obtain ⟨e2,_⟩:=hok' b _ z2
      rw [e] at e1;cases e1
      exact e2
 cases hk:K.lookup a with
 | some o =>
  have e:=KX a o hk
  rw [ha] at e
  cases e
  refine core (fun _=>none) (fun _=>.inl rfl) (.inr ⟨_,vs.toArray,_,hk,rfl,rfl,rfl,by rw [List.size_toArray,lenV];exact hl,by simpa using rv⟩) (fun b u z=>by have z':(none:Option HO)=some u:=z;cases z') (fun b z=>absurd rfl z) fun z=>absurd rfl z
 | none =>
  refine core (fun b=>if b=a then some (.frz { cls:=.type "list",data:=.seq vs.toArray } (.lst (ns.map V.int))) else none) (fun b=>?_) (.inl (.inr ⟨{ cls:=.type "list",data:=.seq vs.toArray },if_pos rfl⟩)) (fun b u z=>?_) (fun b z=>?_) fun _=>hk
  ·by_cases hb:b=a
   ·exact .inr ⟨_,_,if_pos hb⟩
   ·exact .inl (if_neg hb)
  ·by_cases hb:b=a
   ·have z':=(if_pos hb).symm.trans z
    cases z'
    subst hb
    exact ⟨ha,by rw [List.length_map];exact hl,vs,_,rv,ha⟩
   ·have z':=(if_neg hb).symm.trans z
    cases z'
  ·by_cases hb:b=a
   ·exact hb
   ·exact absurd (if_neg hb) z
abbrev KOf {K:PySem.W.Frag} {h:Heap} (_:K.In h):PySem.W.Frag:=K
theorem walk_of {l:PySem.W.OpenLaw}{n k:Nat}{q:Program}{loose:List Str}{XP:(Str->Option Value)->Heap->Prop}{YP:World->Heap->Prop}{d:DefRec}{K:Params->PySem.W.Frag}{CX:World->CXT}{sp:World->Sp}{x:Str}
 (hn:l.most=some n) (hn2:n≤sizeLine) (hdf:d.params.defaults=[]) (hr:Room k callerA)
 (hY:∀ (w:World) (h:Heap),YP w h->(K w.params).In h)
 (F:∀ (w:World) (mg:Str->Option Value) (fa:Addr) (h:Heap),(K w.params).In h->h.Ns mainGlobals mg->mg d.name=some (.ref fa) ->
  ∃ fd:FuncData,(∀ (s:Shared) (u:Value),BindsTo s fd ⟨[u],[]⟩ [(x,u)]) /\
   ∀ base:Heap,(K w.params).In base->base.Ns mainGlobals mg->FnOk l.prog w (K w.params) mg base (CX w) k fa fd [x] (sp w))
 (hsp:∀ (w:World) (H:Hp) (a:Addr) (ns:List Int),ns.length≤n->Only H->SqL (K w.params) H a (ns.map V.int)->sp w [.ref a] H (fun v _=>v=.bl true) fun _ _ _=>False)
 (hCX:∀ (w:World) (H:Hp) (s:Shared) (e:Value) (s':Shared),CX w [] H s (fun _ _ _=>False) e s'->False) :
 PySem.W.WalkO q loose XP YP l.row.toRowW d [] (fun f vs=>PySem.call f vs):=by
 refine Att.attach_call hn hdf fun w s₀ s₁ mg mb fa o pm cd doc a vs ns G Y ho hd hcd hmg hobj hints hlen hg=>?_
 have KX:=hY w _ Y
 obtain ⟨fd,hb,hF⟩:=F w mg fa _ KX G.T.g hmg
 exact z9k KX G.T.g G.T.b G.T.builtins G.T.nolimit hg hobj hints (Nat.le_trans hlen hn2) hr hF hb (fun H hO hS=>hsp w H a ns hlen hO hS) fun H e s'=>hCX w H s₁ e s'
def z1Q (s:Stmt):Arguments:=match s with
 | .FunctionDef _ a _ _ _ _ _ _ _ _=>a
 | _=>{ posonlyargs:=[],args:=[],vararg:=none,kwonlyargs:=[],kw_defaults:=[],kwarg:=none,defaults:=[] }
def j7 (s:Stmt):List Stmt:=match s with
 | .FunctionDef _ _ b _ _ _ _ _ _ _=>b
 | _=>[]
def Z5 (s:Stmt):Scope:=match s with
 | .FunctionDef _ _ _ _ _ _ sc _ _ _=>sc
 | _=>{ kind:=.function,names:=[],isGenerator:=false,isCoroutine:=false }
abbrev CX0:CXT:=fun _ _ _ _ _ _=>False
abbrev E0:XK:=fun _ _ _=>False
theorem zr7 {X:Cx}:z5k CX0 X E0:=fun _ _ _ _ _ _ _ h=>h.elim
structure Fun (K:PySem.W.Frag) (x qual:Str) (st:Stmt) (f:Addr) (fd:FuncData):Prop where
 ex:∃ (oc:Value) (od:Option Addr) (kV doc pm:Value) (an:Option Addr) (cdv ct:Value) (osl:Array (Option Value)),
  fd=PySem.W.fnOf x qual (z1Q st) (j7 st) (Z5 st) .none kV doc pm an cdv ct/\K.lookup f=some ⟨oc,od,.func fd,osl⟩/\PySem.W.codeIn K cdv qual=true
 kp:PySem.W.keepIn K (.ref f)=true
section
variable {P:Program}{w:World}{K:PySem.W.Frag}{mg:Str->Option Value}{base:Heap}
theorem Fun.ok {x qual:Str}{st:Stmt}{f:Addr}{fd:FuncData}{N ps:List Str}{k:Nat}{sp:Sp}(F:Fun K x qual st f fd) (S:FnScope N ps (Z5 st)) (len:∀ vs H Q E,sp vs H Q E->vs.length=ps.length)
 (hbody:∀ (cdv:Value) (A:Around) (outer:List Env) (s:Shared) (H:Hp) (vs:List V) (Q:VK) (E:XK),Room k (A.deeper (envOfC qual (Z5 st) s.heap.objs.size f cdv))->sp vs H Q E ->
  ∃ t,PSs (cxOf CX0 P w K mg base N qual (Z5 st) f cdv A outer s H E).nox (j7 st) t/\t { nx:=fun _ H'=>Q .non H',rt:=Q } (start N vs) H):FnOk P w K mg base CX0 (k+1) f fd ps sp:=by
 obtain ⟨oc,od,kV,doc,pm,an,cdv,ct,osl,rfl,lk,hcd⟩:=F.ex
 refine zk6 lk hcd S len fun A outer s H vs Q E hr hsp=>?_
 obtain ⟨t,h,q⟩:=hbody cdv A outer s H vs Q E hr hsp
 exact ⟨t,h.nox,q⟩
theorem Fun.binds {x qual:Str}{st:Stmt}{f:Addr}{fd:FuncData}{ps:List Str}(F:Fun K x qual st f fd)
 (h:∀ (kV doc pm:Value) (an:Option Addr) (cdv ct:Value) (us:List Value),us.length=ps.length->bindArgs (PySem.W.fnOf x qual (z1Q st) (j7 st) (Z5 st) .none kV doc pm an cdv ct) ⟨us,[]⟩=pure (ps.zip us)):Binds K fd ps []:=by
 obtain ⟨oc,od,kV,doc,pm,an,cdv,ct,osl,rfl,lk,hcd⟩:=F.ex
 exact .all (h kV doc pm an cdv ct)
theorem zr9 {x qual:Str}{st:Stmt}{f:Addr}{oc:Value}{od an:Option Addr}{osl:Array (Option Value)}{kV doc pm cdv ct:Value}(l:K.lookup f=some ⟨oc,od,.func (PySem.W.fnOf x qual (z1Q st) (j7 st) (Z5 st) .none kV doc pm an cdv ct),osl⟩)
 (c:PySem.W.codeIn K cdv qual=true) (k:PySem.W.keepIn K (.ref f)=true):Fun K x qual st f (PySem.W.fnOf x qual (z1Q st) (j7 st) (Z5 st) .none kV doc pm an cdv ct):=⟨⟨oc,od,kV,doc,pm,an,cdv,ct,osl,rfl,l,c⟩,k⟩
end
theorem zz8 {A:Around}{k:Nat}(hr:Room k A):A.units+1<cLine:=Nat.lt_of_le_of_lt (Nat.add_le_add_left (by decide:1≤64) _) hr.units
section
variable {X:Cx}
end
abbrev z52 (ifs:List Expr) (env:Env):Sem Bool :=
 forIn ifs true fun c r=>if r=true then do { let ok ← isTrue c env (eval c env);pure (ForInStep.yield ok) } else pure (ForInStep.yield r)
theorem z7V {prog:Program}{w:World}{A:Around}{R:Result->Shared->Prop}{s:Shared}{elt target iter:Expr}
 {ifs:List Expr} {scope:Scope} {pos:Pos} {it acc:Value} {env:Env} (I:Nat->Shared->Prop)
 (turn:∀ n s,I n s->wpAny (model prog w) A (pyNext it) (fun r s1=>match r with
  | none=>R (.ok .next) s1
  | some v=>wpAny (model prog w) A (letOwnedTupleGo target it v) (fun _ s2 =>
   wpAny (model prog w) A (assign target env v) (fun _ s3 =>
    wpAny (model prog w) A (z52 ifs env) (fun ok s4 =>
     if ok=true then wpAny (model prog w) A (eval elt env) (fun x s5 =>
      wpAny (model prog w) A (call (.builtin "list.append") [acc,x]) (fun _ s6=>∃ m,m<n/\I m s6)
       (notedBy (model prog w) A env fun e s'=>R (.error e) s') s5)
       (notedBy (model prog w) A env fun e s'=>R (.error e) s') s4
     else ∃ m,m<n/\I m s4)
     (notedBy (model prog w) A env fun e s'=>R (.error e) s') s3)
    (notedBy (model prog w) A env fun e s'=>R (.error e) s') s2)
   (notedBy (model prog w) A env fun e s'=>R (.error e) s') s1)
  (notedBy (model prog w) A env fun e s'=>R (.error e) s') s)
 (n:Nat) (h:I n s) :
 codeAny (model prog w) A (.compLoop (.ListComp elt [⟨target,iter,ifs,0⟩] scope pos) 0 it acc env) R s:=by
 refine codeAny_loop rfl I (fun n s hI=>?_) n h
 show wpAny _ A ((compTurn (.ListComp elt [⟨target,iter,ifs,0⟩] scope pos) 0 it acc env).onRaise
  (fun x=>do noteFrame x env;theTreesLotGoes x)) _ _ s
 refine wpAny_noted ?_
 rw [compTurn_list]
 refine wpAny_bind (wpAny_standAt (wpAny_bind (wpAny_mono (turn n s hI) (fun r s1 h1=>?_) fun _ _ z=>z)))
 cases r with
 | none=>exact wpAny_pure h1
 | some v =>
  refine wpAny_bind (wpAny_mono h1 (fun _ s2 h2=>?_) fun _ _ z=>z)
  refine wpAny_bind (wpAny_mono h2 (fun _ s3 h3=>wpAny_bind (wpAny_mono h3 (fun ok s4 h4=>?_) fun _ _ z=>z)) fun _ _ z=>z)
  cases ok with
  | false=>exact wpAny_pure ⟨rfl,h4⟩
  | true =>
   refine wpAny_bind (wpAny_bind (wpAny_mono h4 (fun x s5 h5=>wpAny_bind (wpAny_mono h5 (fun _ s6 h6=>?_) fun _ _ z=>z)) fun _ _ z=>z))
   exact wpAny_pure (wpAny_pure ⟨rfl,h6⟩)
def z0q (env:Env):List (Str×NameKind)->List (Str×Addr)->List (Str×Addr)
 | [],acc=>acc
 | (n,k) :: r,acc=>z0q env r (if k == .free then match env.cells.lookup n with | some c=>(n,c) :: acc | none=>acc else acc)
theorem z3f {env:Env}:∀ (names:List (Str×NameKind)) (acc:List (Str×Addr)),(∀ x∈names,x.2=.free->∃ c,env.cells.lookup x.1=some c) ->
 (forIn names acc fun (x:Str×NameKind) (r:List (Str×Addr))=>(if (x.2 == NameKind.free)=true then do { let c ← cellOf env x.1;pure (ForInStep.yield ((x.1,c) :: r)) } else pure (ForInStep.yield r):Sem (ForInStep (List (Str×Addr)))))=(pure (z0q env names acc):Sem _)
 | [],acc,_=>by rw [List.forIn_nil];rfl
 | (n,k) :: r,acc,h=>by
  rw [List.forIn_cons]
  have hr:∀ x∈r,x.2=.free->∃ c,env.cells.lookup x.1=some c:=fun x hx=>h x (List.mem_cons_of_mem _ hx)
  by_cases hk:k=.free
  ·subst hk
   obtain ⟨c,hc⟩:=h (n,.free) List.mem_cons_self rfl
   have hc':env.cells.lookup n=some c:=hc
   simp only [z0q,beq_self_eq_true,if_true,cellOf,hc',pure_bind]
   exact z3f r _ hr
  ·have hb:(k == NameKind.free)=false:=by simpa using hk
   simp only [z0q,hb,Bool.false_eq_true,if_false,pure_bind]
   exact z3f r _ hr
theorem z26 {scope:Scope}{env:Env}(h:∀ x∈scope.names,x.2=.free->∃ c,env.cells.lookup x.1=some c) :
 closureFor scope env=pure (z0q env scope.names []):=by
 unfold closureFor
 exact congrArg (fun m:Sem (List (Str×Addr))=>m >>= fun z=>pure z) (z3f scope.names [] h)
theorem z6w {env:Env}:∀ (names:List (Str×NameKind)) (acc:List (Str×Addr)) {x:Str}{c:Addr},(z0q env names acc).lookup x=some c ->
 env.cells.lookup x=some c∨acc.lookup x=some c
 | [],acc,x,c,h=>.inr h
 | (n,k) :: r,acc,x,c,h=>by
  rcases z6w r _ h with q | q
  ·exact .inl q
  ·by_cases hk:(k == NameKind.free)=true
   ·rw [if_pos hk] at q
    cases e:env.cells.lookup n with
    | none=>rw [e] at q;exact .inr q
    | some c' =>
     rw [e] at q
     simp only [List.lookup_cons] at q
     cases hx:x == n with
     | true =>
      rw [hx] at q
      cases q
      have:x=n:=by simpa using hx
      subst this
      exact .inl e
     | false=>rw [hx] at q;exact .inr q
   ·rw [if_neg hk] at q
    exact .inr q
theorem z69 {env:Env}{x:Str}{c:Addr}(hc:env.cells.lookup x=some c):∀ (names:List (Str×NameKind)) (acc:List (Str×Addr)),
 acc.lookup x=some c->(z0q env names acc).lookup x=some c
 | [],acc,h=>h
 | (n,k) :: r,acc,h=>by
  refine z69 hc r _ ?_
  by_cases hk:(k == NameKind.free)=true
  ·rw [if_pos hk]
   cases e:env.cells.lookup n with
   | none=>exact h
   | some c' =>
    simp only [List.lookup_cons]
    cases hx:x == n with
    | true =>
     have:x=n:=by simpa using hx
     subst this
     rw [hc] at e
     exact e.symm
    | false=>exact h
  ·rw [if_neg hk];exact h
theorem z5z {env:Env}{x:Str}{c:Addr}(hc:env.cells.lookup x=some c):∀ (names:List (Str×NameKind)) (acc:List (Str×Addr)),
 (x,NameKind.free)∈names->(z0q env names acc).lookup x=some c
 | [],_,h=>absurd h (by simp)
 | (n,k) :: r,acc,h=>by
  rcases List.mem_cons.mp h with e | h
  ·cases e
   refine z69 hc r _ ?_
   rw [if_pos (by simp),hc]
   simp [List.lookup_cons]
  ·exact z5z hc r _ h
theorem z2M {sc:Scope}{env:Env}{x:Str}{k:NameKind}(h:(relabel sc env).names.lookup x=some k) :
 ∃ k0,sc.names.lookup x=some k0/\(k=k0∨(k=.cell/\k0=.free)):=by
 unfold relabel at h
 dsimp only at h
 generalize sc.names=ns at h ⊢
 induction ns with
 | nil=>simp at h
 | cons a r ih =>
  obtain ⟨n,k1⟩:=a
  simp only [List.map_cons] at h
  by_cases hc:(k1 == NameKind.free && env.scope.kind == .function && env.kindOf n == some .cell)=true
  ·rw [if_pos hc] at h
   simp only [List.lookup_cons] at h ⊢
   cases hx:x == n with
   | true =>
    rw [hx] at h
    cases h
    refine ⟨k1,rfl,.inr ⟨rfl,?_⟩⟩
    simp only [Bool.and_eq_true] at hc
    simpa using hc.1.1
   | false=>rw [hx] at h;exact ih h
  ·rw [if_neg hc] at h
   simp only [List.lookup_cons] at h ⊢
   cases hx:x == n with
   | true=>rw [hx] at h;cases h;exact ⟨_,rfl,.inl rfl⟩
   | false=>rw [hx] at h;exact ih h
theorem z4U {sc:Scope}{env:Env}{x:Str}(h:sc.names.lookup x=some .free) :
 (relabel sc env).names.lookup x=some .cell∨(relabel sc env).names.lookup x=some .free:=by
 unfold relabel
 dsimp only
 generalize sc.names=ns at h ⊢
 induction ns with
 | nil=>simp at h
 | cons a r ih =>
  obtain ⟨n,k1⟩:=a
  simp only [List.map_cons]
  simp only [List.lookup_cons] at h
  by_cases hc:(k1 == NameKind.free && env.scope.kind == .function && env.kindOf n == some .cell)=true
  ·rw [if_pos hc]
   simp only [List.lookup_cons]
   cases hx:x == n with
   | true=>exact .inl rfl
   | false=>rw [hx] at h;exact ih h
  ·rw [if_neg hc]
   simp only [List.lookup_cons]
   cases hx:x == n with
   | true=>rw [hx] at h;exact .inr h
   | false=>rw [hx] at h;exact ih h
structure CS (X:Cx) (sc:Scope) (N':List Str) (cap:List (Option Nat)):Prop where
 kind:sc.kind=.function
 nocell:∀ y∈sc.names,y.2≠.cell
 loc:∀ x∈sc.names,x.2=.local->sc.names.lookup x.1=some .local
 fr:∀ x∈sc.names,x.2=.free->X.env.kindOf x.1=some .cell∨X.env.kindOf x.1=some .free
 len:cap.length=N'.length
 capt:∀ (i j:Nat),cap[i]?=some (some j)->∃ x,N'[i]?=some x/\X.N[j]?=some x/\sc.names.lookup x=some .free
def z1U (cap:List (Option Nat)) (σ:St):St:=cap.map fun o=>match o with | some j=>(σ[j]?).join | none=>none
def Cx.comp (X:Cx) (N':List Str) (sc:Scope) (s:Shared) (H:Hp) (fp:List Addr) (xe:Value->Shared->Prop):Cx :=
 { X with N:=N',s₀:=s,H₀:=H,env:=compEnvC sc (z0q X.env sc.names []) s.heap.objs.size X.env,outer:=X.stack,stack:=X.stack,ex:=fp,fn:=fun _=>false,pn:=[],xe:=xe }
section
variable {X:Cx}{pins:List (Addr×Obj)}{σ:St}{H:Hp}{s:Shared}{sc:Scope}{N':List Str}{cap:List (Option Nat)}{fp:List Addr}{xe:Value->Shared->Prop}{h':Heap}
theorem CS.cells (S:CS X sc N' cap) (I:Inv X pins σ H s):∀ x∈sc.names,x.2=.free->∃ c,X.env.cells.lookup x.1=some c:=fun x hx hf =>
 I.ok.has x.1 (S.fr x hx hf)
theorem Inv.compIn {t:Nat}(I:Inv X pins σ H s) (S:CS X sc N' cap) (hf:∀ b∈fp,FpOk X pins H b) (hlt:∀ b∈fp,b<s.heap.objs.size)
 (hns:h'.Ns s.heap.objs.size fun _=>none) (hk:∀ b o,s.heap.get? b=some o->h'.get? b=some o) :
 Inv (X.comp N' sc s H fp xe) [] (z1U cap σ) H { s with heap:=h',toks:=t }:=by
 have hfrom:∀ {x c},(z0q X.env sc.names []).lookup x=some c->X.env.cells.lookup x=some c:=fun {x c} q=>by
  rcases z6w _ _ q with z | z
  ·exact z
  ·simp at z
 have hlook:∀ {x},((relabel sc X.env).names.lookup x=some .cell∨(relabel sc X.env).names.lookup x=some .free)->sc.names.lookup x=some .free:=fun {x} q=>by
  rcases q with q | q
  ·obtain ⟨k0,e,z⟩:=z2M q
   rcases z with z | z
   ·subst z;exact absurd rfl (S.nocell _ (PySem.mem_of_lookup e))
   ·rw [e,z.2]
  ·obtain ⟨k0,e,z⟩:=z2M q
   rcases z with z | z
   ·rw [e,z]
   ·cases z.1
 refine ⟨⟨I.ok.mod,?_,I.ok.glob,I.ok.blt,Nat.le_refl _,fun x y c h1 h2=>I.ok.inj x y c (hfrom h1) (hfrom h2),fun x hx=>?_,fun x c q=>absurd (show false=true from q) (by decide),I.ok.hd,I.ok.frames,.inl rfl,fun b hb=>⟨?_,fun x c q=>?_⟩,
  I.bs,Nat.le_trans I.ok.bsz I.sz,fun b o e hb=>?_,fun b hb hz=>?_,I.stack,I.stkFree⟩,
  rfl,I.bare,Un.kept hk,⟨_,hns,fun i x v h1 h2 h3=>?_⟩,fun x c q=>?_,I.hok.fresh (Nat.le_refl _),fun x c q=>I.freeC x c (hfrom q),fun p hp=>absurd (show p∈([]:List (Addr×Obj)) from hp) (by simp),I.hok.kept hk,?_⟩
 ·exact S.kind
 ·have e:=hlook hx
  have e2:=PySem.mem_of_lookup e
  obtain ⟨c,hc⟩:=I.ok.has x (S.fr _ e2 rfl)
  exact ⟨c,z5z hc _ _ e2⟩
 ·exact Nat.ne_of_lt (hlt b hb)
 ·exact (hf b hb).2.2.2.2.1 x c (hfrom q)
 ·rcases (hf b hb).2.2.2.1 with z | z
  ·exact I.ok.noex b o e z
  ·exact absurd (Nat.lt_of_lt_of_le (Heap.lt_size e) (Nat.le_trans I.ok.bsz z)) (Nat.lt_irrefl _)
 ·rcases List.mem_cons.mp (I.stkSub b hz) with z | z
  ·exact (hf b hb).2.1 z
  ·exact (hf b hb).2.2.1 z
 ·have h2':(cap.map fun o=>match o with | some j=>(σ[j]?).join | none=>none)[i]?=some (some v):=h2
  rw [List.getElem?_map] at h2'
  cases e:cap[i]? with
  | none=>rw [e] at h2';cases h2'
  | some o =>
   rw [e] at h2'
   cases o with
   | none=>simp at h2'
   | some j =>
    have hj:σ[j]?=some (some v):=by
     have h4:(σ[j]?).join=some v:=by simpa using h2'
     cases e2:σ[j]? with
     | none=>rw [e2] at h4;simp at h4
     | some o2=>rw [e2] at h4;simp at h4;rw [h4]
    obtain ⟨y,n1,n2,n3⟩:=S.capt i j e
    have ey:y=x:=by
     have h1':N'[i]?=some x:=h1
     rw [n1] at h1';exact Option.some.inj h1'
    subst ey
    have hm:=PySem.mem_of_lookup n3
    have hkind:=S.fr _ hm rfl
    obtain ⟨m,hn,hl⟩:=I.loc
    have vis:Vis X.env.scope y:=by
     rcases hkind with z | z
     ·exact .inr (.inl z)
     ·exact .inr (.inr z)
    obtain ⟨u,r,l⟩:=hl j y v n2 hj vis
    refine ⟨u,r,.inr ?_⟩
    rcases l with ⟨z,_⟩ | ⟨_,c,hc,hcell⟩
    ·have z':X.env.kindOf y=some .local:=z
     rcases hkind with q | q<;>(have q':X.env.kindOf y=_:=q;rw [z'] at q';cases q')
    ·obtain ⟨o,ho,hd⟩:=hcell
     exact ⟨z4U n3,c,z5z hc _ _ hm,o,hk c o ho,hd⟩
 ·obtain ⟨v,o,ho,hd⟩:=I.cell x c (hfrom q)
  exact ⟨v,o,hk c o ho,hd⟩
 ·show (cap.map _).length=N'.length
  rw [List.length_map];exact S.len
theorem Inv.compOut {pins':List (Addr×Obj)}{σ':St}{H':Hp}{s':Shared}(I:Inv X pins σ H s) (hf:∀ b∈fp,FpOk X pins H b)
 (J:Inv (X.comp N' sc s H fp xe) pins' σ' H' s') (hs:Heap.SameBut s.heap.objs.size s'.heap h'):Inv X pins σ H' { s' with heap:=h' }:=by
 have hu:Un (frs X.stack) fp H H' s.heap s'.heap:=J.base
 have hC:H' s.heap.objs.size=none:=J.free
 have lt:∀ {b:Addr} {o:Obj},s.heap.get? b=some o->b≠s.heap.objs.size:=fun e=>Nat.ne_of_lt (Heap.lt_size e)
 refine I.call' (s':={ s' with heap:=h' }) (ch:=fp) J.os ⟨fun b o e n h1 h2=>?_,fun b o e n h1 h2=>?_,hu.free,fun b o e h1=>?_,hu.tups,hu.frzs,hu.tbls⟩ (fun b u e=>?_) J.bare (fun b hb=>⟨(hf b hb).2.2.2.1,(hf b hb).2.1,(hf b hb).2.2.2.2.1,(hf b hb).2.2.2.2.2⟩)
 ·exact (hs.2 b (lt e)).trans (hu.keep b o e n h1 h2)
 ·obtain ⟨sl,q⟩:=hu.slot b o e n h1 h2
  exact ⟨sl,(hs.2 b (lt e)).trans q⟩
 ·obtain ⟨o',q⟩:=hu.there b o e h1
  exact ⟨o',(hs.2 b (lt e)).trans q⟩
 ·refine (J.hok b u e).stay (fun c v hc q=>?_) (fun _ q=>q) fun _ _ q=>q
  have ne:c≠s.heap.objs.size:=by
   rintro rfl
   rcases hc with z | z
   ·rw [← z,hC] at e;cases e
   ·rw [hC] at z;cases z
  exact (hs.2 c ne).trans q
end
def PTs (X:Cx) (ifs:List Expr) (t:TT):Prop :=
 ∀ (pins:List (Addr×Obj)) (s:Shared) (σ:St) (H:Hp) (Q:Bool->Hp->Prop),Inv X pins σ H s->t σ H Q->wpAny (model X.prog X.w) X.A (z52 ifs X.env) (TP X pins σ Q) X.xe s
def zc8:TT:=fun _ H Q=>Q true H
def zm0 (t r:TT):TT:=fun σ H Q=>t σ H fun b H1=>if b=true then r σ H1 Q else Q false H1
theorem z5a {X:Cx}{E:Value->Shared->Prop}{Q:Bool->Shared->Prop}:∀ {ifs:List Expr}{s:Shared},Q false s ->
 wpAny (model X.prog X.w) X.A (forIn ifs false fun c r=>if r=true then do { let ok ← isTrue c X.env (eval c X.env);pure (ForInStep.yield ok) } else pure (ForInStep.yield r)) Q E s
 | [],s,h=>by rw [List.forIn_nil];exact wpAny_pure h
 | c :: r,s,h=>by
  rw [List.forIn_cons]
  refine wpAny_bind ?_
  rw [if_neg (by decide)]
  exact wpAny_pure (z5a h)
theorem z8g {X:Cx}:PTs X [] zc8:=fun pins s σ H Q I h=>by
 unfold z52
 rw [List.forIn_nil]
 exact wpAny_pure ⟨H,I,h⟩
theorem z8R {X:Cx}{c:Expr}{r:List Expr}{t u:TT}(h1:PT X c t) (h2:PTs X r u):PTs X (c :: r) (zm0 t u):=fun pins s σ H Q I h=>by
 unfold z52
 rw [List.forIn_cons]
 refine wpAny_bind ?_
 rw [if_pos rfl]
 refine wpAny_bind (thn (h1 pins s σ H _ I h) fun b s1 ⟨H1,I1,q1⟩=>wpAny_pure ?_)
 cases b with
 | true=>exact h2 pins s1 σ H1 Q I1 (by simpa using q1)
 | false=>exact z5a ⟨H1,I1,by simpa using q1⟩
def z4c (cap:List (Option Nat)) (g:TG) (ti:TT) (te:TE) (σ:St) (J:It) (D:Addr) (Q:Hp->Prop) (H:Hp):Prop :=
 ∃ W:Nat->Nat->Hp->Prop,(∃ m,W 0 m H)/\∀ i m H,W i m H ->
  (J.stop i H/\Q H)∨(J.go i H/\∀ x H1,J.yld i H x H1->g x (z1U cap σ) H1 fun σ2 H2=>(∀ (j:Nat) v,(z1U cap σ)[j]?=some (some v)->σ2[j]?=some (some v)) /\
   ti σ2 H2 fun ok H3=>if ok=true then te σ2 H3 fun v H4=>∃ acc,H4 D=some (.lst acc)/\acc.length<sizeLine/\∃ m',m'<m/\W (i+1) m' (upd H4 D (.lst (acc++[v])))
    else ∃ m',m'<m/\W (i+1) m' H3)
section
variable {X:Cx}{elt tg iter:Expr}{ifs:List Expr}{sc:Scope}{pos:Pos}{N':List Str}{cap:List (Option Nat)}{g:TG}{ti:TT}{te:TE}
theorem z4L {pins:List (Addr×Obj)}{σ:St}{H2:Hp}{s2:Shared}{it:Addr}{fp:List Addr}{tn:Nat->Heap->Prop}{J:It}{E:Value->Shared->Prop}{RR:Value->Addr->Result->Shared->Prop}{Q:Addr->Hp->Prop}
 (hc:X.calm=true) (S:CS X sc N' cap) (hg:∀ s H fp xe,PG (X.comp N' sc s H fp xe) tg g) (ht:∀ s H fp xe,PTs (X.comp N' sc s H fp xe) ifs ti) (he:∀ s H fp xe,PE (X.comp N' sc s H fp xe) elt te)
 (I2:Inv X pins σ H2 s2) (T:Turn X.prog X.w X.K tg J fp it tn) (st2:tn 0 s2.heap) (f2:∀ b∈fp,FpOk X pins H2 b)
 (hq:∀ D,H2 D=none->z4c cap g ti te σ J D (Q D) (upd H2 D (.lst [])))
 (hRR:∀ (D:Addr) (s3:Shared) (H3:Hp) (xe:Value->Shared->Prop) (H':Hp) (pins':List (Addr×Obj)) (σ':St) (s':Shared),Inv X pins σ H3 s3->(∀ b∈fp,FpOk X pins H3 b)->Inv (X.comp N' sc s3 H3 fp xe) pins' σ' H' s'->Q D H'->RR (.ref D) s3.heap.objs.size (.ok .next) s') :
 wpAny (model X.prog X.w) X.A (newList []) (fun acc s3=>wpAny (model X.prog X.w) X.A (newFunctionEnv sc X.env.globals (z0q X.env sc.names []) [] X.env.qual none .none (some X.env)) (fun cenv s4 =>
  codeAny (model X.prog X.w) X.A (.compStart (.ListComp elt [⟨tg,iter,ifs,0⟩] sc pos) 0 (.ref it) acc { cenv with scope:=relabel sc X.env }) (RR acc cenv.locals) s4) E s3) E s2:=by
 refine wpAny_newObj_type ?_
 have I3:=I2.lnew (ys:=[]) (its:=[]) (t':=s2.toks) .nil (Nat.zero_le _)
 have hfr:H2 s2.heap.objs.size=none:=I2.fresh
 have lt2:∀ b∈fp,b<s2.heap.objs.size:=fun b hb=>by
  obtain ⟨o,e,_⟩:=T.obj _ _ st2 b hb
  exact Heap.lt_size e
 generalize hD:s2.heap.objs.size=D at I3 hfr lt2 ⊢
 have r0:=hq D hfr
 generalize hs3:({ s2 with heap:=s2.heap.push { cls:=.type "list",data:=.seq ([]:List Value).toArray },toks:=s2.toks }:Shared)=s3 at I3
 have f3:∀ b∈fp,FpOk X pins (upd H2 D (.lst [])) b:=fun b hb=>⟨by rw [z06 (Nat.ne_of_lt (lt2 b hb))];exact (f2 b hb).1,(f2 b hb).2⟩
 have kp3:∀ b o,s2.heap.get? b=some o->s3.heap.get? b=some o:=fun b o e=>by rw [← hs3];exact Heap.get?_push_of_some _ e
 have st3:tn 0 s3.heap:=T.keep _ _ _ st2 fun b hb o e=>kp3 b o e
 have lt3:∀ b∈fp,b<s3.heap.objs.size:=fun b hb=>by
  obtain ⟨o,e,_⟩:=T.obj _ _ st3 b hb
  exact Heap.lt_size e
 generalize upd H2 D (.lst [])=H3 at I3 r0 f3
 refine wpAny_newFunctionEnv S.nocell (fun x hx=>absurd hx (by simp)) (fun h1 hns hsb=>?_) S.kind
 have kp4:∀ b o,s3.heap.get? b=some o->h1.get? b=some o:=fun b o e=>by
  rw [hsb.2 b (Nat.ne_of_lt (Heap.lt_size e))]
  exact Heap.get?_push_of_some _ e
 have hns':h1.Ns s3.heap.objs.size fun _=>none:=hns
 have st4:tn 0 h1:=T.keep _ _ _ st3 fun b hb o e=>kp4 b o e
 have frees:∀ b∈fp,H3 b=none:=fun b hb=>(f3 b hb).1
 have loop:codeAny (model X.prog X.w) X.A (.compLoop (.ListComp elt [⟨tg,iter,ifs,0⟩] sc pos) 0 (.ref it) (.ref D) (compEnvC sc (z0q X.env sc.names []) s3.heap.objs.size X.env))
  (RR (.ref D) s3.heap.objs.size) { s3 with heap:=h1,toks:=s3.toks+([]:List (Str×Value)).length }:=by
  let xe:Value->Shared->Prop:=notedBy (model X.prog X.w) X.A (compEnvC sc (z0q X.env sc.names []) s3.heap.objs.size X.env) fun e s'=>RR (.ref D) s3.heap.objs.size (.error e) s'
  have I4:Inv (X.comp N' sc s3 H3 fp xe) [] (z1U cap σ) H3 { s3 with heap:=h1,toks:=s3.toks+([]:List (Str×Value)).length }:=I3.compIn S f3 lt3 hns' kp4
  have stat:∀ {H':Hp},(∀ b∈fp,H' b=none)->∀ b∈fp,FpOk (X.comp N' sc s3 H3 fp xe) [] H' b:=fun hn b hb=>by
   obtain ⟨q1,q2⟩:=I4.ok.exf b hb
   exact ⟨hn b hb,q1,I4.ok.exfs b hb,.inl hb,q2,fun p hp=>absurd (show p∈([]:List (Addr×Obj)) from hp) (by simp)⟩
  obtain ⟨W,⟨m0,w0⟩,turn⟩:=r0
  refine z7V (fun n s'=>∃ i H',Inv (X.comp N' sc s3 H3 fp xe) [] (z1U cap σ) H' s'/\tn i s'.heap/\(∀ b∈fp,H' b=none)/\W i n H') ?_ m0 ⟨0,H3,I4,st4,frees,w0⟩
  rintro n s5 ⟨i,H5,I5,st5,fr5,w5⟩
  rcases turn i n H5 w5 with ⟨stop,qn⟩ | ⟨go,step⟩
  ·refine thn (T.done (X.comp N' sc s3 H3 fp xe) rfl rfl rfl hc i [] s5 _ H5 xe I5 (stat fr5) st5 stop) fun r s6 ⟨hr,I6⟩=>?_
   subst hr
   exact hRR D s3 H3 xe H5 [] _ s6 I3 f3 I6 qn
  ·refine thn (T.item (X.comp N' sc s3 H3 fp xe) rfl rfl rfl hc i [] s5 _ H5 xe I5 (stat fr5) st5 go) fun r s6 ⟨u,hr,h6⟩=>?_
   subst hr
   refine thn h6 fun _ s7 ⟨x,H7,I7,r7,y7,st7,fr7⟩=>?_
   have I7':=I7.pinned (stat fr7) (T.obj _ _ st7)
   refine thn (hg s3 H3 fp xe _ s7 _ H7 x u _ I7' r7 (step x H7 y7)) fun _ s8 ⟨σ8,H8,I8,k8,q8⟩=>?_
   refine thn (ht s3 H3 fp xe _ s8 σ8 H8 _ I8 q8) fun ok s9 ⟨H9,I9,q9⟩=>?_
   have again:∀ {σa:St} {Ha:Hp} {sa:Shared},Inv (X.comp N' sc s3 H3 fp xe) ([]++z3V fp s7.heap) σa Ha sa->(∀ (j:Nat) v,(z1U cap σ)[j]?=some (some v)->σa[j]?=some (some v)) ->
    Inv (X.comp N' sc s3 H3 fp xe) [] (z1U cap σ) Ha sa/\tn (i+1) sa.heap/\∀ b∈fp,Ha b=none:=fun {σa Ha sa} Ia ka=>by
    refine ⟨Ia.unpinned.weak (I5.len.trans Ia.len.symm) ka,T.keep _ _ _ st7 fun b hb o e=>(Ia.pin (b,o) (List.mem_append_right _ (List.mem_append_right _ (z1v hb e)))).1,fun b hb=>?_⟩
    obtain ⟨o,e,d⟩:=T.obj _ _ st7 b hb
    exact (Ia.pin (b,o) (List.mem_append_right _ (List.mem_append_right _ (z1v hb e)))).2.1
   cases ok with
   | false =>
    have q9':∃ m',m'<n/\W (i+1) m' H9:=by simpa using q9
    obtain ⟨m',hm,w9⟩:=q9'
    obtain ⟨a1,a2,a3⟩:=again I9 k8
    exact ⟨m',hm,i+1,H9,a1,a2,a3,w9⟩
   | true =>
    rw [if_pos rfl] at q9
    refine thn (he s3 H3 fp xe _ s9 σ8 H9 _ I9 q9) fun v sa ⟨y,Ha,Ia,ra,acc,ea,za,m',hm,wa⟩=>?_
    refine thn (z5i (X:=X.comp N' sc s3 H3 fp xe) _ sa σ8 Ha (.ref D) [y] (.ref D) [v] (fun _ H'=>H'=upd Ha D (.lst (acc++[y]))) Ia rfl (.cons ra .nil) ⟨D,acc,y,rfl,rfl,ea,za,rfl⟩) fun _ sb ⟨_,Hb,Ib,_,eb⟩=>?_
    subst eb
    obtain ⟨a1,a2,a3⟩:=again Ib k8
    exact ⟨m',hm,i+1,_,a1,a2,a3,wa⟩
 exact codeAny_compStart_list loop (T.self _ 0 _ _ _ st4 loop)
def zA8 (cap:List (Option Nat)) (wi:TI) (g:TG) (ti:TT) (te:TE):TE:=fun σ H Q=>wi σ H fun J H1=>∀ D,H1 D=none->z4c cap g ti te σ J D (fun H'=>Q (.ref D) H') (upd H1 D (.lst []))
theorem zf4 {wi:TI}(hc:X.calm=true) (S:CS X sc N' cap) (hi:PI X tg iter wi) (hg:∀ s H fp xe,PG (X.comp N' sc s H fp xe) tg g) (ht:∀ s H fp xe,PTs (X.comp N' sc s H fp xe) ifs ti)
 (he:∀ s H fp xe,PE (X.comp N' sc s H fp xe) elt te) (hs:∀ x,foldedSetIterable iter X.env x=pure x:=by intro _;rfl):PE X (.ListComp elt [⟨tg,iter,ifs,0⟩] sc pos) (zA8 cap wi g ti te):=by
 intro pins s σ H Q I h
 rw [eval_ListComp]
 refine wpAny_comprehension_free (use:=none) rfl hs (z26 (S.cells I)) S.kind S.loc (thn (hi pins s σ H _ I h) fun v s1 h1=>thn h1 fun itv s2 h2=>?_)
 obtain ⟨it,fp,tn,J,H2,e,I2,T,st2,f2,rq⟩:=h2
 subst e
 refine z4L (RR:=fun acc C=>compPost (model X.prog X.w) X.A X.xe none (EP X pins σ Q) acc C) (Q:=fun D H'=>Q (.ref D) H') hc S hg ht he I2 T st2 f2 rq ?_
 intro D s3 H3 xe H' pins' σ' s' I3 f3 J3 q
 obtain ⟨m,hn,_⟩:=id J3.loc
 exact ⟨m,hn,fun h' hs=>⟨.ref D,H',I3.compOut f3 J3 hs,rfl,q⟩⟩
def zx2 (cap:List (Option Nat)) (wi:TI) (g:TG) (ti:TT) (te:TE) (i:Nat):TS:=fun D σ H=>wi σ H fun J H1=>∀ d,H1 d=none->z4c cap g ti te σ J d (fun H'=>D.nx (σ.set i (some (.ref d))) H') (upd H1 d (.lst []))
theorem zb3 {wi:TI}{y:Str}{py spos:Pos}{i:Nat}(hc:X.calm=true) (S:CS X sc N' cap) (hi:PI X tg iter wi) (hg:∀ s H fp xe,PG (X.comp N' sc s H fp xe) tg g) (ht:∀ s H fp xe,PTs (X.comp N' sc s H fp xe) ifs ti)
 (he:∀ s H fp xe,PE (X.comp N' sc s H fp xe) elt te) (hN:X.N.Nodup) (hy:X.N[i]?=some y) (hl:X.env.scope.names.lookup y=some .local)
 (hsw:swapsWith (.ListComp elt [⟨tg,iter,ifs,0⟩] sc pos) (some (.Name y py)) spos.line X.env=pure true:=by rfl) (hs:∀ x,foldedSetIterable iter X.env x=pure x:=by intro _;rfl) :
 PS X (.Assign [.Name y py] (.ListComp elt [⟨tg,iter,ifs,0⟩] sc pos) spos) (zx2 cap wi g ti te i):=by
 intro pins s σ H D I h
 rw [exec_Assign_Name_used _ _ _ _ hsw]
 refine wpAny_bind (wpAny_standAt (wpAny_bind ?_))
 show wpAny _ X.A (do let _ ← comprehension (.ListComp elt [⟨tg,iter,ifs,0⟩] sc pos) sc X.env _ (newList []) false (eval iter X.env) (some (assign (.Name y py) X.env))) _ _ s
 refine wpAny_bind (wpAny_mono (wpAny_comprehension_free (use:=some (assign (.Name y py) X.env)) (Q:=fun _ s'=>SP X pins D .next s') rfl hs (z26 (S.cells I)) S.kind S.loc
  (thn (hi pins s σ H _ I h) fun v s1 h1=>thn h1 fun itv s2 h2=>?_)) (fun _ s' hq=>wpAny_pure (wpAny_pure hq)) fun _ _ z=>z)
 obtain ⟨it,fp,tn,J,H2,e,I2,T,st2,f2,rq⟩:=h2
 subst e
 refine z4L (RR:=fun acc C=>compPost (model X.prog X.w) X.A X.xe (some (assign (.Name y py) X.env)) (fun _ s'=>SP X pins D .next s') acc C) (Q:=fun d H'=>D.nx (σ.set i (some (.ref d))) H') hc S hg ht he I2 T st2 f2 rq ?_
 intro d s3 H3 xe H' pins' σ' s' I3 f3 J3 q
 obtain ⟨m,hn,_⟩:=id J3.loc
 have Is:Inv X pins σ H' s':=I3.compOut (h':=s'.heap) f3 J3 (Heap.SameBut.refl _ _)
 obtain ⟨oC,es,ep,hoC,hdC,hrC⟩:=id hn
 have hC:H' s3.heap.objs.size=none:=J3.free
 have neL:s3.heap.objs.size≠X.env.locals:=Nat.ne_of_gt I3.lt
 have nfs:s3.heap.objs.size∉X.fs:=I3.nofs (Nat.le_refl _)
 have Ip:Inv X (pins++[(s3.heap.objs.size,oC)]) σ H' s':=Is.pins_of fun p hp=>by
  rcases List.mem_append.mp hp with z | z
  ·exact Is.pin p (List.mem_append_right _ z)
  ·obtain rfl:p=(s3.heap.objs.size,oC):=by simpa using z
   exact ⟨hoC,hC,neL,nfs,fun v hv=>by have hdC':oC.data=_:=hdC;rw [hdC'] at hv;cases hv⟩
 show wpAny _ X.A (assign (.Name y py) X.env (.ref d)) _ _ s'
 refine thn (z5s (X:=X) (i:=i) hN hy (.inl hl) (.inr hl) _ s' σ H' (.ref d) (.ref d) (fun σ2 H2=>D.nx σ2 H2) Ip rfl q) fun _ s4 ⟨σ4,H4,I4,q4⟩=>?_
 have pn:=I4.pin (s3.heap.objs.size,oC) (List.mem_append_right _ (List.mem_append_right _ (by simp)))
 refine ⟨m,⟨oC,es,ep,pn.1,hdC,hrC⟩,fun h' hs=>⟨σ4,H4,?_,q4⟩⟩
 have I4u:Inv X pins σ4 H4 s4:=I4.unpinned
 have st:=I4u.step (g':=s4.gens) (t':=s4.toks) (d':=s4.drawn) (h':=h') (H':=H4) (ch:=[s3.heap.objs.size]) (fun b hb=>?_) (fun b o _ _ hc e _=>(hs.2 b (by simpa using hc)).trans e)
  (fun b o _ _ hc e _=>⟨o.slots,(hs.2 b (by simpa using hc)).trans e⟩) (fun _ _ _ _ n=>n) (fun b o hc e=>⟨o,(hs.2 b (by simpa using hc)).trans e⟩) (fun _ _ e=>e) (fun _ _ _ e=>e) (fun b ps e=>⟨#[],by rw [e];simp⟩) (fun m hm=>?_) (fun b u e=>?_) I4u.bare
 ·exact st
 ·have e:b=s3.heap.objs.size:=by simpa using hb
  subst e
  refine ⟨.inr I3.sz,neL,fun x c e2 z=>?_,fun p hp z=>?_⟩
  ·obtain ⟨v,q2⟩:=I3.cell x c e2
   exact absurd q2.lt (by rw [z];exact Nat.lt_irrefl _)
  ·have e3:=(I3.pin p hp).1
   exact absurd (Heap.lt_size e3) (by rw [z];exact Nat.lt_irrefl _)
 ·obtain ⟨o,es',ep',ho',r'⟩:=hm
  exact ⟨o,es',ep',(hs.2 _ (Ne.symm neL)).trans ho',r'⟩
 ·refine (I4u.hok b u e).stay (fun c v hc q=>?_) (fun _ q=>q) fun _ _ q=>q
  have n4:H4 s3.heap.objs.size=none:=pn.2.1
  have ne:c≠s3.heap.objs.size:=by
   rintro rfl
   rcases hc with z | z
   ·rw [← z,n4] at e;cases e
   ·rw [n4] at z;cases z
  exact (hs.2 c ne).trans q
end
end L2
namespace L2
open PySem
def excO (a C:Addr):HO:=.ext fun h=>∃ o,h.get? a=some o/\o.cls=.ref C
def dctO (a:Addr):HO:=.ext fun h=>∃ o,h.get? a=some o/\o.cls=.type "dict"
end L2
namespace FT
open PySem PySem.Spec PyProof.Rows L2
inductive D where
 | non | bl (b:Bool) | int (i:Int) | str (x:Str) | tup (xs:List D) | fl (xs:List D) | ref (n:Nat)
inductive O where
 | lst (xs:List D)
 | set (ks:List Key)
 | dct
 | dK (kvs:List (Key×D))
 | dF (kvs:List (Key×D))
 | exc (c:Str)
abbrev AH:=List O
abbrev G:=List (Option D)
structure Exn where
 cls:Str
 fs:List (Str×D)
inductive Res (α:Type) where
 | ok (a:α) (h:AH) | err (x:Exn) (h:AH) | bad
abbrev M (α:Type):=AH->Res α
def M.pure {α:Type} (a:α):M α:=fun h=>.ok a h
def M.bind {α β:Type} (m:M α) (f:α->M β):M β:=fun h=>match m h with
 | .ok a h1=>f a h1
 | .err x h1=>.err x h1
 | .bad=>.bad
instance:Monad M where
 pure:=M.pure
 bind:=M.bind
def bad {α:Type}:M α:=fun _=>.bad
theorem M.bind_eq {α β:Type}(m:M α) (f:α->M β) (h:AH):(m >>= f) h=match m h with
 | .ok a h1=>f a h1
 | .err x h1=>.err x h1
 | .bad=>.bad:=rfl
theorem M.bind_ok {α β:Type}{m:M α}{f:α->M β}{h h1:AH}{a:α}(e:m h=.ok a h1):(m >>= f) h=f a h1:=by rw [M.bind_eq,e]
def SqLP (K:PySem.W.Frag) (H:Hp) (a:Addr) (xs:List V):Prop :=
 (∃ o,H a=some (.frz o (.lst xs))) ∨
  ∃ (o:Obj) (its:Array Value) (n:Nat),K.lookup a=some o/\o.cls=.type "list"/\o.dict=none/\o.data=.seq its n/\its.size≤sizeLine/\Vals xs its.toList
theorem SqLP.sq {K:PySem.W.Frag}{H:Hp}{a:Addr}{xs:List V}(h:SqLP K H a xs):SqL K H a xs:=by
 rcases h with ⟨o,h⟩ | h
 ·exact .inl (.inr ⟨o,h⟩)
 ·exact .inr h
mutual
def RD (K:PySem.W.Frag) (ρ:List Addr) (H:Hp):D->V->Prop
 | .non,v=>v=.non
 | .bl b,v=>v=.bl b
 | .int i,v=>v=.int i
 | .str x,v=>v=.str x
 | .tup ds,v=>∃ a xs,v=.ref a/\SqT K H a xs/\RDs K ρ H ds xs
 | .fl ds,v=>∃ a xs,v=.ref a/\SqLP K H a xs/\RDs K ρ H ds xs
 | .ref n,v=>∃ a,v=.ref a/\ρ[n]?=some a
def RDs (K:PySem.W.Frag) (ρ:List Addr) (H:Hp):List D->List V->Prop
 | [],xs=>xs=[]
 | d :: ds,xs=>∃ x r,xs=x :: r/\RD K ρ H d x/\RDs K ρ H ds r
end
def Pre (ρ ρ':List Addr):Prop:=∀ (n:Nat) a,ρ[n]?=some a->ρ'[n]?=some a
theorem Pre.refl (ρ:List Addr):Pre ρ ρ:=fun _ _ h=>h
theorem Pre.trans {a b c:List Addr}(x:Pre a b) (y:Pre b c):Pre a c:=fun n z h=>y n z (x n z h)
theorem Pre.app (ρ r:List Addr):Pre ρ (ρ++r):=fun n a h=>by
 rw [List.getElem?_append_left (List.getElem?_eq_some_iff.mp h).1];exact h
structure Ext (K:PySem.W.Frag) (H H':Hp):Prop where
 t:∀ a xs,SqT K H a xs->SqT K H' a xs
 l:∀ a xs,SqLP K H a xs->SqLP K H' a xs
 d:∀ a o vs,H a=some (.frz o (.dK vs))->H' a=some (.frz o (.dK vs))
theorem Ext.refl (K:PySem.W.Frag) (H:Hp):Ext K H H:=⟨fun _ _ h=>h,fun _ _ h=>h,fun _ _ _ h=>h⟩
theorem Ext.trans {K:PySem.W.Frag}{a b c:Hp}(x:Ext K a b) (y:Ext K b c):Ext K a c:=⟨fun z xs h=>y.t z xs (x.t z xs h),fun z xs h=>y.l z xs (x.l z xs h),fun z o vs h=>y.d z o vs (x.d z o vs h)⟩
def Trk:HO->Prop
 | .lst _=>True
 | .set _=>True
 | .ext _=>True
 | .dK _=>True
 | _=>False
theorem Ext.upd {K:PySem.W.Frag}{H:Hp}{p:Addr}{o:HO}(h:H p=none∨∃ u,H p=some u/\Trk u):Ext K H (upd H p o):=by
 have ne:∀ {b:Addr} {u:HO},H b=some u->¬ Trk u->b≠p:=fun {b u} e n z=>by
  subst z
  rcases h with h | ⟨u',h,tr⟩
  ·rw [h] at e;cases e
  ·rw [h] at e;cases e;exact n tr
 refine ⟨fun a xs q=>?_,fun a xs q=>?_,fun a o vs q=>by rw [z06 (ne q (fun z=>z))];exact q⟩
 ·rcases q with (q | ⟨u,q⟩) | q
  ·exact .inl (.inl (by rw [z06 (ne q (fun z=>z))];exact q))
  ·exact .inl (.inr ⟨u,by rw [z06 (ne q (fun z=>z))];exact q⟩)
  ·exact .inr q
 ·rcases q with ⟨u,q⟩ | q
  ·exact .inl ⟨u,by rw [z06 (ne q (fun z=>z))];exact q⟩
  ·exact .inr q
section
variable {K:PySem.W.Frag}{ρ ρ':List Addr}{H H':Hp}
mutual
theorem RD.mono (p:Pre ρ ρ') (e:Ext K H H'):∀ {d:D}{v:V},RD K ρ H d v->RD K ρ' H' d v
 | .non,v,h=>by simpa [RD] using h
 | .bl b,v,h=>by simpa [RD] using h
 | .int b,v,h=>by simpa [RD] using h
 | .str b,v,h=>by simpa [RD] using h
 | .tup ds,v,h=>by
  simp only [RD] at h ⊢
  obtain ⟨a,xs,h1,h2,h3⟩:=h
  exact ⟨a,xs,h1,e.t a xs h2,RDs.mono p e h3⟩
 | .fl ds,v,h=>by
  simp only [RD] at h ⊢
  obtain ⟨a,xs,h1,h2,h3⟩:=h
  exact ⟨a,xs,h1,e.l a xs h2,RDs.mono p e h3⟩
 | .ref n,v,h=>by
  simp only [RD] at h ⊢
  obtain ⟨a,h1,h2⟩:=h
  exact ⟨a,h1,p n a h2⟩
theorem RDs.mono (p:Pre ρ ρ') (e:Ext K H H'):∀ {ds:List D}{xs:List V},RDs K ρ H ds xs->RDs K ρ' H' ds xs
 | [],xs,h=>by simpa [RDs] using h
 | d :: ds,xs,h=>by
  simp only [RDs] at h ⊢
  obtain ⟨x,r,h1,h2,h3⟩:=h
  exact ⟨x,r,h1,RD.mono p e h2,RDs.mono p e h3⟩
end
theorem RDs.nil:RDs K ρ H [] []:=by simp [RDs]
theorem RDs.cons {d:D}{ds:List D}{x:V}{xs:List V}(h:RD K ρ H d x) (t:RDs K ρ H ds xs):RDs K ρ H (d :: ds) (x :: xs):=by
 simp only [RDs];exact ⟨x,xs,rfl,h,t⟩
theorem RDs.pair:∀ {ds:List D}{xs:List V},RDs K ρ H ds xs->Paired (RD K ρ H) ds xs
 | [],xs,h=>by simp only [RDs] at h;subst h;exact .nil
 | d :: ds,xs,h=>by
  simp only [RDs] at h
  obtain ⟨x,r,rfl,h2,h3⟩:=h
  exact .cons h2 h3.pair
theorem RDs.length {ds:List D}{xs:List V}(h:RDs K ρ H ds xs):ds.length=xs.length:=Paired.length h.pair
theorem RDs.append {a b:List D}{xs ys:List V}(h:RDs K ρ H a xs) (t:RDs K ρ H b ys):RDs K ρ H (a++b) (xs++ys):=by
 induction a generalizing xs with
 | nil=>simp only [RDs] at h;subst h;exact t
 | cons d ds ih =>
  simp only [RDs] at h
  obtain ⟨x,r,rfl,h2,h3⟩:=h
  exact RDs.cons h2 (ih h3)
theorem RDs.get {ds:List D}{xs:List V}{i:Nat}{d:D}(h:RDs K ρ H ds xs) (e:ds[i]?=some d):∃ x,xs[i]?=some x/\RD K ρ H d x:=by
 induction ds generalizing xs i with
 | nil=>simp at e
 | cons a ds ih =>
  simp only [RDs] at h
  obtain ⟨x,r,rfl,h2,h3⟩:=h
  cases i with
  | zero=>simp at e;subst e;exact ⟨x,rfl,h2⟩
  | succ i =>
   obtain ⟨y,h4,h5⟩:=ih h3 (by simpa using e)
   exact ⟨y,by simpa using h4,h5⟩
theorem RDs.getV {ds:List D}{xs:List V}{i:Nat}{x:V}(h:RDs K ρ H ds xs) (e:xs[i]?=some x):∃ d,ds[i]?=some d/\RD K ρ H d x:=by
 have hl:=h.length
 have hi:=(List.getElem?_eq_some_iff.mp e).1
 obtain ⟨y,h1,h2⟩:=h.get (List.getElem?_eq_getElem (l:=ds) (i:=i) (by omega))
 rw [e] at h1;cases h1
 exact ⟨_,List.getElem?_eq_getElem (by omega),h2⟩
theorem RDs.drop {ds:List D}{xs:List V}(n:Nat) (h:RDs K ρ H ds xs):RDs K ρ H (ds.drop n) (xs.drop n):=by
 induction n generalizing ds xs with
 | zero=>exact h
 | succ n ih=>cases ds with
  | nil=>simp only [RDs] at h;subst h;exact RDs.nil
  | cons d ds=>simp only [RDs] at h;obtain ⟨x,r,rfl,h2,h3⟩:=h;exact ih h3
theorem RDs.take {ds:List D}{xs:List V}(n:Nat) (h:RDs K ρ H ds xs):RDs K ρ H (ds.take n) (xs.take n):=by
 induction n generalizing ds xs with
 | zero=>exact RDs.nil
 | succ n ih=>cases ds with
  | nil=>simp only [RDs] at h;subst h;exact RDs.nil
  | cons d ds=>simp only [RDs] at h;obtain ⟨x,r,rfl,h2,h3⟩:=h;exact RDs.cons h2 (ih h3)
theorem RDs.set {ds:List D}{xs:List V}{d:D}{x:V}(n:Nat) (h:RDs K ρ H ds xs) (hd:RD K ρ H d x):RDs K ρ H (ds.set n d) (xs.set n x):=by
 induction n generalizing ds xs with
 | zero=>cases ds with
  | nil=>simp only [RDs] at h;subst h;exact RDs.nil
  | cons a ds=>simp only [RDs] at h;obtain ⟨y,r,rfl,h2,h3⟩:=h;exact RDs.cons hd h3
 | succ n ih=>cases ds with
  | nil=>simp only [RDs] at h;subst h;exact RDs.nil
  | cons a ds=>simp only [RDs] at h;obtain ⟨y,r,rfl,h2,h3⟩:=h;exact RDs.cons h2 (ih h3)
theorem RDs.eraseIdx {ds:List D}{xs:List V}(n:Nat) (h:RDs K ρ H ds xs):RDs K ρ H (ds.eraseIdx n) (xs.eraseIdx n):=by
 induction n generalizing ds xs with
 | zero=>cases ds with
  | nil=>simp only [RDs] at h;subst h;exact RDs.nil
  | cons a ds=>simp only [RDs] at h;obtain ⟨y,r,rfl,h2,h3⟩:=h;exact h3
 | succ n ih=>cases ds with
  | nil=>simp only [RDs] at h;subst h;exact RDs.nil
  | cons a ds=>simp only [RDs] at h;obtain ⟨y,r,rfl,h2,h3⟩:=h;exact RDs.cons h2 (ih h3)
theorem RDs.flat {ds:List D}{xs:List V}(n:Nat) (h:RDs K ρ H ds xs):RDs K ρ H (List.replicate n ds).flatten (List.replicate n xs).flatten:=by
 induction n with
 | zero=>exact RDs.nil
 | succ n ih=>rw [List.replicate_succ,List.flatten_cons,List.replicate_succ,List.flatten_cons];exact h.append ih
def RK (K:PySem.W.Frag) (ρ:List Addr) (H:Hp):List (Key×D)->List (Key×V)->Prop:=Paired fun p q=>p.1=q.1/\RD K ρ H p.2 q.2
theorem RK.imp {α β:Type}{P Q:α->β->Prop}(f:∀ a b,P a b->Q a b):∀ {xs:List α}{ys:List β},Paired P xs ys->Paired Q xs ys
 | _,_,.nil=>.nil
 | _,_,.cons a b=>.cons (f _ _ a) (RK.imp f b)
theorem RK.mono {kvs:List (Key×D)}{vs:List (Key×V)}(p:Pre ρ ρ') (e:Ext K H H') (r:RK K ρ H kvs vs):RK K ρ' H' kvs vs:=RK.imp (fun _ _ h=>⟨h.1,h.2.mono p e⟩) r
def RO (K:PySem.W.Frag) (ρ:List Addr) (H:Hp) (o:O) (a:Addr):Prop:=match o with
 | .lst ds=>∃ xs,H a=some (.lst xs)/\RDs K ρ H ds xs
 | .set ks=>H a=some (.set ks)
 | .dct=>H a=some (dctO a)
 | .dK kvs=>∃ vs,H a=some (.dK vs)/\RK K ρ H kvs vs
 | .dF kvs=>∃ ob vs,H a=some (.frz ob (.dK vs))/\RK K ρ H kvs vs
 | .exc c=>∃ C,PySem.W.nsIn K mainGlobals c=some (some (.ref C))/\H a=some (excO a C)
structure RH (K:PySem.W.Frag) (ρ:List Addr) (h:AH) (H:Hp):Prop where
 len:ρ.length=h.length
 nd:∀ (i j:Nat) a,ρ[i]?=some a->ρ[j]?=some a->i=j
 obj:∀ (n:Nat) o a,h[n]?=some o->ρ[n]?=some a->RO K ρ H o a
theorem RH.at {h:AH}(r:RH K ρ h H) {n:Nat}{o:O}(e:h[n]?=some o):∃ a,ρ[n]?=some a/\RO K ρ H o a:=by
 have hi:=(List.getElem?_eq_some_iff.mp e).1
 have hj:n<ρ.length:=by rw [r.len];exact hi
 have q:ρ[n]?=some ρ[n]:=List.getElem?_eq_getElem hj
 exact ⟨_,q,r.obj n o _ e q⟩
def O.fz:O->Bool
 | .dF _=>true
 | _=>false
theorem RO.there {o:O}{a:Addr}(z:RO K ρ H o a):∃ u,H a=some u/\(o.fz=false->Trk u):=by
 cases o with
 | lst ds=>obtain ⟨xs,z,_⟩:=z;exact ⟨_,z,fun _=>trivial⟩
 | set ks=>exact ⟨_,z,fun _=>trivial⟩
 | dct=>exact ⟨_,z,fun _=>trivial⟩
 | dK kvs=>obtain ⟨vs,z,_⟩:=z;exact ⟨_,z,fun _=>trivial⟩
 | dF kvs=>obtain ⟨ob,vs,z,_⟩:=z;exact ⟨_,z,fun q=>by cases q⟩
 | exc c=>obtain ⟨C,_,z⟩:=z;exact ⟨_,z,fun _=>trivial⟩
theorem RH.there {h:AH}(r:RH K ρ h H) {n:Nat}{a:Addr}(e:ρ[n]?=some a):∃ u,H a=some u:=by
 have hi:=(List.getElem?_eq_some_iff.mp e).1
 have hj:n<h.length:=by rw [← r.len];exact hi
 obtain ⟨u,z,_⟩:=(r.obj n _ a (List.getElem?_eq_getElem hj) e).there
 exact ⟨u,z⟩
theorem RH.tracked {h:AH}(r:RH K ρ h H) {n:Nat}{a:Addr}{o:O}(e:ρ[n]?=some a) (eo:h[n]?=some o) (nf:o.fz=false:=by rfl):∃ u,H a=some u/\Trk u:=by
 obtain ⟨u,z,q⟩:=(r.obj n _ a eo e).there
 exact ⟨u,z,q nf⟩
theorem RO.mono {o:O}{a:Addr}(p:Pre ρ ρ') (e:Ext K H H') (hs:H' a=H a) (r:RO K ρ H o a):RO K ρ' H' o a:=by
 cases o with
 | lst ds=>obtain ⟨xs,h1,h2⟩:=r;exact ⟨xs,hs.trans h1,h2.mono p e⟩
 | set ks=>exact hs.trans r
 | dct=>exact hs.trans r
 | dK kvs=>obtain ⟨vs,h1,h2⟩:=r;exact ⟨vs,hs.trans h1,h2.mono p e⟩
 | dF kvs=>obtain ⟨ob,vs,h1,h2⟩:=r;exact ⟨ob,vs,hs.trans h1,h2.mono p e⟩
 | exc c=>obtain ⟨C,h1,h2⟩:=r;exact ⟨C,h1,hs.trans h2⟩
theorem RH.other {h:AH}{p:Addr}{o:HO}(r:RH K ρ h H) (hp:H p=none):RH K ρ h (upd H p o) :=
 ⟨r.len,r.nd,fun n u a h1 h2=>(r.obj n u a h1 h2).mono (Pre.refl _) (Ext.upd (.inl hp)) (by
  obtain ⟨u,q⟩:=r.there h2
  exact z06 (z0g q hp))⟩
theorem RH.pushO {h:AH}{p:Addr}{o':O}{u:HO}(r:RH K ρ h H) (hp:H p=none) (hd:RO K (ρ++[p]) (upd H p u) o' p):RH K (ρ++[p]) (h++[o']) (upd H p u):=by
 have ne:∀ {n:Nat} {a:Addr},ρ[n]?=some a->a≠p:=fun e=>by
  obtain ⟨xs,q⟩:=r.there e
  exact z0g q hp
 have ext:Ext K H (L2.upd H p u):=Ext.upd (.inl hp)
 refine ⟨by simp [r.len],fun i j a h1 h2=>?_,fun n o a h1 h2=>?_⟩
 ·rw [List.getElem?_append] at h1 h2
  split at h1<;>split at h2
  ·exact r.nd i j a h1 h2
  ·rename_i hi hj
   rw [List.getElem?_singleton] at h2
   split at h2
   ·cases h2;exact absurd rfl (ne h1)
   ·cases h2
  ·rename_i hi hj
   rw [List.getElem?_singleton] at h1
   split at h1
   ·cases h1;exact absurd rfl (ne h2)
   ·cases h1
  ·rename_i hi hj
   rw [List.getElem?_singleton] at h1 h2
   split at h1
   ·split at h2
    ·omega
    ·cases h2
   ·cases h1
 ·rw [List.getElem?_append] at h1 h2
  rw [r.len] at h2
  split at h1
  ·rename_i hn
   rw [if_pos hn] at h2
   exact (r.obj n o a h1 h2).mono (Pre.app _ _) ext (z06 (ne h2))
  ·rename_i hn
   rw [if_neg hn] at h2
   rw [List.getElem?_singleton] at h1 h2
   split at h1
   ·rename_i h0
    rw [if_pos h0] at h2
    cases h1;cases h2
    exact hd
   ·cases h1
theorem RH.push {h:AH}{p:Addr}{ds:List D}{xs:List V}(r:RH K ρ h H) (hp:H p=none) (hd:RDs K ρ H ds xs):RH K (ρ++[p]) (h++[.lst ds]) (upd H p (.lst xs)) :=
 r.pushO hp ⟨xs,z0I,hd.mono (Pre.app _ _) (Ext.upd (.inl hp))⟩
theorem RH.setO {h:AH}{n:Nat}{a:Addr}{o0 o':O}{u:HO}(r:RH K ρ h H) (e:h[n]?=some o0) (ea:ρ[n]?=some a) (hd:RO K ρ (upd H a u) o' a) (nf:o0.fz=false:=by rfl):RH K ρ (h.set n o') (upd H a u):=by
 have ext:Ext K H (L2.upd H a u):=Ext.upd (.inr (r.tracked ea e nf))
 refine ⟨by simp [r.len],r.nd,fun m o b h1 h2=>?_⟩
 by_cases hm:m=n
 ·subst hm
  rw [ea] at h2;cases h2
  have hi:=(List.getElem?_eq_some_iff.mp e).1
  rw [List.getElem?_set_self hi] at h1
  cases h1
  exact hd
 ·rw [List.getElem?_set_ne (fun z=>hm z.symm)] at h1
  exact (r.obj m o b h1 h2).mono (Pre.refl _) ext (z06 fun z=>hm (r.nd m n b h2 (by rw [z];exact ea)))
theorem RH.set {h:AH}{n:Nat}{a:Addr}{ds0 ds:List D}{xs:List V}(r:RH K ρ h H) (e:h[n]?=some (.lst ds0)) (ea:ρ[n]?=some a) (hd:RDs K ρ H ds xs):RH K ρ (h.set n (.lst ds)) (upd H a (.lst xs)) :=
 r.setO e ea ⟨xs,z0I,hd.mono (Pre.refl _) (Ext.upd (.inr (r.tracked ea e)))⟩
structure RG (K:PySem.W.Frag) (ρ:List Addr) (H:Hp) (γ:G) (σ:L2.St):Prop where
 len:γ.length=σ.length
 var:∀ (i:Nat) d,γ[i]?=some (some d)->∃ v,σ[i]?=some (some v)/\RD K ρ H d v
theorem RG.mono {γ:G}{σ:L2.St}(p:Pre ρ ρ') (e:Ext K H H') (r:RG K ρ H γ σ):RG K ρ' H' γ σ :=
 ⟨r.len,fun i d h=>let ⟨v,h1,h2⟩:=r.var i d h;⟨v,h1,h2.mono p e⟩⟩
theorem RG.set {γ:G}{σ:L2.St}{d:D}{v:V}(r:RG K ρ H γ σ) (i:Nat) (hd:RD K ρ H d v):RG K ρ H (γ.set i (some d)) (σ.set i (some v)):=by
 refine ⟨by simp [r.len],fun j d' h=>?_⟩
 by_cases hj:i=j
 ·subst hj
  have hi:i<γ.length:=by
   have:=(List.getElem?_eq_some_iff.mp h).1
   simpa using this
  rw [List.getElem?_set_self hi] at h
  cases h
  exact ⟨v,List.getElem?_set_self (by rw [← r.len];exact hi),hd⟩
 ·rw [List.getElem?_set_ne hj] at h ⊢
  exact r.var j d' h
structure Rel (K:PySem.W.Frag) (ρ:List Addr) (γ:G) (h:AH) (σ:L2.St) (H:Hp):Prop where
 g:RG K ρ H γ σ
 h:RH K ρ h H
abbrev XX:=Exn->List Addr->AH->Hp->Prop
def Fin {α:Type} (K:PySem.W.Frag) (EX:XX) (ρ:List Addr) (H:Hp) (P:α->List Addr->AH->Hp->Prop):Res α->Prop
 | .ok a h'=>∀ ρ' H',Pre ρ ρ'->Ext K H H'->RH K ρ' h' H'->P a ρ' h' H'
 | .err x h'=>∀ ρ' H',Pre ρ ρ'->Ext K H H'->RH K ρ' h' H'->EX x ρ' h' H'
 | .bad=>False
variable {EX:XX}{α β:Type}
theorem Fin.up {P:α->List Addr->AH->Hp->Prop}{r:Res α}(p:Pre ρ ρ') (e:Ext K H H') (f:Fin K EX ρ H P r):Fin K EX ρ' H' P r:=by
 cases r with
 | ok a h=>exact fun ρ2 H2 p2 e2 r2=>f ρ2 H2 (p.trans p2) (e.trans e2) r2
 | err x h=>exact fun ρ2 H2 p2 e2 r2=>f ρ2 H2 (p.trans p2) (e.trans e2) r2
 | bad=>exact f
theorem Fin.mono {P P':α->List Addr->AH->Hp->Prop}{r:Res α}(f:Fin K EX ρ H P r) (h:∀ a ρ' h' H',Pre ρ ρ'->Ext K H H'->RH K ρ' h' H'->P a ρ' h' H'->P' a ρ' h' H'):Fin K EX ρ H P' r:=by
 cases r with
 | ok a h1=>exact fun ρ2 H2 p2 e2 r2=>h a ρ2 h1 H2 p2 e2 r2 (f ρ2 H2 p2 e2 r2)
 | err x h1=>exact f
 | bad=>exact f
theorem Fin.bind {P:β->List Addr->AH->Hp->Prop}{m:M α}{f:α->M β}{h:AH}(z:Fin K EX ρ H P ((m >>= f) h)):Fin K EX ρ H (fun a ρ1 h1 H1=>Fin K EX ρ1 H1 P (f a h1)) (m h):=by
 rw [M.bind_eq] at z
 cases e:m h with
 | ok a h1=>rw [e] at z;exact fun ρ2 H2 p2 e2 r2=>Fin.up p2 e2 z
 | err x h1=>rw [e] at z;exact z
 | bad=>rw [e] at z;exact z
end
def tE (K:PySem.W.Frag) (EX:XX) (m:G->M D):TE:=fun σ H Q=>∃ ρ γ h,Rel K ρ γ h σ H/\Fin K EX ρ H (fun d ρ' _ H'=>∀ v,RD K ρ' H' d v->Q v H') (m γ h)
def tT (K:PySem.W.Frag) (EX:XX) (m:G->M Bool):TT:=fun σ H Q=>∃ ρ γ h,Rel K ρ γ h σ H/\Fin K EX ρ H (fun b _ _ H'=>Q b H') (m γ h)
def tL (K:PySem.W.Frag) (EX:XX) (m:G->M (List D)):TA:=fun σ H Q=>∃ ρ γ h,Rel K ρ γ h σ H/\Fin K EX ρ H (fun ds ρ' _ H'=>∀ vs,RDs K ρ' H' ds vs->Q vs H') (m γ h)
inductive Out where
 | nx (γ:G) | rt (d:D) | bk (γ:G) | ct (γ:G)
def OutP (K:PySem.W.Frag) (D:Ends) (o:Out) (ρ:List Addr) (H:Hp):Prop:=match o with
 | .nx γ=>∀ σ,RG K ρ H γ σ->D.nx σ H
 | .rt d=>∀ v,RD K ρ H d v->D.rt v H
 | .bk γ=>∀ σ,RG K ρ H γ σ->D.bk σ H
 | .ct γ=>∀ σ,RG K ρ H γ σ->D.ct σ H
def tB (K:PySem.W.Frag) (EX:XX) (m:G->M Out):TS:=fun D σ H=>∃ ρ γ h,Rel K ρ γ h σ H/\Fin K EX ρ H (fun o ρ' _ H'=>OutP K D o ρ' H') (m γ h)
structure SE (X:Cx) (EX:XX) (e:Expr) (m:G->M D):Prop where
 h:PE X e (tE X.K EX m)
structure SC (X:Cx) (EX:XX) (e:Expr) (m:G->M Bool):Prop where
 h:PT X e (tT X.K EX m)
structure SA (X:Cx) (EX:XX) (es:List Expr) (m:G->M (List D)):Prop where
 h:PA X es (tL X.K EX m)
structure S1 (X:Cx) (EX:XX) (st:Stmt) (m:G->M Out):Prop where
 h:PS X st (tB X.K EX m)
structure SB (X:Cx) (EX:XX) (st:List Stmt) (m:G->M Out):Prop where
 h:PSs X st (tB X.K EX m)
theorem PE.imp {X:Cx}{e:Expr}{t t':TE}(h:PE X e t) (f:∀ σ H Q,t' σ H Q->t σ H Q):PE X e t':=fun pins s σ H Q I z=>h pins s σ H Q I (f σ H Q z)
theorem PT.imp {X:Cx}{e:Expr}{t t':TT}(h:PT X e t) (f:∀ σ H Q,t' σ H Q->t σ H Q):PT X e t':=fun pins s σ H Q I z=>h pins s σ H Q I (f σ H Q z)
theorem PA.imp {X:Cx}{e:List Expr}{t t':TA}(h:PA X e t) (f:∀ σ H Q,t' σ H Q->t σ H Q):PA X e t':=fun pos pins s σ H Q I z=>h pos pins s σ H Q I (f σ H Q z)
theorem PS.imp {X:Cx}{e:Stmt}{t t':TS}(h:PS X e t) (f:∀ σ H Q,t' Q σ H->t Q σ H):PS X e t':=fun pins s σ H Q I z=>h pins s σ H Q I (f σ H Q z)
theorem PSs.imp {X:Cx}{e:List Stmt}{t t':TS}(h:PSs X e t) (f:∀ σ H Q,t' Q σ H->t Q σ H):PSs X e t':=fun pins s σ H Q I z=>h pins s σ H Q I (f σ H Q z)
abbrev FE (K:PySem.W.Frag) (EX:XX) (ρ:List Addr) (H:Hp) (Q:VK) (r:Res D):Prop:=Fin K EX ρ H (fun d ρ' _ H'=>∀ v,RD K ρ' H' d v->Q v H') r
theorem FE.here {K:PySem.W.Frag}{EX:XX}{ρ:List Addr}{H:Hp}{Q:VK}{d:D}{h:AH}{v:V}(f:FE K EX ρ H Q (.ok d h)) (r:RH K ρ h H) (rd:RD K ρ H d v):Q v H:=f ρ H (Pre.refl _) (Ext.refl _ _) r v rd
theorem FE.tup {K:PySem.W.Frag}{EX:XX}{ρ:List Addr}{H:Hp}{Q:VK}{ds:List D}{xs:List V}{h:AH}{p:Addr}(f:FE K EX ρ H Q (.ok (.tup ds) h)) (r:RH K ρ h H) (hd:RDs K ρ H ds xs) (hp:H p=none):Q (.ref p) (upd H p (.tup xs)):=by
 have e:Ext K H (L2.upd H p (.tup xs)):=Ext.upd (.inl hp)
 refine f ρ _ (Pre.refl _) e (r.other hp) _ ?_
 simp only [RD]
 exact ⟨p,xs,rfl,SqT.of z0I,hd.mono (Pre.refl _) e⟩
theorem FE.lst {K:PySem.W.Frag}{EX:XX}{ρ:List Addr}{H:Hp}{Q:VK}{ds:List D}{xs:List V}{h:AH}{p:Addr}(f:FE K EX ρ H Q (.ok (.ref h.length) (h++[.lst ds]))) (r:RH K ρ h H) (hd:RDs K ρ H ds xs) (hp:H p=none):Q (.ref p) (upd H p (.lst xs)):=by
 refine f (ρ++[p]) _ (Pre.app _ _) (Ext.upd (.inl hp)) (r.push hp hd) _ ?_
 simp only [RD]
 refine ⟨p,rfl,?_⟩
 rw [← r.len];simp
def getL (n:Nat):M (List D):=fun h=>match h[n]? with
 | some (.lst xs)=>.ok xs h
 | _=>.bad
def newL (xs:List D):M D:=fun h=>if xs.length≤sizeLine then .ok (.ref h.length) (h++[.lst xs]) else .bad
section
variable {X:Cx}{EX:XX}{a b c e:Expr}{pos:Pos}{ma mb mc:G->M D}
def eVar (i:Nat):G->M D:=fun γ=>match γ[i]? with
 | some (some d)=>pure d
 | _=>bad
theorem z3 (i:Nat) {x:Str}(hN:X.N[i]?=some x:=by rfl) (hv:Vis X.env.scope x:=by first | exact Or.inl rfl | exact Or.inr (Or.inl rfl) | exact Or.inr (Or.inr rfl))
 (hd:(x == ("__debug__":Str))=false:=by decide) (hcd:(x == ("__classdict__":Str))=false:=by decide):SE X EX (.Name x pos) (eVar i) :=
 ⟨PE.imp (zm2 hN hv hd hcd) fun σ H Q ⟨ρ,γ,h,rel,f⟩=>by
  have f':FE X.K EX ρ H Q (eVar i γ h):=f
  unfold eVar at f'
  cases e:γ[i]? with
  | none=>rw [e] at f';exact f'.elim
  | some o=>cases o with
   | none=>rw [e] at f';exact f'.elim
   | some d =>
    rw [e] at f'
    obtain ⟨v,h1,h2⟩:=rel.g.var i d e
    exact ⟨v,h1,FE.here f' rel.h h2⟩⟩
theorem z33 {d:D}{v:V}(h:PE X e (tC v)) (r:∀ ρ H,RD X.K ρ H d v):SE X EX e (fun _=>pure d) :=
 ⟨PE.imp h fun σ H Q ⟨ρ,γ,h,rel,f⟩=>FE.here f rel.h (r ρ H)⟩
theorem Z3 {i:Int}{j:Nat}:SE X EX (.Constant (.int i) j pos) (fun _=>pure (.int i)):=z33 zp9 fun _ _=>by simp [RD]
theorem z0E {i:Bool}{j:Nat}:SE X EX (.Constant (.bool i) j pos) (fun _=>pure (.bl i)):=z33 zA2 fun _ _=>by simp [RD]
theorem z3Y {j:Nat}:SE X EX (.Constant .none j pos) (fun _=>pure .non):=z33 zw3 fun _ _=>by simp [RD]
theorem j8 {i:Str}{j:Nat}:SE X EX (.Constant (.str i) j pos) (fun _=>pure (.str i)):=z33 zu7 fun _ _=>by simp [RD]
theorem zj0 {x:Str}{d:D}{v:V}{u:Value}(hg:Gl X x) (hm:X.mg x=some u) (r:RelV v u) (hr:∀ ρ H,RD X.K ρ H d v) (hd:(x == ("__debug__":Str))=false:=by decide):SE X EX (.Name x pos) (fun _=>pure d) :=
 z33 (zd7 hg hm r hd) hr
def BR (K:PySem.W.Frag) (EX:XX) (r:R2) (f:D->D->M D):Prop:=∀ ρ h H x y v u Q,RH K ρ h H->RD K ρ H x v->RD K ρ H y u->FE K EX ρ H Q (f x y h)->r v u H Q
def e2 (f:D->D->M D) (ma mb:G->M D):G->M D:=fun γ=>do
 let x ← ma γ
 let y ← mb γ
 f x y
theorem z8o {r:R2}{f:D->D->M D}{ta tb:TE}(h:PE X e (tOp r (tE X.K EX ma) (tE X.K EX mb))) (hr:BR X.K EX r f):SE X EX e (e2 f ma mb) :=
 ⟨PE.imp h fun σ H Q ⟨ρ,γ,h,rel,fin⟩=>⟨ρ,γ,h,rel,(Fin.bind fin).mono fun x ρ1 h1 H1 p1 e1 r1 f1 v rv=>⟨ρ1,γ,h1,⟨rel.g.mono p1 e1,r1⟩,(Fin.bind f1).mono fun y ρ2 h2 H2 p2 e2 r2 f2 u ru =>
  hr ρ2 h2 H2 x y v u Q r2 (rv.mono p2 e2) ru f2⟩⟩⟩
theorem z6L {op:Operator}{r:R2}{f:D->D->M D}(ho:OpR X (binaryOp op) r) (hr:BR X.K EX r f) (ha:SE X EX a ma) (hb:SE X EX b mb):SE X EX (.BinOp a op b pos) (e2 f ma mb) :=
 z8o (ta:=tE X.K EX ma) (tb:=tE X.K EX mb) (zA0 ho ha.h hb.h) hr
theorem zt3 {op:CmpOp}{r:R2}{f:D->D->M D}(ho:OpR X (compareOp op) r) (hr:BR X.K EX r f) (ha:SE X EX a ma) (hb:SE X EX b mb) (hm:behindInMarks op b=false):SE X EX (.Compare a [op] [b] pos) (e2 f ma mb) :=
 z8o (ta:=tE X.K EX ma) (tb:=tE X.K EX mb) (zd9 ho ha.h hb.h hm) hr
def fI (g:Int->Int->D):D->D->M D
 | .int i,.int j=>pure (g i j)
 | _,_=>bad
theorem zh0 {K:PySem.W.Frag}{g:Int->Int->D}{g':Int->Int->V}(hg:∀ i j ρ H,RD K ρ H (g i j) (g' i j)):BR K EX (rI0 g') (fI g):=by
 intro ρ h H x y v u Q r rx ry fin
 unfold fI at fin
 split at fin
 ·simp only [RD] at rx ry
  subst rx;subst ry
  exact ⟨_,_,rfl,rfl,FE.here fin r (hg _ _ _ _)⟩
 ·exact fin.elim
def fIC (C:Int->Int->Bool) (g:Int->Int->D):D->D->M D
 | .int i,.int j=>if C i j then pure (g i j) else bad
 | _,_=>bad
theorem zh5 {K:PySem.W.Frag}{C:Int->Int->Bool}{C':Int->Int->Prop}{g:Int->Int->D}{g':Int->Int->V}(hc:∀ i j,C i j=true->C' i j) (hg:∀ i j ρ H,RD K ρ H (g i j) (g' i j)):BR K EX (rI C' g') (fIC C g):=by
 intro ρ h H x y v u Q r rx ry fin
 unfold fIC at fin
 split at fin
 ·simp only [RD] at rx ry
  subst rx;subst ry
  split at fin
  ·rename_i hC
   exact ⟨_,_,rfl,rfl,hc _ _ hC,FE.here fin r (hg _ _ _ _)⟩
  ·exact fin.elim
 ·exact fin.elim
def fSub:=fI fun i j=>.int (i - j)
def fDiv:=fIC (fun _ j=>decide (0<j) && decide (j<1073741824)) fun i j=>.int (i / j)
def fMod:=fIC (fun _ j=>decide (0<j)) fun i j=>.int (i % j)
def fPow:=fIC (fun i j=>decide (0≤j) && decide (j≤1000) && decide (-(2 ^ 64)<i) && decide (i<2 ^ 64)) fun i j=>.int (i ^ j.toNat)
theorem z1B (ha:SE X EX a ma) (hb:SE X EX b mb):SE X EX (.BinOp a .Sub b pos) (e2 fSub ma mb):=z6L zu3 (zh0 fun i j ρ H=>by simp [RD]) ha hb
theorem z6D (ha:SE X EX a ma) (hb:SE X EX b mb):SE X EX (.BinOp a .FloorDiv b pos) (e2 fDiv ma mb):=z6L zb4 (zh5 (fun i j h=>by simp at h;exact h) fun i j ρ H=>by simp [RD]) ha hb
theorem z2m (ha:SE X EX a ma) (hb:SE X EX b mb):SE X EX (.BinOp a .Mod b pos) (e2 fMod ma mb):=z6L zv2 (zh5 (fun i j h=>by simpa using h) fun i j ρ H=>by simp [RD]) ha hb
theorem z8h (ha:SE X EX a ma) (hb:SE X EX b mb):SE X EX (.BinOp a .Pow b pos) (e2 fPow ma mb):=z6L zn6 (zh5 (fun i j h=>by
 simp at h
 refine ⟨h.1.1.1,by omega,?_⟩
 have h1:=h.1.2
 have h2:=h.2
 omega) fun i j ρ H=>by simp [RD]) ha hb
def fAdd:D->D->M D
 | .int i,.int j=>pure (.int (i+j))
 | .str i,.str j=>if i.length+j.length≤sizeLine then pure (.str (i++j)) else bad
 | .ref i,.ref j=>do
  let x ← getL i
  let y ← getL j
  newL (x++y)
 | .tup x,.tup y=>if !decide (x.length+y.length≤sizeLine) then bad else pure (.tup (x++y))
 | _,_=>bad
theorem z27 {n:Nat}{h h1:AH}{xs:List D}(e:getL n h=.ok xs h1):h1=h/\h[n]?=some (.lst xs):=by
 unfold getL at e
 split at e
 ·rename_i q;cases e;exact ⟨rfl,q⟩
 ·cases e
theorem z2d {n:Nat}{h h1:AH}{x:Exn}(e:getL n h=.err x h1):False:=by
 unfold getL at e
 split at e<;>cases e
def zc0 (K:PySem.W.Frag):R2:=fun x y H Q=>∃ a b ys,x=.ref a/\y=.ref b/\SqT K H a []/\SqT K H b ys/\Q (.ref b) H
theorem zk3:OpR X (binaryOp .Add) (zc0 X.K):=by
 intro pins s σ H x y v u Q I rx ry h
 obtain ⟨a,b,ys,rfl,rfl,ha,hb,q⟩:=h
 cases rx
 cases ry
 obtain ⟨its,r1,p1,_⟩:=I.tuple ha
 obtain ⟨its2,r2,p2,_⟩:=I.tuple hb
 have e:its=[]:=(r1.nil_iff).mpr rfl
 subst e
 obtain ⟨⟨cls,dd,data,sl⟩,ho,hc,n,hd⟩:=id p1
 obtain ⟨⟨cls2,dd2,data2,sl2⟩,ho2,hc2,n2,hd2⟩:=id p2
 simp only at hc hd hc2 hd2
 subst hc hd hc2 hd2
 exact concat_meets ⟨_,ho,rfl⟩ ⟨_,ho2,rfl⟩ noFill_tuple_add seq_tuple_add PySem.F.slot_tuple_add PySem.F.entry_tuple_add (PySem.F.args_tuple_add_2 _ _) (tuple_addW0 a b _ _ n n2 dd dd2 sl sl2 rfl) ⟨ho,ho2,.ref b,H,I,rfl,q⟩
theorem ze1:OpR X (binaryOp .Add) (fun x y H Q=>rI0 (fun i j=>.int (i+j)) x y H Q∨(∃ i j,x=.str i/\y=.str j/\i.length+j.length≤sizeLine/\Q (.str (i++j)) H)∨rCat x y H Q∨zh9 X.K x y H Q∨zc0 X.K x y H Q) :=
 op_add.or (op_add_str.or (op_cat.or (op_catT.or zk3)))
theorem ze6:BR X.K EX (fun x y H Q=>rI0 (fun i j=>.int (i+j)) x y H Q∨(∃ i j,x=.str i/\y=.str j/\i.length+j.length≤sizeLine/\Q (.str (i++j)) H)∨rCat x y H Q∨zh9 X.K x y H Q∨zc0 X.K x y H Q) fAdd:=by
 intro ρ h H x y v u Q r rx ry fin
 unfold fAdd at fin
 split at fin
 ·simp only [RD] at rx ry;subst rx;subst ry
  exact .inl ⟨_,_,rfl,rfl,FE.here fin r (by simp [RD])⟩
 ·simp only [RD] at rx ry;subst rx;subst ry
  split at fin
  ·rename_i hl
   exact .inr (.inl ⟨_,_,rfl,rfl,hl,FE.here fin r (by simp [RD])⟩)
  ·exact fin.elim
 ·rename_i i j
  simp only [RD] at rx ry
  obtain ⟨ai,rfl,hi⟩:=rx
  obtain ⟨aj,rfl,hj⟩:=ry
  have f1:=Fin.bind fin
  cases e:getL i h with
  | bad=>rw [e] at f1;exact f1.elim
  | err z hz=>exact (z2d e).elim
  | ok xs h1 =>
   obtain ⟨rfl,q1⟩:=z27 e
   rw [e] at f1
   have f2:=Fin.bind (f1 ρ H (Pre.refl _) (Ext.refl _ _) r)
   cases e3:getL j h1 with
   | bad=>rw [e3] at f2;exact f2.elim
   | err z hz=>exact (z2d e3).elim
   | ok ys h2 =>
    obtain ⟨rfl,q2⟩:=z27 e3
    rw [e3] at f2
    have f3:=f2 ρ H (Pre.refl _) (Ext.refl _ _) r
    dsimp only at f3
    unfold newL at f3
    split at f3
    ·rename_i hl
     obtain ⟨a1,n1,xs1,o1,d1⟩:=r.at q1
     obtain ⟨a2,n2,xs2,o2,d2⟩:=r.at q2
     rw [hi] at n1;cases n1
     rw [hj] at n2;cases n2
     refine .inr (.inr (.inl ⟨_,_,_,_,rfl,rfl,o1,o2,?_,fun p hp=>FE.lst f3 r (d1.append d2) hp⟩))
     rw [← d1.length,← d2.length,← List.length_append];exact hl
    ·exact f3.elim
 ·rename_i x y
  simp only [RD] at rx ry
  obtain ⟨ax,xs,rfl,hx,dx⟩:=rx
  obtain ⟨ay,ys,rfl,hy,dy⟩:=ry
  split at fin
  ·exact fin.elim
  ·rename_i hc
   simp at hc
   have l1:=dx.length
   have l2:=dy.length
   by_cases hxe:xs=[]
   ·subst hxe
    have xe:x=[]:=by simpa using l1
    subst xe
    refine .inr (.inr (.inr (.inr ⟨ax,ay,ys,rfl,rfl,hx,hy,FE.here fin r ?_⟩)))
    simp only [RD]
    exact ⟨ay,ys,rfl,hy,by simpa using dy⟩
   refine .inr (.inr (.inr (.inl ⟨ax,ay,xs,ys,rfl,rfl,hx,hy,hxe,by omega,fun e=>?_,fun e p hp=>FE.tup fin r (dx.append dy) hp⟩)))
   ·subst e
    refine FE.here fin r ?_
    simp only [RD]
    have:y=[]:=by simpa using l2
    subst this
    exact ⟨ax,xs,rfl,hx,by simpa using dx⟩
 ·exact fin.elim
theorem x9 (ha:SE X EX a ma) (hb:SE X EX b mb):SE X EX (.BinOp a .Add b pos) (e2 fAdd ma mb):=z6L ze1 ze6 ha hb
def fMul:D->D->M D
 | .int i,.int j=>if (decide (-(2 ^ 64)<i) && decide (i<2 ^ 64)) || (decide (-(2 ^ 64)<j) && decide (j<2 ^ 64)) then pure (.int (i * j)) else bad
 | .ref i,.int j=>do
  let x ← getL i
  if decide (-(2 ^ 63)≤j) && decide (j<2 ^ 63) then newL (List.replicate j.toNat x).flatten else bad
 | _,_=>bad
theorem zm1:BR X.K EX (fun x y H Q=>rI CMul (fun i j=>.int (i * j)) x y H Q∨rRep x y H Q) fMul:=by
 intro ρ h H x y v u Q r rx ry fin
 unfold fMul at fin
 split at fin
 ·simp only [RD] at rx ry;subst rx;subst ry
  split at fin
  ·rename_i hc
   refine .inl ⟨_,_,rfl,rfl,?_,FE.here fin r (by simp [RD])⟩
   simp only [Bool.or_eq_true,Bool.and_eq_true,decide_eq_true_eq] at hc
   exact hc
  ·exact fin.elim
 ·rename_i i j
  simp only [RD] at rx ry
  obtain ⟨ai,rfl,hi⟩:=rx
  subst ry
  have f1:=Fin.bind fin
  cases e:getL i h with
  | bad=>rw [e] at f1;exact f1.elim
  | err z hz=>exact (z2d e).elim
  | ok xs h1 =>
   obtain ⟨rfl,q1⟩:=z27 e
   rw [e] at f1
   have f2:=f1 ρ H (Pre.refl _) (Ext.refl _ _) r
   dsimp only at f2
   split at f2
   ·rename_i hb
    simp only [Bool.and_eq_true,decide_eq_true_eq] at hb
    unfold newL at f2
    split at f2
    ·rename_i hl
     obtain ⟨a1,n1,xs1,o1,d1⟩:=r.at q1
     rw [hi] at n1;cases n1
     refine .inr ⟨_,_,_,rfl,rfl,o1,hb.1,hb.2,?_,fun p hp=>FE.lst f2 r (d1.flat j.toNat) hp⟩
     rw [L2.len_rep,d1.length] at hl
     rw [Nat.mul_comm];exact hl
    ·exact f2.elim
   ·exact f2.elim
 ·exact fin.elim
def fCmp (g:Int->Int->Bool):D->D->M D:=fI fun i j=>.bl (g i j)
def fLt:D->D->M D
 | .int i,.int j=>pure (.bl (decide (i<j)))
 | .str i,.str j=>pure (.bl (decide (i.cps.toList<j.cps.toList)))
 | _,_=>bad
def fLe:D->D->M D
 | .int i,.int j=>pure (.bl (decide (i≤j)))
 | .str i,.str j=>pure (.bl (!decide (j.cps.toList<i.cps.toList)))
 | _,_=>bad
def fGt:D->D->M D:=fCmp fun i j=>decide (j<i)
def fGe:D->D->M D:=fCmp fun i j=>decide (j≤i)
theorem z8f:OpR X (compareOp .LtE) (fun x y H Q=>∃ i j,x=.str i/\y=.str j/\Q (.bl (!decide (j.cps.toList<i.cps.toList))) H):=by
 intro pins s σ H x y v u Q I rx ry h
 obtain ⟨i,j,rfl,rfl,q⟩:=h
 obtain ⟨t,rfl⟩:=rx
 obtain ⟨t',rfl⟩:=ry
 exact PySem.P.le_str ⟨.bl _,H,I,rfl,q⟩
theorem zB1 {K:PySem.W.Frag}:BR K EX (fun x y H Q=>rI0 (fun i j=>.bl (decide (i<j))) x y H Q∨∃ i j,x=.str i/\y=.str j/\Q (.bl (decide (i.cps.toList<j.cps.toList))) H) fLt:=by
 intro ρ h H x y v u Q r rx ry fin
 unfold fLt at fin
 split at fin
 ·simp only [RD] at rx ry;subst rx;subst ry
  exact .inl ⟨_,_,rfl,rfl,FE.here fin r (by simp [RD])⟩
 ·simp only [RD] at rx ry;subst rx;subst ry
  exact .inr ⟨_,_,rfl,rfl,FE.here fin r (by simp [RD])⟩
 ·exact fin.elim
theorem zy3 {K:PySem.W.Frag}:BR K EX (fun x y H Q=>rI0 (fun i j=>.bl (decide (i≤j))) x y H Q∨∃ i j,x=.str i/\y=.str j/\Q (.bl (!decide (j.cps.toList<i.cps.toList))) H) fLe:=by
 intro ρ h H x y v u Q r rx ry fin
 unfold fLe at fin
 split at fin
 ·simp only [RD] at rx ry;subst rx;subst ry
  exact .inl ⟨_,_,rfl,rfl,FE.here fin r (by simp [RD])⟩
 ·simp only [RD] at rx ry;subst rx;subst ry
  exact .inr ⟨_,_,rfl,rfl,FE.here fin r (by simp [RD])⟩
 ·exact fin.elim
def eqD:D->D->Option Bool
 | .int i,.int j=>some (decide (i=j))
 | .str i,.str j=>some (decide (i=j))
 | .bl i,.bl j=>some (decide (i=j))
 | .non,.non=>some true
 | .int _,.str _=>some false
 | .str _,.int _=>some false
 | .non,.int _=>some false
 | .int _,.non=>some false
 | .non,.str _=>some false
 | .str _,.non=>some false
 | _,_=>none
def fEq (neg:Bool):D->D->M D:=fun x y=>match eqD x y with
 | some b=>pure (.bl (b != neg))
 | none=>bad
theorem z7E {K:PySem.W.Frag}{ρ:List Addr}{H:Hp}{x y:D}{v u:V}{k:Bool}(e:eqD x y=some k) (rx:RD K ρ H x v) (ry:RD K ρ H y u):scal v u=true/\decide (v=u)=k:=by
 cases x<;>cases y<;>first
  | (have e':none=some k:=e
     exact nomatch e')
  | (simp only [eqD] at e
     simp only [RD] at rx ry
     subst rx
     subst ry
     cases e
     exact ⟨rfl,by simp⟩)
theorem zx1 {K:PySem.W.Frag}:BR K EX rEq (fEq false):=by
 intro ρ h H x y v u Q r rx ry fin
 unfold fEq at fin
 cases hk:eqD x y with
 | none=>rw [hk] at fin;exact fin.elim
 | some k =>
  rw [hk] at fin
  obtain ⟨h1,h2⟩:=z7E hk rx ry
  refine ⟨h1,?_⟩
  rw [h2]
  refine FE.here fin r ?_
  cases k<;>simp [RD]
theorem zA5 {K:PySem.W.Frag}:BR K EX rNe (fEq true):=by
 intro ρ h H x y v u Q r rx ry fin
 unfold fEq at fin
 cases hk:eqD x y with
 | none=>rw [hk] at fin;exact fin.elim
 | some k =>
  rw [hk] at fin
  obtain ⟨h1,h2⟩:=z7E hk rx ry
  refine ⟨h1,?_⟩
  rw [h2]
  refine FE.here fin r ?_
  cases k<;>simp [RD]
def z1j:D->Bool
 | .non=>true
 | .bl _=>true
 | .int _=>true
 | .str _=>true
 | _=>false
def eqF:D->D->Bool
 | .non,.non=>true
 | .bl a,.bl b=>a == b
 | .bl a,.int b=>(if a then 1 else 0) == b
 | .int a,.bl b=>a == (if b then 1 else 0)
 | .int a,.int b=>a == b
 | .str a,.str b=>a == b
 | _,_=>false
def seqD:D->M (List D)
 | .tup xs=>pure xs
 | .fl xs=>pure xs
 | .ref n=>getL n
 | _=>bad
def fIn (neg:Bool):D->D->M D:=fun x y=>do
 let ys ← seqD y
 if z1j x && ys.all z1j then pure (.bl ((ys.any fun z=>eqF z x) != neg)) else bad
theorem z5X {K:PySem.W.Frag}{ρ:List Addr}{H:Hp}{x:D}{v:V}(f:z1j x=true) (r:RD K ρ H x v):z3N v=true:=by
 cases x<;>simp only [RD] at r<;>first | (subst r;rfl) | cases f
theorem zi9 {K:PySem.W.Frag}{ρ:List Addr}{H:Hp}{x y:D}{v u:V}(f:z1j x=true) (f':z1j y=true) (r:RD K ρ H x v) (r':RD K ρ H y u):eqV v u=eqF x y:=by
 cases x with
 | non=>simp only [RD] at r;subst r;cases y<;>first | (simp only [RD] at r';subst r';rfl) | cases f'
 | bl b=>simp only [RD] at r;subst r;cases y<;>first | (simp only [RD] at r';subst r';rfl) | cases f'
 | int b=>simp only [RD] at r;subst r;cases y<;>first | (simp only [RD] at r';subst r';rfl) | cases f'
 | str b=>simp only [RD] at r;subst r;cases y<;>first | (simp only [RD] at r';subst r';rfl) | cases f'
 | tup b=>cases f
 | fl b=>cases f
 | ref b=>cases f
theorem z4V {K:PySem.W.Frag}{ρ:List Addr}{H:Hp}:∀ {xs:List D}{vs:List V},RDs K ρ H xs vs->xs.all z1j=true->vs.all z3N=true
 | [],vs,r,_=>by simp only [RDs] at r;subst r;rfl
 | x :: xs,vs,r,f=>by
  simp only [RDs] at r
  obtain ⟨v,r2,rfl,h1,h2⟩:=r
  rw [List.all_cons,Bool.and_eq_true] at f ⊢
  exact ⟨z5X f.1 h1,z4V h2 f.2⟩
theorem z8i {K:PySem.W.Frag}{ρ:List Addr}{H:Hp}{x:D}{v:V}(f:z1j x=true) (r:RD K ρ H x v):∀ {xs:List D}{vs:List V},RDs K ρ H xs vs->xs.all z1j=true->(vs.any fun y=>eqV y v)=xs.any fun z=>eqF z x
 | [],vs,rs,_=>by simp only [RDs] at rs;subst rs;rfl
 | y :: xs,vs,rs,fs=>by
  simp only [RDs] at rs
  obtain ⟨u,r2,rfl,h1,h2⟩:=rs
  rw [List.all_cons,Bool.and_eq_true] at fs
  rw [List.any_cons,List.any_cons,zi9 fs.1 f h1 r,z8i f r h2 fs.2]
theorem z35 {K:PySem.W.Frag}{ρ:List Addr}{h h1:AH}{H:Hp}{y:D}{u:V}{ys:List D}(r:RH K ρ h H) (ry:RD K ρ H y u) (e:seqD y h=.ok ys h1):h1=h/\∃ p xs,u=.ref p/\(SqL K H p xs∨SqT K H p xs)/\RDs K ρ H ys xs:=by
 unfold seqD at e
 split at e
 ·cases e;simp only [RD] at ry;obtain ⟨p,xs,rfl,h2,h3⟩:=ry;exact ⟨rfl,p,xs,rfl,.inr h2,h3⟩
 ·cases e;simp only [RD] at ry;obtain ⟨p,xs,rfl,h2,h3⟩:=ry;exact ⟨rfl,p,xs,rfl,.inl h2.sq,h3⟩
 ·obtain ⟨rfl,q⟩:=z27 e
  simp only [RD] at ry;obtain ⟨p,rfl,h2⟩:=ry
  obtain ⟨a,n1,xs,o1,d1⟩:=r.at q
  rw [h2] at n1;cases n1
  exact ⟨rfl,p,xs,rfl,.inl (SqL.of o1),d1⟩
 ·cases e
theorem z3C {y:D}{h h1:AH}{x:Exn}(e:seqD y h=.err x h1):False:=by
 unfold seqD at e
 split at e
 ·cases e
 ·cases e
 ·exact z2d e
 ·cases e
theorem zw1 {K:PySem.W.Frag}{neg:Bool}:BR K EX (rIn K neg) (fIn neg):=by
 intro ρ h H x y v u Q r rx ry fin
 have f1:=Fin.bind fin
 cases e:seqD y h with
 | bad=>rw [e] at f1;exact f1.elim
 | err z hz=>exact (z3C e).elim
 | ok ys h1 =>
  obtain ⟨rfl,p,xs,rfl,hs,hd⟩:=z35 r ry e
  rw [e] at f1
  have f2:=f1 ρ H (Pre.refl _) (Ext.refl _ _) r
  dsimp only at f2
  split at f2
  ·rename_i hc
   rw [Bool.and_eq_true] at hc
   refine ⟨p,xs,rfl,hs,z5X hc.1 rx,z4V hd hc.2,?_⟩
   refine FE.here f2 r ?_
   unfold inV
   rw [z8i hc.1 rx hd hc.2]
   cases neg<;>simp [RD]
  ·exact f2.elim
end
section
variable {env:Env}{es:List Expr}
theorem z5D {c k p}:starEach (.Constant c k p :: es) env=(false,eval (.Constant c k p) env) :: starEach es env:=rfl
theorem zd2 {c p}:starEach (.Name c p :: es) env=(false,eval (.Name c p) env) :: starEach es env:=rfl
theorem zj3 {a b c p}:starEach (.Call a b c p :: es) env=(false,eval (.Call a b c p) env) :: starEach es env:=rfl
theorem z97 {a b c p}:starEach (.BinOp a b c p :: es) env=(false,eval (.BinOp a b c p) env) :: starEach es env:=rfl
theorem z6O {a b c p}:starEach (.Compare a b c p :: es) env=(false,eval (.Compare a b c p) env) :: starEach es env:=rfl
theorem z56 {a b p}:starEach (.Subscript a b p :: es) env=(false,eval (.Subscript a b p) env) :: starEach es env:=rfl
theorem z9h {a b p}:starEach (.Tuple a b p :: es) env=(false,eval (.Tuple a b p) env) :: starEach es env:=rfl
theorem zf2 {a p}:starEach (.List a p :: es) env=(false,eval (.List a p) env) :: starEach es env:=rfl
theorem z6T {a b p}:starEach (.UnaryOp a b p :: es) env=(false,eval (.UnaryOp a b p) env) :: starEach es env:=rfl
theorem z5r {a b c p}:starEach (.ListComp a b c p :: es) env=(false,eval (.ListComp a b c p) env) :: starEach es env:=rfl
end
section
variable {X:Cx}{EX:XX}{a b c e:Expr}{pos:Pos}{ma mb mc:G->M D}
def CO (X:Cx) (EX:XX) (op:CmpOp) (f:D->D->M D):Prop:=∃ r,OpR X (compareOp op) r/\BR X.K EX r f
theorem z4N:CO X EX .Lt fLt:=⟨_,op_lt.or z7Y,zB1⟩
theorem z5I:CO X EX .LtE fLe:=⟨_,op_le.or z8f,zy3⟩
theorem z5F:CO X EX .Gt fGt:=⟨_,zx4,zh0 fun i j ρ H=>by simp [RD]⟩
theorem z7y:CO X EX .GtE fGe:=⟨_,zB9,zh0 fun i j ρ H=>by simp [RD]⟩
theorem z0k:CO X EX .Eq (fEq false):=⟨_,zA6,zx1⟩
theorem zf5:CO X EX .NotEq (fEq true):=⟨_,zz5,zA5⟩
theorem z2F:CO X EX .In (fIn false):=⟨_,z7S,zw1⟩
theorem z3p:CO X EX .NotIn (fIn true):=⟨_,z5b,zw1⟩
def fIs (neg:Bool):D->D->M D:=fun x y=>match y with
 | .non=>(match x with
  | .non=>pure (.bl (true != neg))
  | .bl _=>pure (.bl (false != neg))
  | .int _=>pure (.bl (false != neg))
  | .str _=>pure (.bl (false != neg))
  | .tup _=>pure (.bl (false != neg))
  | .ref _=>pure (.bl (false != neg))
  | .fl _=>pure (.bl (false != neg)))
 | .bl k=>(match x with
  | .bl j=>pure (.bl ((j == k) != neg))
  | .non=>pure (.bl (false != neg))
  | .int _=>pure (.bl (false != neg))
  | .str _=>pure (.bl (false != neg))
  | .tup _=>pure (.bl (false != neg))
  | .ref _=>pure (.bl (false != neg))
  | .fl _=>pure (.bl (false != neg)))
 | _=>bad
theorem z61 (neg:Bool):OpR X (compareOp (if neg then .IsNot else .Is)) (fun x y H Q=>(y=.non/\Q (.bl ((decide (x=.non)) != neg)) H)∨∃ k,y=.bl k/\Q (.bl ((decide (x=.bl k)) != neg)) H):=by
 intro pins s σ H x y v u Q I rx ry h
 have pl:∀ {a b:Value},plainIs a b=true->EP X pins σ Q (.bool ((a == b) != neg)) s->wpAny (model X.prog X.w) X.A (compareOp (if neg then .IsNot else .Is) a b) (EP X pins σ Q) X.xe s:=fun {a b} hp hq=>by
  cases neg with
  | false=>exact wpAny_is_plain hp (by simpa using hq)
  | true=>exact wpAny_isNot_plain hp (by simpa using hq)
 rcases h with ⟨rfl,q⟩ | ⟨k,rfl,q⟩
 ·cases ry
  have fin:∀ {a:Value} {w:Bool},w=decide (x=.non)->(a == Value.none)=w->EP X pins σ Q (.bool ((a == Value.none) != neg)) s:=fun {a w} e1 e2=>by
   rw [e2,e1];exact ⟨.bl _,H,I,rfl,q⟩
  cases x with
  | non=>cases rx;exact pl rfl (fin (w:=true) (by simp) rfl)
  | bl j=>cases rx;exact pl rfl (fin (w:=false) (by simp) rfl)
  | int j=>obtain ⟨t,rfl⟩:=rx;exact pl rfl (fin (w:=false) (by simp) rfl)
  | str j=>obtain ⟨t,rfl⟩:=rx;exact pl rfl (fin (w:=false) (by simp) rfl)
  | byt j=>obtain ⟨t,rfl⟩:=rx;exact pl rfl (fin (w:=false) (by simp) rfl)
  | flt j=>obtain ⟨t,rfl⟩:=rx;exact pl rfl (fin (w:=false) (by simp) rfl)
  | ref j=>cases rx;exact pl rfl (fin (w:=false) (by simp) rfl)
  | ty j=>cases rx;exact pl rfl (fin (w:=false) (by simp) rfl)
 ·cases ry
  have fin:∀ {a:Value} {w:Bool},w=decide (x=.bl k)->(a == Value.bool k)=w->EP X pins σ Q (.bool ((a == Value.bool k) != neg)) s:=fun {a w} e1 e2=>by
   rw [e2,e1];exact ⟨.bl _,H,I,rfl,q⟩
  cases x with
  | non=>cases rx;exact pl rfl (fin (w:=false) (by simp) rfl)
  | bl j=>cases rx;exact pl rfl (fin (w:=(j == k)) (by rw [Bool.eq_iff_iff];simp) (by cases j<;>cases k<;>rfl))
  | int j=>obtain ⟨t,rfl⟩:=rx;exact pl rfl (fin (w:=false) (by simp) rfl)
  | str j=>obtain ⟨t,rfl⟩:=rx;exact pl rfl (fin (w:=false) (by simp) rfl)
  | byt j=>obtain ⟨t,rfl⟩:=rx;exact pl rfl (fin (w:=false) (by simp) rfl)
  | flt j=>obtain ⟨t,rfl⟩:=rx;exact pl rfl (fin (w:=false) (by simp) rfl)
  | ref j=>cases rx;exact pl rfl (fin (w:=false) (by simp) rfl)
  | ty j=>cases rx;exact pl rfl (fin (w:=false) (by simp) rfl)
theorem z7G {K:PySem.W.Frag}{ρ:List Addr}{H:Hp}{x:D}{v:V}(rx:RD K ρ H x v):decide (v=.non)=(match x with | .non=>true | _=>false):=by
 cases x<;>simp only [RD] at rx
 case non=>subst rx;simp
 case bl=>subst rx;simp
 case int=>subst rx;simp
 case str=>subst rx;simp
 case tup=>obtain ⟨a,xs,rfl,_⟩:=rx;simp
 case fl=>obtain ⟨a,xs,rfl,_⟩:=rx;simp
 case ref=>obtain ⟨a,rfl,_⟩:=rx;simp
theorem z8D {K:PySem.W.Frag}{ρ:List Addr}{H:Hp}{x:D}{v:V}{k:Bool}(rx:RD K ρ H x v):decide (v=.bl k)=(match x with | .bl j=>j == k | _=>false):=by
 cases x<;>simp only [RD] at rx
 case non=>subst rx;simp
 case bl j=>subst rx;cases j<;>cases k<;>rfl
 case int=>subst rx;simp
 case str=>subst rx;simp
 case tup=>obtain ⟨a,xs,rfl,_⟩:=rx;simp
 case fl=>obtain ⟨a,xs,rfl,_⟩:=rx;simp
 case ref=>obtain ⟨a,rfl,_⟩:=rx;simp
theorem zt1 {K:PySem.W.Frag}(neg:Bool):BR K EX (fun x y H Q=>(y=.non/\Q (.bl ((decide (x=.non)) != neg)) H)∨∃ k,y=.bl k/\Q (.bl ((decide (x=.bl k)) != neg)) H) (fIs neg):=by
 intro ρ h H x y v u Q r rx ry fin
 cases y with
 | non =>
  simp only [RD] at ry
  refine .inl ⟨ry,?_⟩
  rw [z7G rx]
  cases x<;>first | exact (show False from fin).elim | exact FE.here fin r (by simp [RD])
 | bl k =>
  simp only [RD] at ry
  refine .inr ⟨k,ry,?_⟩
  rw [z8D rx]
  cases x<;>first | exact (show False from fin).elim | exact FE.here fin r (by simp [RD])
 | _=>exact (show False from fin).elim
theorem z8v:CO X EX .Is (fIs false):=⟨_,z61 false,zt1 false⟩
theorem z6k:CO X EX .IsNot (fIs true):=⟨_,z61 true,zt1 true⟩
theorem se_c {op:CmpOp}{f:D->D->M D}(h:CO X EX op f) (ha:SE X EX a ma) (hb:SE X EX b mb) (hm:behindInMarks op b=false:=by first | exact za5 _ | with_unfolding_all rfl):SE X EX (.Compare a [op] [b] pos) (e2 f ma mb):=by
 obtain ⟨r,h1,h2⟩:=h
 exact zt3 h1 h2 ha hb hm
def asB:D->M Bool
 | .bl b=>pure b
 | _=>bad
theorem zy4 {t:TE}{m:G->M D}(h:∀ σ H Q,tE X.K EX m σ H Q->t σ H Q):∀ σ H Q,tT X.K EX (fun γ=>do let d ← m γ;asB d) σ H Q->zs1 t σ H Q:=by
 intro σ H Q ⟨ρ,γ,h0,rel,fin⟩
 refine h σ H _ ⟨ρ,γ,h0,rel,(Fin.bind fin).mono fun d ρ1 h1 H1 p1 e1 r1 f1 v rv=>?_⟩
 cases d<;>first | exact (show False from f1).elim | skip
 rename_i b
 simp only [RD] at rv
 exact ⟨b,rv,f1 ρ1 H1 (Pre.refl _) (Ext.refl _ _) r1⟩
theorem sc_c {op:CmpOp}{f:D->D->M D}(h:CO X EX op f) (ha:SE X EX a ma) (hb:SE X EX b mb) (hm:behindInMarks op b=false:=by first | exact za5 _ | with_unfolding_all rfl):SC X EX (.Compare a [op] [b] pos) (fun γ=>do let d ← e2 f ma mb γ;asB d):=by
 constructor
 obtain ⟨r,h1,h2⟩:=h
 refine PT.imp (zd1 h1 ha.h hb.h hm) (zy4 fun σ H Q ⟨ρ,γ,h,rel,fin⟩=>?_)
 exact ⟨ρ,γ,h,rel,(Fin.bind fin).mono fun x ρ1 h1 H1 p1 e1 r1 f1 v rv=>⟨ρ1,γ,h1,⟨rel.g.mono p1 e1,r1⟩,(Fin.bind f1).mono fun y ρ2 h3 H2 p2 e2 r2 f2 u ru =>
  h2 ρ2 h3 H2 x y v u Q r2 (rv.mono p2 e2) ru f2⟩⟩
def e3 (f g:D->D->M D) (ma mb mc:G->M D):G->M D:=fun γ=>do
 let x ← ma γ
 let y ← mb γ
 let k ← f x y
 let t ← asB k
 if t then do
  let z ← mc γ
  g y z
 else pure (.bl false)
theorem z9g {r r':R2}{f g:D->D->M D}(h2:BR X.K EX r f) (h4:BR X.K EX r' g):∀ σ H Q,tE X.K EX (e3 f g ma mb mc) σ H Q->z9P r r' (tE X.K EX ma) (tE X.K EX mb) (tE X.K EX mc) σ H Q:=by
 intro σ H Q ⟨ρ,γ,h,rel,fin⟩
 refine ⟨ρ,γ,h,rel,(Fin.bind fin).mono fun x ρ1 h1 H1 p1 e1 r1 f1 v rv=>⟨ρ1,γ,h1,⟨rel.g.mono p1 e1,r1⟩,(Fin.bind f1).mono fun y ρ2 h3 H2 p2 e2 r2 f2 u ru=>?_⟩⟩
 refine h2 ρ2 h3 H2 x y v u _ r2 (rv.mono p2 e2) ru ((Fin.bind f2).mono fun k ρ3 h5 H3 p3 e3 r3 f3 z rz=>?_)
 cases k<;>first | exact (show False from f3).elim | skip
 rename_i t
 simp only [RD] at rz
 refine ⟨t,rz,?_⟩
 cases t with
 | false =>
  rw [if_neg (by decide)]
  exact FE.here (d:=.bl false) (h:=h5) (ρ:=ρ3) f3 r3 (by simp [RD])
 | true =>
  rw [if_pos rfl]
  have f4:Fin X.K EX ρ3 H3 (fun d ρ' _ H'=>∀ v,RD X.K ρ' H' d v->Q v H') ((mc γ >>= fun z=>g y z) h5):=f3
  exact ⟨ρ3,γ,h5,⟨((rel.g.mono p1 e1).mono p2 e2).mono p3 e3,r3⟩,(Fin.bind f4).mono fun w ρ4 h6 H4 p4 e4 r4 f5 q rq=>h4 ρ4 h6 H4 y w u q Q r4 ((ru.mono p3 e3).mono p4 e4) rq f5⟩
theorem z9o {op op':CmpOp}{f g:D->D->M D}(h:CO X EX op f) (h':CO X EX op' g) (ha:SE X EX a ma) (hb:SE X EX b mb) (hc:SE X EX c mc) (hm:lastMarks [op,op'] [b,c]=false:=by with_unfolding_all rfl):SE X EX (.Compare a [op,op'] [b,c] pos) (e3 f g ma mb mc):=by
 constructor
 obtain ⟨r,h1,h2⟩:=h
 obtain ⟨r',h3,h4⟩:=h'
 exact PE.imp (z8O h1 h3 ha.h hb.h hc.h hm) (z9g h2 h4)
def eAnd (ma mb:G->M D):G->M D:=fun γ=>do
 let x ← ma γ
 let t ← asB x
 if t then mb γ else pure (.bl false)
def eOr (ma mb:G->M D):G->M D:=fun γ=>do
 let x ← ma γ
 let t ← asB x
 if t then pure (.bl true) else mb γ
def eNot (ma:G->M D):G->M D:=fun γ=>do
 let x ← ma γ
 let t ← asB x
 pure (.bl (!t))
variable {rest:List Expr}
theorem z0U {op:PySem.BoolOp}(ha:SE X EX a ma):SE X EX (.BoolOp op [a] pos) ma:=⟨zq9 ha.h⟩
theorem z0u (ha:SE X EX a ma) (hb:SE X EX (.BoolOp .And (b :: rest) pos) mb):SE X EX (.BoolOp .And (a :: b :: rest) pos) (eAnd ma mb) :=
 ⟨PE.imp (zs5 ha.h hb.h) fun σ H Q ⟨ρ,γ,h,rel,fin⟩=>⟨ρ,γ,h,rel,(Fin.bind fin).mono fun x ρ1 h1 H1 p1 e1 r1 f1 v rv=>by
  cases x<;>first | exact (show False from f1).elim | skip
  rename_i t
  simp only [RD] at rv
  refine ⟨t,rv,?_⟩
  cases t with
  | true=>exact ⟨ρ1,γ,h1,⟨rel.g.mono p1 e1,r1⟩,f1⟩
  | false=>exact FE.here (d:=.bl false) (h:=h1) (ρ:=ρ1) f1 r1 (by simp [RD])⟩⟩
theorem z7f (ha:SE X EX a ma) (hb:SE X EX (.BoolOp .Or (b :: rest) pos) mb):SE X EX (.BoolOp .Or (a :: b :: rest) pos) (eOr ma mb) :=
 ⟨PE.imp (zC1 ha.h hb.h) fun σ H Q ⟨ρ,γ,h,rel,fin⟩=>⟨ρ,γ,h,rel,(Fin.bind fin).mono fun x ρ1 h1 H1 p1 e1 r1 f1 v rv=>by
  cases x<;>first | exact (show False from f1).elim | skip
  rename_i t
  simp only [RD] at rv
  refine ⟨t,rv,?_⟩
  cases t with
  | false=>exact ⟨ρ1,γ,h1,⟨rel.g.mono p1 e1,r1⟩,f1⟩
  | true=>exact FE.here (d:=.bl true) (h:=h1) (ρ:=ρ1) f1 r1 (by simp [RD])⟩⟩
theorem z3E (ha:SE X EX a ma):SE X EX (.UnaryOp .Not a pos) (eNot ma) :=
 ⟨PE.imp (zs6 ha.h) fun σ H Q ⟨ρ,γ,h,rel,fin⟩=>⟨ρ,γ,h,rel,(Fin.bind fin).mono fun x ρ1 h1 H1 p1 e1 r1 f1 v rv=>by
  cases x<;>first | exact (show False from f1).elim | skip
  rename_i t
  simp only [RD] at rv
  exact ⟨t,rv,FE.here (d:=.bl (!t)) (h:=h1) (ρ:=ρ1) f1 r1 (by simp [RD])⟩⟩⟩
structure SW (X:Cx) (EX:XX) (e:Expr) (m:G->M Bool):Prop where
 h:PW X e (tT X.K EX m)
theorem PW.imp {X:Cx}{e:Expr}{t t':TT}(h:PW X e t) (f:∀ σ H Q,t' σ H Q->t σ H Q):PW X e t':=fun w pins s σ H Q I z=>h w pins s σ H Q I (f σ H Q z)
variable {ka kb kc:G->M Bool}
def cAnd (ka kb:G->M Bool):G->M Bool:=fun γ=>do
 let t ← ka γ
 if t then kb γ else pure false
def cOr (ka kb:G->M Bool):G->M Bool:=fun γ=>do
 let t ← ka γ
 if t then pure true else kb γ
def cNot (ka:G->M Bool):G->M Bool:=fun γ=>do
 let t ← ka γ
 pure (!t)
theorem z4k (ha:SC X EX a ka):SW X EX (.BoolOp .And [a] pos) ka:=⟨zd8 ha.h⟩
theorem z1f (ha:SC X EX a ka):SW X EX (.BoolOp .Or [a] pos) ka:=⟨zl6 ha.h⟩
theorem z6u (ha:SC X EX a ka) (hb:SW X EX (.BoolOp .And (b :: rest) pos) kb):SW X EX (.BoolOp .And (a :: b :: rest) pos) (cAnd ka kb) :=
 ⟨PW.imp (zt7 ha.h hb.h) fun σ H Q ⟨ρ,γ,h,rel,fin⟩=>⟨ρ,γ,h,rel,(Fin.bind fin).mono fun t ρ1 h1 H1 p1 e1 r1 f1=>by
  cases t with
  | true=>exact ⟨ρ1,γ,h1,⟨rel.g.mono p1 e1,r1⟩,f1⟩
  | false=>exact f1 ρ1 H1 (Pre.refl _) (Ext.refl _ _) r1⟩⟩
theorem z2l (ha:SC X EX a ka) (hb:SW X EX (.BoolOp .Or (b :: rest) pos) kb):SW X EX (.BoolOp .Or (a :: b :: rest) pos) (cOr ka kb) :=
 ⟨PW.imp (zx6 ha.h hb.h) fun σ H Q ⟨ρ,γ,h,rel,fin⟩=>⟨ρ,γ,h,rel,(Fin.bind fin).mono fun t ρ1 h1 H1 p1 e1 r1 f1=>by
  cases t with
  | false=>exact ⟨ρ1,γ,h1,⟨rel.g.mono p1 e1,r1⟩,f1⟩
  | true=>exact f1 ρ1 H1 (Pre.refl _) (Ext.refl _ _) r1⟩⟩
theorem SW.sc (h:SW X EX e ka):SC X EX e ka:=⟨PW.pt h.h⟩
theorem z07 (ha:SC X EX a ka):SC X EX (.UnaryOp .Not a pos) (cNot ka) :=
 ⟨PT.imp (zt5 ha.h) fun σ H Q ⟨ρ,γ,h,rel,fin⟩=>⟨ρ,γ,h,rel,(Fin.bind fin).mono fun t ρ1 h1 H1 p1 e1 r1 f1=>f1 ρ1 H1 (Pre.refl _) (Ext.refl _ _) r1⟩⟩
def truD:D->M Bool
 | .non=>pure false
 | .bl b=>pure b
 | .int i=>pure (i != 0)
 | .str y=>if y.length≤sizeLine then pure (decide (y.length≠0)) else bad
 | .tup xs=>pure (!xs.isEmpty)
 | .fl xs=>pure (!xs.isEmpty)
 | .ref n=>do
  let xs ← getL n
  pure (!xs.isEmpty)
def cVal (ma:G->M D):G->M Bool:=fun γ=>do
 let x ← ma γ
 truD x
theorem isE {K:PySem.W.Frag}{ρ:List Addr}{H:Hp}{ds:List D}{xs:List V}(h:RDs K ρ H ds xs):ds.isEmpty=xs.isEmpty:=by
 have:=h.length
 cases ds<;>cases xs<;>simp at this ⊢
theorem zh4 {ρ:List Addr}{h:AH}{H:Hp}{x:D}{v:V}{Q:Bool->Hp->Prop}(r:RH X.K ρ h H) (rx:RD X.K ρ H x v) (f:Fin X.K EX ρ H (fun b _ _ H'=>Q b H') (truD x h)):∃ k,TruV X.K v H k/\Q k H:=by
 cases x with
 | non=>simp only [RD] at rx;subst rx;exact ⟨false,rfl,f ρ H (Pre.refl _) (Ext.refl _ _) r⟩
 | bl b=>simp only [RD] at rx;subst rx;exact ⟨b,rfl,f ρ H (Pre.refl _) (Ext.refl _ _) r⟩
 | int b=>simp only [RD] at rx;subst rx;exact ⟨_,rfl,f ρ H (Pre.refl _) (Ext.refl _ _) r⟩
 | str y =>
  simp only [RD] at rx;subst rx
  have f':Fin X.K EX ρ H (fun b _ _ H'=>Q b H') ((if y.length≤sizeLine then pure (decide (y.length≠0)) else bad:M Bool) h):=f
  by_cases hl:y.length≤sizeLine
  ·rw [if_pos hl] at f'
   refine ⟨decide (y.length≠0),⟨hl,?_⟩,f' ρ H (Pre.refl _) (Ext.refl _ _) r⟩
   rw [Bool.eq_iff_iff];simp
  ·rw [if_neg hl] at f';exact f'.elim
 | tup xs =>
  simp only [RD] at rx;obtain ⟨a,vs,rfl,h1,h2⟩:=rx
  exact ⟨!xs.isEmpty,.inr (.inl ⟨vs,h1,by rw [isE h2]⟩),f ρ H (Pre.refl _) (Ext.refl _ _) r⟩
 | fl xs =>
  simp only [RD] at rx;obtain ⟨a,vs,rfl,h1,h2⟩:=rx
  exact ⟨!xs.isEmpty,.inl ⟨vs,h1.sq,by rw [isE h2]⟩,f ρ H (Pre.refl _) (Ext.refl _ _) r⟩
 | ref n =>
  have f1:=Fin.bind f
  cases e:getL n h with
  | bad=>rw [e] at f1;exact f1.elim
  | err z hz=>exact (z2d e).elim
  | ok xs h1 =>
   obtain ⟨rfl,q1⟩:=z27 e
   rw [e] at f1
   have f2:=f1 ρ H (Pre.refl _) (Ext.refl _ _) r
   simp only [RD] at rx;obtain ⟨a,rfl,h2⟩:=rx
   obtain ⟨a1,n1,vs,o1,d1⟩:=r.at q1
   rw [h2] at n1;cases n1
   exact ⟨!xs.isEmpty,.inl ⟨vs,SqL.of o1,by rw [isE d1]⟩,f2 ρ H (Pre.refl _) (Ext.refl _ _) r⟩
theorem Y8 (ha:SE X EX a ma) (he:∀ whole,isTrue a X.env whole=(do let v ← whole;standAt a.pos;holding [v] (truthy v)):=by intro _;rfl):SC X EX a (cVal ma) :=
 ⟨PT.imp (z8X ha.h he) fun σ H Q ⟨ρ,γ,h,rel,fin⟩=>⟨ρ,γ,h,rel,(Fin.bind fin).mono fun x ρ1 h1 H1 p1 e1 r1 f1 v rv=>zh4 r1 rv f1⟩⟩
def eIf (k:G->M Bool) (ma mb:G->M D):G->M D:=fun γ=>do
 let t ← k γ
 if t then ma γ else mb γ
theorem z4l (hc:SC X EX c kc) (ha:SE X EX a ma) (hb:SE X EX b mb):SE X EX (.IfExp c a b pos) (eIf kc ma mb) :=
 ⟨PE.imp (z9z hc.h ha.h hb.h) fun σ H Q ⟨ρ,γ,h,rel,fin⟩=>⟨ρ,γ,h,rel,(Fin.bind fin).mono fun t ρ1 h1 H1 p1 e1 r1 f1=>by
  cases t with
  | true=>exact ⟨ρ1,γ,h1,⟨rel.g.mono p1 e1,r1⟩,f1⟩
  | false=>exact ⟨ρ1,γ,h1,⟨rel.g.mono p1 e1,r1⟩,f1⟩⟩⟩
def aNil:G->M (List D):=fun _=>pure []
def z9 (ma:G->M D) (mr:G->M (List D)):G->M (List D):=fun γ=>do
 let x ← ma γ
 let r ← mr γ
 pure (x :: r)
variable {es:List Expr}{mr:G->M (List D)}
theorem Z1:SA X EX [] aNil:=⟨PA.imp z3A fun σ H Q ⟨ρ,γ,h,rel,fin⟩=>fin ρ H (Pre.refl _) (Ext.refl _ _) rel.h [] RDs.nil⟩
theorem z0 (ha:SE X EX a ma) (hr:SA X EX es mr) (hs:starEach (a :: es) X.env=(false,eval a X.env) :: starEach es X.env:=by first | exact z5D | exact zd2 | exact zj3 | exact z97 | exact z6O | exact z56 | exact z9h | exact zf2 | exact z6T | exact z5r | rfl):SA X EX (a :: es) (z9 ma mr) :=
 ⟨PA.imp (z2q ha.h hr.h hs) fun σ H Q ⟨ρ,γ,h,rel,fin⟩=>⟨ρ,γ,h,rel,(Fin.bind fin).mono fun x ρ1 h1 H1 p1 e1 r1 f1 v rv=>⟨ρ1,γ,h1,⟨rel.g.mono p1 e1,r1⟩,(Fin.bind f1).mono fun ds ρ2 h2 H2 p2 e2 r2 f2 vs rvs =>
  f2 ρ2 H2 (Pre.refl _) (Ext.refl _ _) r2 (v :: vs) (RDs.cons (rv.mono p2 e2) rvs)⟩⟩⟩
def eTup (mr:G->M (List D)):G->M D:=fun γ=>do
 let xs ← mr γ
 if xs.length≤sizeLine then pure (.tup xs) else bad
def eLst (mr:G->M (List D)):G->M D:=fun γ=>do
 let xs ← mr γ
 newL xs
theorem Y0 {k:Nat}(h:SA X EX es mr):SE X EX (.Tuple es k pos) (eTup mr) :=
 ⟨PE.imp (zo7 h.h) fun σ H Q ⟨ρ,γ,h,rel,fin⟩=>⟨ρ,γ,h,rel,(Fin.bind fin).mono fun xs ρ1 h1 H1 p1 e1 r1 f1 vs rvs=>by
  by_cases hl:xs.length≤sizeLine
  ·rw [if_pos hl] at f1
   exact ⟨by rw [← rvs.length];exact hl,fun p hp=>FE.tup (h:=h1) f1 r1 rvs hp⟩
  ·rw [if_neg hl] at f1;exact (show False from f1).elim⟩⟩
theorem J0 (h:SA X EX es mr):SE X EX (.List es pos) (eLst mr) :=
 ⟨PE.imp (zr0 h.h) fun σ H Q ⟨ρ,γ,h,rel,fin⟩=>⟨ρ,γ,h,rel,(Fin.bind fin).mono fun xs ρ1 h1 H1 p1 e1 r1 f1 vs rvs=>by
  unfold newL at f1
  split at f1
  ·rename_i hl
   exact ⟨by rw [← rvs.length];exact hl,fun p hp=>FE.lst (h:=h1) f1 r1 rvs hp⟩
  ·exact (show False from f1).elim⟩⟩
def fIx:D->D->M D
 | .str z,.int i=>if z.length≤sizeLine then (match atI z.cps.toList i with
  | some c=>pure (.str ⟨#[c]⟩)
  | none=>bad) else bad
 | x,.int i=>do
  let xs ← seqD x
  match atI xs i with
  | some d=>pure d
  | none=>bad
 | _,_=>bad
theorem zi3 {K:PySem.W.Frag}{ρ:List Addr}{H:Hp}{ds:List D}{xs:List V}{i:Int}{d:D}(h:RDs K ρ H ds xs) (e:atI ds i=some d):∃ x,atI xs i=some x/\RD K ρ H d x:=by
 unfold atI at e ⊢
 rw [← h.length]
 cases q:ixN ds.length i with
 | none=>rw [q] at e;cases e
 | some j=>rw [q] at e;exact h.get e
theorem zx9:BR X.K EX (rIx X.K) fIx:=by
 intro ρ h H x y v u Q r rx ry fin
 unfold fIx at fin
 split at fin
 ·simp only [RD] at rx ry;subst rx;subst ry
  rename_i z i
  by_cases hl:z.length≤sizeLine
  ·rw [if_pos hl] at fin
   cases hc:atI z.cps.toList i with
   | none=>rw [hc] at fin;exact fin.elim
   | some c =>
    rw [hc] at fin
    exact .inr (.inr ⟨_,_,c,rfl,rfl,hl,hc,FE.here fin r (by simp [RD])⟩)
  ·rw [if_neg hl] at fin;exact fin.elim
 ·rename_i i _
  simp only [RD] at ry;subst ry
  have f1:=Fin.bind fin
  cases e:seqD x h with
  | bad=>rw [e] at f1;exact f1.elim
  | err z hz=>exact (z3C e).elim
  | ok ys h1 =>
   obtain ⟨rfl,p,xs,rfl,hs,hd⟩:=z35 r rx e
   rw [e] at f1
   have f2:=f1 ρ H (Pre.refl _) (Ext.refl _ _) r
   dsimp only at f2
   cases q:atI ys i with
   | none=>rw [q] at f2;exact f2.elim
   | some d =>
    rw [q] at f2
    obtain ⟨w,h2,h3⟩:=zi3 hd q
    rcases hs with hs | hs
    ·exact .inl ⟨p,xs,i,w,rfl,rfl,hs,h2,FE.here f2 r h3⟩
    ·exact .inr (.inl ⟨p,xs,i,w,rfl,rfl,hs,h2,FE.here f2 r h3⟩)
 ·exact fin.elim
theorem Z9 (ha:SE X EX a ma) (hb:SE X EX b mb) (hs:z7L b:=by intro _ _;rfl):SE X EX (.Subscript a b pos) (e2 fIx ma mb) :=
 z8o (ta:=tE X.K EX ma) (tb:=tE X.K EX mb) (zy2 zs2 ha.h hb.h hs) zx9
end
section
variable {X:Cx}{EX:XX}{a b c e:Expr}{pos p p2:Pos}{ma mb mc:G->M D}{es:List Expr}{mr:G->M (List D)}
def AR (K:PySem.W.Frag) (EX:XX) (r:List V->Hp->VK->Prop) (f:List D->M D):Prop:=∀ ρ h H ds vs Q,RH K ρ h H->RDs K ρ H ds vs->FE K EX ρ H Q (f ds h)->r vs H Q
def j3 (f:List D->M D) (mr:G->M (List D)):G->M D:=fun γ=>do
 let xs ← mr γ
 f xs
theorem z2f {r:List V->Hp->VK->Prop}{f:List D->M D}(h:PE X e (tCB r (tL X.K EX mr))) (hr:AR X.K EX r f):SE X EX e (j3 f mr) :=
 ⟨PE.imp h fun σ H Q ⟨ρ,γ,h,rel,fin⟩=>⟨ρ,γ,h,rel,(Fin.bind fin).mono fun xs ρ1 h1 H1 p1 e1 r1 f1 vs rvs=>hr ρ1 h1 H1 xs vs Q r1 rvs f1⟩⟩
theorem rds1 {K:PySem.W.Frag}{ρ:List Addr}{H:Hp}{d:D}{vs:List V}(h:RDs K ρ H [d] vs):∃ v,vs=[v]/\RD K ρ H d v:=by
 simp only [RDs] at h
 obtain ⟨x,r,rfl,h2,rfl⟩:=h
 exact ⟨x,rfl,h2⟩
def fLen:List D->M D
 | [.str z]=>if z.length≤sizeLine then pure (.int z.length) else bad
 | [x]=>do
  let xs ← seqD x
  pure (.int xs.length)
 | _=>bad
theorem zs0:AR X.K EX (fun xs H Q=>∃ x n,xs=[x]/\LenV X.K x H n/\Q (.int n) H) fLen:=by
 intro ρ h H ds vs Q r rd fin
 unfold fLen at fin
 split at fin
 ·rename_i z
  obtain ⟨v,rfl,rv⟩:=rds1 rd
  simp only [RD] at rv;subst rv
  by_cases hl:z.length≤sizeLine
  ·rw [if_pos hl] at fin
   exact ⟨_,z.length,rfl,⟨hl,rfl⟩,FE.here fin r (by simp [RD])⟩
  ·rw [if_neg hl] at fin;exact fin.elim
 ·rename_i x _
  obtain ⟨v,rfl,rv⟩:=rds1 rd
  have f1:=Fin.bind fin
  cases e:seqD x h with
  | bad=>rw [e] at f1;exact f1.elim
  | err z hz=>exact (z3C e).elim
  | ok ys h1 =>
   obtain ⟨rfl,p,xs,rfl,hs,hd⟩:=z35 r rv e
   rw [e] at f1
   have f2:=f1 ρ H (Pre.refl _) (Ext.refl _ _) r
   refine ⟨_,ys.length,rfl,?_,FE.here f2 r (by simp [RD])⟩
   rw [hd.length]
   rcases hs with hs | hs
   ·exact .inl ⟨xs,hs,rfl⟩
   ·exact .inr ⟨xs,hs,rfl⟩
 ·exact fin.elim
theorem J2 (hg:Gl X "len") (hm:X.mg "len" = none) (ha:SA X EX [a] mr) (he:starEach [a] X.env=[(false,eval a X.env)]:=by rfl):SE X EX (.Call (.Name "len" p) [a] [] pos) (j3 fLen mr) :=
 z2f (z29 z9c hg hm PySem.boot_len ha.h (by decide) (by decide) he rfl) zs0
def z0w:List D->M D
 | [.tup xs]=>pure (.tup xs)
 | [x]=>do
  let xs ← seqD x
  pure (.tup xs)
 | _=>bad
theorem z8I:AR X.K EX (fun xs H Q=>∃ p ys,xs=[.ref p]/\((SqL X.K H p ys/\∀ l,H l=none->Q (.ref l) (upd H l (.tup ys)))∨(SqT X.K H p ys/\Q (.ref p) H))) z0w:=by
 intro ρ h H ds vs Q r rd fin
 unfold z0w at fin
 split at fin
 ·obtain ⟨v,rfl,rv⟩:=rds1 rd
  have rv':=rv
  simp only [RD] at rv
  obtain ⟨q,xs,rfl,h1,h2⟩:=rv
  exact ⟨q,xs,rfl,.inr ⟨h1,FE.here fin r rv'⟩⟩
 ·rename_i x hx
  obtain ⟨v,rfl,rv⟩:=rds1 rd
  have f1:=Fin.bind fin
  cases e:seqD x h with
  | bad=>rw [e] at f1;exact f1.elim
  | err z hz=>exact (z3C e).elim
  | ok ys h1 =>
   obtain ⟨rfl,q,xs,rfl,hs,hd⟩:=z35 r rv e
   rw [e] at f1
   have f2:=f1 ρ H (Pre.refl _) (Ext.refl _ _) r
   refine ⟨q,xs,rfl,?_⟩
   rcases hs with hs | hs
   ·exact .inl ⟨hs,fun l hl=>FE.tup f2 r hd hl⟩
   ·refine .inr ⟨hs,FE.here f2 r ?_⟩
    simp only [RD]
    exact ⟨q,xs,rfl,hs,hd⟩
 ·exact fin.elim
theorem z0N (hg:Gl X "tuple") (hm:X.mg "tuple" = none) (ha:SA X EX [a] mr) (he:starEach [a] X.env=[(false,eval a X.env)]:=by rfl):SE X EX (.Call (.Name "tuple" p) [a] [] pos) (j3 z0w mr) :=
 z2f (z2u z4z hg hm (by decide +kernel) ha.h (by decide) (by decide) he rfl) z8I
def tyD:D->M String
 | .non=>pure "NoneType"
 | .bl _=>pure "bool"
 | .int _=>pure "int"
 | .str _=>pure "str"
 | .tup _=>pure "tuple"
 | .fl _=>pure "list"
 | .ref n=>fun h=>match h[n]? with
  | some (.lst _)=>.ok "list" h
  | some .dct=>.ok "dict" h
  | some (.dK _)=>.ok "dict" h
  | _=>.bad
def subT (t T:String):Bool:=t == T || (t == "bool" && T == "int")
def tyNames:List String:=["NoneType","bool","int","str","tuple","list","dict"]
def tyAsked:List String:=["bool","int","str","tuple","list","dict"]
theorem zc3:tyNames.all (fun t=>tyAsked.all fun T=>decide (PySem.W.kitOne [] (.type t) (.type T)=some (subT t T)))=true:=by decide +kernel
theorem z68 {K:PySem.W.Frag}{t T:String}(h1:t∈tyNames) (h2:T∈tyAsked):PySem.W.kitOne K (.type t) (.type T)=some (subT t T):=by
 have q:=zc3
 rw [List.all_eq_true] at q
 have q2:=q t h1
 rw [List.all_eq_true] at q2
 have q3:=q2 T h2
 exact of_decide_eq_true q3
def fIsi (T:String):D->M D:=fun x=>do
 let t ← tyD x
 pure (.bl (subT t T))
theorem zf8 {pins:List (Addr×Obj)}{σ:L2.St}{H:Hp}{s:Shared}{E:Value->Shared->Prop}{Q:Value->Shared->Prop}{q:Addr}{c:Value}{k:Bool}{xs:List V}(I:Inv X pins σ H s) (h:SqT X.K H q xs) (e:PySem.W.kitOne X.K (.type "tuple") c=some k) (hQ:∀ tk,Q (.bool k) { s with toks:=tk }) :
 wpAny (model X.prog X.w) X.A (call (.builtin "isinstance") [.ref q,c]) Q E s:=by
 obtain ⟨its,_,ht,_⟩:=I.tuple h
 obtain ⟨o,h1,h2,_⟩:=ht
 exact PySem.W.kia_one PySem.W.kitx_tuple I.kIn ⟨o,h1,h2⟩ e (fun z=>nomatch z) hQ
theorem zg4 {pins:List (Addr×Obj)}{σ:L2.St}{H:Hp}{s:Shared}{E:Value->Shared->Prop}{Q:Value->Shared->Prop}{q:Addr}{c:Value}{k:Bool}{xs:List V}(I:Inv X pins σ H s) (h:SqL X.K H q xs) (e:PySem.W.kitOne X.K (.type "list") c=some k) (hQ:∀ tk,Q (.bool k) { s with toks:=tk }) :
 wpAny (model X.prog X.w) X.A (call (.builtin "isinstance") [.ref q,c]) Q E s:=by
 obtain ⟨its,_,ht,_⟩:=I.list h
 obtain ⟨o,n,h1,h2,_⟩:=ht
 exact PySem.W.kia_one PySem.W.kitx_list I.kIn ⟨o,h1,h2⟩ e (fun z=>nomatch z) hQ
def TyV (K:PySem.W.Frag) (H:Hp) (v:V) (t:String):Prop:=match v with
 | .non=>t = "NoneType"
 | .bl _=>t = "bool"
 | .int _=>t = "int"
 | .str _=>t = "str"
 | .ref q=>(t = "tuple"/\∃ xs,SqT K H q xs)∨(t = "list"/\∃ xs,SqL K H q xs)∨(t = "dict"/\(H q=some (dctO q)∨∃ kvs,H q=some (.dK kvs)))
 | _=>False
theorem z9d {T:String}(hT:T∈tyAsked):z3d X (.builtin "isinstance") (fun xs H Q=>∃ x t,xs=[x,.ty T]/\TyV X.K H x t/\Q (.bl (subT t T)) H):=by
 intro pins s σ H xs us Q I r h
 obtain ⟨x,t,rfl,ty,q⟩:=h
 obtain ⟨u,w',rfl,rx,rt⟩:=vals2 r
 cases rt
 have fin:∀ tk,EP X pins σ Q (.bool (subT t T)) { s with toks:=tk }:=fun tk=>⟨.bl _,H,I.tok tk,rfl,q⟩
 have tb:∀ {z:V} {t':Value},z=x->TyOf X.K H z t'->t'=.type t->t∈tyNames->wpAny (model X.prog X.w) X.A (call (.builtin "isinstance") [u,.type T]) (EP X pins σ Q) X.xe s:=fun {z t'} e1 ty' e2 hn=>by
  subst e1;subst e2
  exact z7j I rx ty' (z68 hn hT) fin
 cases x with
 | non=>exact tb rfl .non (by rw [show t = "NoneType" from ty]) (by rw [show t = "NoneType" from ty];decide)
 | bl y=>exact tb rfl (.bl y) (by rw [show t = "bool" from ty]) (by rw [show t = "bool" from ty];decide)
 | int y=>exact tb rfl (.int y) (by rw [show t = "int" from ty]) (by rw [show t = "int" from ty];decide)
 | str y=>exact tb rfl (.str y) (by rw [show t = "str" from ty]) (by rw [show t = "str" from ty];decide)
 | ref y =>
  cases rx
  rcases (show (t = "tuple"/\∃ xs,SqT X.K H y xs)∨(t = "list"/\∃ xs,SqL X.K H y xs)∨(t = "dict"/\(H y=some (dctO y)∨∃ kvs,H y=some (.dK kvs))) from ty) with ⟨rfl,xs,hs⟩ | ⟨rfl,xs,hs⟩ | ⟨rfl,hs | ⟨kvs,hs⟩⟩
  ·exact zf8 I hs (z68 (by decide) hT) fin
  ·exact zg4 I hs (z68 (by decide) hT) fin
  ·exact PySem.W.kia_one PySem.W.kitx_dict I.kIn (I.hok y _ hs).1 (z68 (by decide) hT) (fun z=>nomatch z) fin
  ·exact tb rfl (.dK hs) rfl (by decide)
 | byt y=>exact (show False from ty).elim
 | flt y=>exact (show False from ty).elim
 | ty y=>exact (show False from ty).elim
theorem zg6 {K:PySem.W.Frag}{ρ:List Addr}{h h1:AH}{H:Hp}{x:D}{v:V}{t:String}(r:RH K ρ h H) (rx:RD K ρ H x v) (e:tyD x h=.ok t h1):h1=h/\TyV K H v t:=by
 cases x with
 | non=>cases e;simp only [RD] at rx;subst rx;exact ⟨rfl,rfl⟩
 | bl y=>cases e;simp only [RD] at rx;subst rx;exact ⟨rfl,rfl⟩
 | int y=>cases e;simp only [RD] at rx;subst rx;exact ⟨rfl,rfl⟩
 | str y=>cases e;simp only [RD] at rx;subst rx;exact ⟨rfl,rfl⟩
 | tup y=>cases e;simp only [RD] at rx;obtain ⟨q,xs,rfl,h2,_⟩:=rx;exact ⟨rfl,.inl ⟨rfl,xs,h2⟩⟩
 | fl y=>cases e;simp only [RD] at rx;obtain ⟨q,xs,rfl,h2,_⟩:=rx;exact ⟨rfl,.inr (.inl ⟨rfl,xs,h2.sq⟩)⟩
 | ref n =>
  simp only [RD] at rx;obtain ⟨q,rfl,h2⟩:=rx
  unfold tyD at e
  dsimp only at e
  cases q1:h[n]? with
  | none=>rw [q1] at e;cases e
  | some ob =>
   rw [q1] at e
   cases ob with
   | set ks=>cases e
   | dK kvs =>
    cases e
    obtain ⟨a1,n1,vs,o1,d1⟩:=r.at q1
    rw [h2] at n1;cases n1
    exact ⟨rfl,.inr (.inr ⟨rfl,.inr ⟨_,o1⟩⟩)⟩
   | dF kvs=>cases e
   | exc c=>cases e
   | lst ds =>
    cases e
    obtain ⟨a1,n1,vs,o1,d1⟩:=r.at q1
    rw [h2] at n1;cases n1
    exact ⟨rfl,.inr (.inl ⟨rfl,vs,SqL.of o1⟩)⟩
   | dct =>
    cases e
    obtain ⟨a1,n1,o1⟩:=r.at q1
    rw [h2] at n1;cases n1
    exact ⟨rfl,.inr (.inr ⟨rfl,.inl o1⟩)⟩
theorem zl1 {x:D}{h h1:AH}{z:Exn}(e:tyD x h=.err z h1):False:=by
 cases x with
 | ref n =>
  unfold tyD at e
  dsimp only at e
  split at e<;>cases e
 | _=>cases e
def eIsi (T:String) (ma:G->M D):G->M D:=fun γ=>do
 let x ← ma γ
 fIsi T x
theorem z2H {T:Str}{T':String}(hg:Gl X "isinstance") (hm:X.mg "isinstance" = none) (hgT:Gl X T) (hmT:X.mg T=none) (hv:bootBuiltins T=some (.type T')) (hT:T'∈tyAsked) (ha:SE X EX a ma) (hn:T≠"__name__":=by decide) (hd:(T == ("__debug__":Str))=false:=by decide)
 (he:starEach [a,.Name T p2] X.env=[(false,eval a X.env),(false,eval (.Name T p2) X.env)]:=by rfl) (he2:starEach [.Name T p2] X.env=[(false,eval (.Name T p2) X.env)]:=by rfl):SE X EX (.Call (.Name "isinstance" p) [a,.Name T p2] [] pos) (eIsi T' ma):=by
 constructor
 have hA:PA X [a,.Name T p2] (z8a (tE X.K EX ma) (z8a (tC (.ty T')) tNil)):=z2q ha.h (z2q (zc5 hgT hmT hv rfl hn hd) z3A he2) (by rw [he,he2])
 refine PE.imp (z29 (z9d hT) hg hm (by decide +kernel) hA (by decide) (by decide) (by rw [he,he2]) (by rw [he2];rfl)) fun σ H Q ⟨ρ,γ,h,rel,fin⟩=>⟨ρ,γ,h,rel,(Fin.bind fin).mono fun x ρ1 h1 H1 p1 e1 r1 f1 v rv=>?_⟩
 have f2:=Fin.bind f1
 cases e:tyD x h1 with
 | bad=>rw [e] at f2;exact f2.elim
 | err z hz=>exact (zl1 e).elim
 | ok t h2 =>
  obtain ⟨rfl,ty⟩:=zg6 r1 rv e
  rw [e] at f2
  have f3:=f2 ρ1 H1 (Pre.refl _) (Ext.refl _ _) r1
  exact ⟨v,t,rfl,ty,FE.here f3 r1 (by simp [RD])⟩
def blsD:List D->Option (List Bool)
 | []=>some []
 | .bl b :: r=>(blsD r).map (b :: ·)
 | _ :: _=>none
def fAll (any:Bool):List D->M D
 | [.ref n]=>do
  let xs ← getL n
  match blsD xs with
  | some bs=>pure (.bl (if any then bs.any id else bs.all id))
  | none=>bad
 | _=>bad
theorem z7N {K:PySem.W.Frag}{ρ:List Addr}{H:Hp}:∀ {xs:List D}{bs:List Bool}{vs:List V},blsD xs=some bs->RDs K ρ H xs vs->vs=bs.map V.bl
 | [],bs,vs,e,r=>by simp only [RDs] at r;cases e;subst r;rfl
 | x :: xs,bs,vs,e,r=>by
  simp only [RDs] at r
  obtain ⟨v,r2,rfl,h1,h2⟩:=r
  cases x<;>first | (simp only [blsD] at e;cases e;done) | skip
  rename_i b
  simp only [blsD] at e
  obtain ⟨bs',e1,rfl⟩:=Option.map_eq_some_iff.mp e
  simp only [RD] at h1
  subst h1
  rw [z7N e1 h2];rfl
theorem z66:∀ {bs:List Bool}{us:List Value},Vals (bs.map V.bl) us->us=bs.map Value.bool
 | [],us,h=>by cases h;rfl
 | b :: bs,us,h=>by
  cases h with
  | cons h1 h2=>cases h1;rw [z66 h2];rfl
theorem range_all {bs:List Bool}:((List.range bs.length).all fun i=>bs.getD i false)=bs.all id:=by
 rw [Bool.eq_iff_iff,List.all_eq_true,List.all_eq_true]
 constructor
 ·intro h x hx
  obtain ⟨i,hi,rfl⟩:=List.getElem_of_mem hx
  have:=h i (List.mem_range.mpr hi)
  simpa [List.getD,hi] using this
 ·intro h i hi
  have hi':=List.mem_range.mp hi
  have:=h bs[i] (List.getElem_mem hi')
  simpa [List.getD,hi'] using this
theorem range_any {bs:List Bool}:((List.range bs.length).any fun i=>bs.getD i false)=bs.any id:=by
 rw [Bool.eq_iff_iff,List.any_eq_true,List.any_eq_true]
 constructor
 ·rintro ⟨i,hi,h⟩
  have hi':=List.mem_range.mp hi
  refine ⟨bs[i],List.getElem_mem hi',?_⟩
  simpa [List.getD,hi'] using h
 ·rintro ⟨x,hx,h⟩
  obtain ⟨i,hi,rfl⟩:=List.getElem_of_mem hx
  exact ⟨i,List.mem_range.mpr hi,by simpa [List.getD,hi] using h⟩
theorem z3D (any:Bool) (hc:X.calm=true):z3d X (.builtin (if any then "any" else "all")) (fun xs H Q=>∃ (q:Addr) (bs:List Bool),xs=[.ref q]/\SqL X.K H q (bs.map V.bl)/\Q (.bl (if any then bs.any id else bs.all id)) H):=by
 intro pins s σ H xs us Q I r h
 obtain ⟨q,bs,rfl,hq,hQ⟩:=h
 obtain ⟨u,rfl,ru⟩:=vals1 r
 cases ru
 obtain ⟨its,rv,pl,hz⟩:=I.list hq
 have ei:=z66 rv
 have ne:q≠s.heap.objs.size:=Nat.ne_of_lt (by obtain ⟨o,n,e,_⟩:=pl;exact Heap.lt_size e)
 have pl':=pl.isList
 have hwalk:=Walks.list (prog:=X.prog) (w:=X.w) (A:=X.A.in1) (show X.A.in1.handled=none from I.ok.hd hc) s.heap.objs.size q ne its.toArray
 have len:its.toArray.size=bs.length:=by rw [ei];simp
 have st0:(s.heap.push { cls:=.type "list_iterator",data:=.fields #[.ref q,.int 0 0] }).IsListIter s.heap.objs.size q 0/\(s.heap.push { cls:=.type "list_iterator",data:=.fields #[.ref q,.int 0 0] }).IsList q its.toArray :=
  ⟨⟨_,Heap.get?_push_size _ rfl,rfl,rfl⟩,pl'.at fun o e=>Heap.get?_push_of_some _ e⟩
 have tr:TruthOf X.prog X.w X.A.in1 (fun i v=>its.toArray[i]?=some v) fun i=>bs.getD i false:=fun i v s' Q' E' hv hq'=>by
  have hv':its[i]?=some v:=by simpa using hv
  rw [ei,List.getElem?_map] at hv'
  cases eb:bs[i]? with
  | none=>rw [eb] at hv';cases hv'
  | some b =>
   rw [eb] at hv'
   cases hv'
   have:bs.getD i false=b:=by simp [List.getD,eb]
   dsimp only at hq';rw [this] at hq'
   exact wpAny_truthy_bool hq'
 have fin:∀ k,k=(if any then bs.any id else bs.all id)->∀ h' tk,(∀ b o,b∉[s.heap.objs.size]->(s.heap.push { cls:=.type "list_iterator",data:=.fields #[.ref q,.int 0 0] }).get? b=some o->h'.get? b=some o) ->
  EP X pins σ Q (.bool k) { s with heap:=h',toks:=tk }:=fun k ek h' tk hk=>by
  subst ek
  refine ⟨.bl _,H,I.kept fun b o e=>hk b o ?_ (Heap.get?_push_of_some _ e),rfl,hQ⟩
  intro z
  have:b=s.heap.objs.size:=by simpa using z
  exact absurd (Heap.lt_size e) (by rw [this];exact Nat.lt_irrefl _)
 cases any with
 | false =>
  refine call_all_walk (wpAny_pyIter_list pl' ⟨_,_,_,_,_,_,_,rfl,hwalk,st0,tr,fun h' tk hk=>?_⟩)
  exact fin _ (by rw [len];exact range_all) h' tk hk
 | true =>
  refine call_any_walk (wpAny_pyIter_list pl' ⟨_,_,_,_,_,_,_,rfl,hwalk,st0,tr,fun h' tk hk=>?_⟩)
  exact fin _ (by rw [len];exact range_any) h' tk hk
theorem za0 {any:Bool}:AR X.K EX (fun xs H Q=>∃ (q:Addr) (bs:List Bool),xs=[.ref q]/\SqL X.K H q (bs.map V.bl)/\Q (.bl (if any then bs.any id else bs.all id)) H) (fAll any):=by
 intro ρ h H ds vs Q r rd fin
 unfold fAll at fin
 split at fin
 ·rename_i n
  obtain ⟨v,rfl,rv⟩:=rds1 rd
  have f1:=Fin.bind fin
  cases e:getL n h with
  | bad=>rw [e] at f1;exact f1.elim
  | err z hz=>exact (z2d e).elim
  | ok xs h1 =>
   obtain ⟨rfl,q1⟩:=z27 e
   rw [e] at f1
   have f2:=f1 ρ H (Pre.refl _) (Ext.refl _ _) r
   dsimp only at f2
   cases eb:blsD xs with
   | none=>rw [eb] at f2;exact f2.elim
   | some bs =>
    rw [eb] at f2
    simp only [RD] at rv;obtain ⟨q,rfl,h2⟩:=rv
    obtain ⟨a1,n1,vs,o1,d1⟩:=r.at q1
    rw [h2] at n1;cases n1
    have ev:=z7N eb d1
    subst ev
    exact ⟨q,bs,rfl,SqL.of o1,FE.here f2 r (by simp [RD])⟩
 ·exact fin.elim
theorem z3U (hc:X.calm=true) (hg:Gl X "all") (hm:X.mg "all" = none) (ha:SA X EX [a] mr) (he:starEach [a] X.env=[(false,eval a X.env)]:=by rfl):SE X EX (.Call (.Name "all" p) [a] [] pos) (j3 (fAll false) mr) :=
 z2f (z29 (z3D false hc) hg hm (by decide +kernel) ha.h (by decide) (by decide) he rfl) za0
theorem zv0 (hc:X.calm=true) (hg:Gl X "any") (hm:X.mg "any" = none) (ha:SA X EX [a] mr) (he:starEach [a] X.env=[(false,eval a X.env)]:=by rfl):SE X EX (.Call (.Name "any" p) [a] [] pos) (j3 (fAll true) mr) :=
 z2f (z29 (z3D true hc) hg hm (by decide +kernel) ha.h (by decide) (by decide) he rfl) za0
end
abbrev EX0:XX:=fun _ _ _ _=>False
def spB (K:PySem.W.Frag) (mf:List D->M D) (n:Nat):Sp:=fun vs H Q _=>vs.length=n/\∃ ρ ds h,RH K ρ h H/\RDs K ρ H ds vs/\FE K EX0 ρ H Q (mf ds h)
structure Fn (P:Program) (w:World) (K:PySem.W.Frag) (mg:Str->Option Value) (base:Heap) (k:Nat) (x:Str) (n:Nat) (mf:List D->M D):Prop where
 ex:∃ f fd ps,FnOk P w K mg base CX0 k f fd ps (spB K mf n)/\Binds K fd ps []/\PySem.W.keepIn K (.ref f)=true/\mg x=some (.ref f)
def eFn (n:Nat) (mf:List D->M D) (mr:G->M (List D)):G->M D:=fun γ=>do
 let xs ← mr γ
 if xs.length=n then mf xs else bad
section
variable {X:Cx}{a b c e:Expr}{pos p p2:Pos}{ma mb mc:G->M D}{es:List Expr}{mr:G->M (List D)}{k n:Nat}{x:Str}{mf:List D->M D}
theorem Z7 (F:Fn X.prog X.w X.K X.mg X.base k x n mf) (hr:Room k X.A) (hg:Gl X x) (ha:SA X EX0 (a :: es) mr) (hdb:(x == ("__debug__":Str))=false:=by decide)
 (he:starEach (a :: es) X.env=(false,eval a X.env) :: starEach es X.env:=by rfl) (hpl:(backTo pos (starEach es X.env)).any (·.1)=false:=by rfl):SE X EX0 (.Call (.Name x p) (a :: es) [] pos) (eFn n mf mr):=by
 constructor
 obtain ⟨f,fd,ps,h1,h2,h3,h4⟩:=F.ex
 refine PE.imp (zj2 h1 hr hg h4 h3 h2 .nil zr7 ha.h hdb he hpl) fun σ H Q ⟨ρ,γ,h,rel,fin⟩=>⟨ρ,γ,h,rel,(Fin.bind fin).mono fun xs ρ1 h1 H1 p1 e1 r1 f1 vs rvs=>?_⟩
 show spB X.K mf n (vs++[]) H1 Q E0
 rw [List.append_nil]
 by_cases hl:xs.length=n
 ·rw [if_pos hl] at f1
  exact ⟨by rw [← rvs.length];exact hl,ρ1,xs,h1,r1,rvs,f1⟩
 ·rw [if_neg hl] at f1;exact (show False from f1).elim
end
def z2k (n:Nat) (ds:List D):G:=ds.map some++List.replicate (n - ds.length) none
def runF (n:Nat) (mb:G->M Out) (ds:List D):M D:=do
 let o ← mb (z2k n ds)
 match o with
 | .nx _=>pure .non
 | .rt d=>pure d
 | _=>bad
section
variable {P:Program}{w:World}{K:PySem.W.Frag}{mg:Str->Option Value}{base:Heap}
theorem z3M {ρ:List Addr}{H:Hp}{N:List Str}{ds:List D}{vs:List V}(h:RDs K ρ H ds vs):RG K ρ H (z2k N.length ds) (L2.start N vs):=by
 have hl:=h.length
 refine ⟨by unfold z2k L2.start;simp [hl],fun i d e=>?_⟩
 unfold z2k at e
 unfold L2.start
 rw [List.getElem?_append] at e ⊢
 rw [List.length_map] at e ⊢
 rw [← hl]
 split at e
 ·rename_i hi
  rw [if_pos hi]
  rw [List.getElem?_map] at e ⊢
  cases q:ds[i]? with
  | none=>rw [q] at e;cases e
  | some d' =>
   rw [q] at e
   cases e
   obtain ⟨v,h1,h2⟩:=h.get q
   exact ⟨v,by rw [h1];rfl,h2⟩
 ·rw [List.getElem?_replicate] at e
  split at e<;>cases e
end
section
variable {env:Env}{t:Option Expr}{l:Nat}{tg:List Expr}
theorem z8t {a p}:swapsWith (.List a p) t l env=pure false:=rfl
theorem z5Z {a b p}:swapsWith (.Tuple a b p) t l env=pure false:=rfl
theorem z3H {c k p}:swapsWith (.Constant c k p) t l env=pure false:=rfl
theorem z7t {c p}:swapsWith (.Name c p) t l env=pure false:=rfl
theorem z77 {a b c p}:swapsWith (.Call a b c p) t l env=pure false:=rfl
theorem z6B {a b c p}:swapsWith (.BinOp a b c p) t l env=pure false:=rfl
theorem z3O {a b c p}:swapsWith (.Compare a b c p) t l env=pure false:=rfl
theorem z3g {a b p}:swapsWith (.Subscript a b p) t l env=pure false:=rfl
theorem z3R {a b p}:swapsWith (.UnaryOp a b p) t l env=pure false:=rfl
theorem z4Q {a b p}:swapsWith (.BoolOp a b p) t l env=pure false:=rfl
theorem z6o {a b c p}:swapsWith (.IfExp a b c p) t l env=pure false:=rfl
end
section
variable {X:Cx}{EX:XX}{a b c e:Expr}{pos p p2:Pos}{ma mb mc:G->M D}{ka kb kc:G->M Bool}{st:Stmt}{sts:List Stmt}{ms mt:G->M Out}
def bNil:G->M Out:=fun γ=>pure (.nx γ)
def Z2 (ms mt:G->M Out):G->M Out:=fun γ=>do
 let o ← ms γ
 match o with
 | .nx γ'=>mt γ'
 | o=>pure o
theorem Z4:SB X EX [] bNil:=⟨PSs.imp zb5 fun σ H D ⟨ρ,γ,h,rel,fin⟩=>fin ρ H (Pre.refl _) (Ext.refl _ _) rel.h σ rel.g⟩
theorem Z0 (h1:S1 X EX st ms) (h2:SB X EX sts mt):SB X EX (st :: sts) (Z2 ms mt) :=
 ⟨PSs.imp (z9j h1.h h2.h) fun σ H D ⟨ρ,γ,h,rel,fin⟩=>⟨ρ,γ,h,rel,(Fin.bind fin).mono fun o ρ1 h1 H1 p1 e1 r1 f1=>by
  cases o with
  | nx γ'=>exact fun σ' rg=>⟨ρ1,γ',h1,⟨rg,r1⟩,f1⟩
  | rt d=>exact f1 ρ1 H1 (Pre.refl _) (Ext.refl _ _) r1
  | bk γ'=>exact f1 ρ1 H1 (Pre.refl _) (Ext.refl _ _) r1
  | ct γ'=>exact f1 ρ1 H1 (Pre.refl _) (Ext.refl _ _) r1⟩⟩
def sRet (ma:G->M D):G->M Out:=fun γ=>do
 let d ← ma γ
 pure (.rt d)
theorem y6 (ha:SE X EX a ma):S1 X EX (.Return (some a) pos) (sRet ma) :=
 ⟨PS.imp (zv5 ha.h) fun σ H D ⟨ρ,γ,h,rel,fin⟩=>⟨ρ,γ,h,rel,(Fin.bind fin).mono fun d ρ1 h1 H1 p1 e1 r1 f1 v rv=>f1 ρ1 H1 (Pre.refl _) (Ext.refl _ _) r1 v rv⟩⟩
def z1h (ma:G->M D):G->M Out:=fun γ=>do
 let _ ← ma γ
 pure (.nx γ)
theorem z2K (ha:SE X EX a ma) (hs:swapsWith a none pos.line X.env=pure false:=by first | exact z8t | exact z5Z | exact z3H | exact z7t | exact z77 | exact z6B | exact z3O | exact z3g | exact z3R | exact z4Q | exact z6o | rfl):S1 X EX (.Expr a pos) (z1h ma) :=
 ⟨PS.imp (zc1 ha.h hs) fun σ H D ⟨ρ,γ,h,rel,fin⟩=>⟨ρ,γ,h,rel,(Fin.bind fin).mono fun d ρ1 h1 H1 p1 e1 r1 f1 v rv=>f1 ρ1 H1 (Pre.refl _) (Ext.refl _ _) r1 σ (rel.g.mono p1 e1)⟩⟩
def sIf (k:G->M Bool) (ms mt:G->M Out):G->M Out:=fun γ=>do
 let t ← k γ
 if t then ms γ else mt γ
theorem s_if {sts':List Stmt}(hc:SC X EX c kc) (h1:SB X EX sts ms) (h2:SB X EX sts' mt):S1 X EX (.If c sts sts' pos) (sIf kc ms mt) :=
 ⟨PS.imp (zB3 hc.h h1.h h2.h) fun σ H D ⟨ρ,γ,h,rel,fin⟩=>⟨ρ,γ,h,rel,(Fin.bind fin).mono fun t ρ1 h1 H1 p1 e1 r1 f1=>by
  cases t with
  | true=>exact ⟨ρ1,γ,h1,⟨rel.g.mono p1 e1,r1⟩,f1⟩
  | false=>exact ⟨ρ1,γ,h1,⟨rel.g.mono p1 e1,r1⟩,f1⟩⟩⟩
def tG (K:PySem.W.Frag) (EX:XX) (m:D->G->M G):TG:=fun v σ H Q=>∃ ρ γ h d,Rel K ρ γ h σ H/\RD K ρ H d v/\Fin K EX ρ H (fun γ' ρ' _ H'=>∀ σ',RG K ρ' H' γ' σ'->Q σ' H') (m d γ h)
def tGs (K:PySem.W.Frag) (EX:XX) (m:List D->G->M G):TGs:=fun vs σ H Q=>∃ ρ γ h ds,Rel K ρ γ h σ H/\RDs K ρ H ds vs/\Fin K EX ρ H (fun γ' ρ' _ H'=>∀ σ',RG K ρ' H' γ' σ'->Q σ' H') (m ds γ h)
structure SG (X:Cx) (EX:XX) (tg:Expr) (m:D->G->M G):Prop where
 h:PG X tg (tG X.K EX m)
structure SGs (X:Cx) (EX:XX) (tg:List Expr) (m:List D->G->M G):Prop where
 h:PGs X tg (tGs X.K EX m)
theorem PG.imp {X:Cx}{e:Expr}{t t':TG}(h:PG X e t) (f:∀ v σ H Q,t' v σ H Q->t v σ H Q):PG X e t':=fun pins s σ H v u Q I r z=>h pins s σ H v u Q I r (f v σ H Q z)
theorem PGs.imp {X:Cx}{e:List Expr}{t t':TGs}(h:PGs X e t) (f:∀ v σ H Q,t' v σ H Q->t v σ H Q):PGs X e t':=fun pins s σ H v u Q I r z=>h pins s σ H v u Q I r (f v σ H Q z)
def tGk (K:PySem.W.Frag) (EX:XX) (own:List Nat) (m:D->G->M G):TG:=fun v σ H Q=>∃ ρ γ h d,Rel K ρ γ h σ H/\RD K ρ H d v/\Fin K EX ρ H (fun γ' ρ' _ H'=>∀ σ',RG K ρ' H' γ' σ'->(∀ j:Nat,j∉own->σ'[j]?=σ[j]?)->Q σ' H') (m d γ h)
def tGks (K:PySem.W.Frag) (EX:XX) (own:List Nat) (m:List D->G->M G):TGs:=fun vs σ H Q=>∃ ρ γ h ds,Rel K ρ γ h σ H/\RDs K ρ H ds vs/\Fin K EX ρ H (fun γ' ρ' _ H'=>∀ σ',RG K ρ' H' γ' σ'->(∀ j:Nat,j∉own->σ'[j]?=σ[j]?)->Q σ' H') (m ds γ h)
structure SGk (X:Cx) (EX:XX) (tg:Expr) (own:List Nat) (m:D->G->M G):Prop where
 h:PG X tg (tGk X.K EX own m)
structure SGks (X:Cx) (EX:XX) (tg:List Expr) (own:List Nat) (m:List D->G->M G):Prop where
 h:PGs X tg (tGks X.K EX own m)
def gN (i:Nat):D->G->M G:=fun d γ=>pure (γ.set i (some d))
theorem w6 (i:Nat) {x:Str}(hN:X.N.Nodup) (hi:X.N[i]?=some x:=by rfl) (hx:Loc X.env.scope x:=by first | exact Or.inl rfl | exact Or.inr rfl) (hf:X.fn x=true∨X.env.scope.names.lookup x=some .local:=by first | exact .inl rfl | exact .inr rfl | assumption):SG X EX (.Name x pos) (gN i) :=
 ⟨PG.imp (z5s hN hi hx hf) fun v σ H Q ⟨ρ,γ,h,d,rel,rd,fin⟩=>fin ρ H (Pre.refl _) (Ext.refl _ _) rel.h _ (rel.g.set i rd)⟩
theorem y8 (i:Nat) {x:Str}(hN:X.N.Nodup) (hi:X.N[i]?=some x:=by rfl) (hx:Loc X.env.scope x:=by first | exact Or.inl rfl | exact Or.inr rfl) (hf:X.fn x=true∨X.env.scope.names.lookup x=some .local:=by first | exact .inl rfl | exact .inr rfl | assumption):SGk X EX (.Name x pos) [i] (gN i) :=
 ⟨PG.imp (z5s hN hi hx hf) fun v σ H Q ⟨ρ,γ,h,d,rel,rd,fin⟩=>fin ρ H (Pre.refl _) (Ext.refl _ _) rel.h _ (rel.g.set i rd) fun j hj=>List.getElem?_set_ne (fun z=>hj (by simp [z]))⟩
def z1k:List D->G->M G:=fun ds γ=>match ds with
 | []=>pure γ
 | _=>bad
def J6 (m:D->G->M G) (ms:List D->G->M G):List D->G->M G:=fun ds γ=>match ds with
 | []=>bad
 | d :: r=>do
  let γ1 ← m d γ
  ms r γ1
theorem z1P:SGs X EX [] z1k:=⟨PGs.imp z80 fun v σ H Q ⟨ρ,γ,h,ds,rel,rd,fin⟩=>by
 cases ds with
 | nil=>simp only [RDs] at rd;exact ⟨rd,fin ρ H (Pre.refl _) (Ext.refl _ _) rel.h σ rel.g⟩
 | cons d r=>exact (show False from fin).elim⟩
theorem J5 {es:List Expr}{m:D->G->M G}{mr:List D->G->M G}(h1:SG X EX e m) (h2:SGs X EX es mr) (hs:(assignEach (e :: es) X.env).map (·.2)=assign e X.env :: (assignEach es X.env).map (·.2):=by rfl):SGs X EX (e :: es) (J6 m mr) :=
 ⟨PGs.imp (z65 h1.h h2.h hs) fun vs σ H Q ⟨ρ,γ,h,ds,rel,rd,fin⟩=>by
  cases ds with
  | nil=>exact (show False from fin).elim
  | cons d r =>
   simp only [RDs] at rd
   obtain ⟨v,vr,rfl,h3,h4⟩:=rd
   have fin':Fin X.K EX ρ H (fun γ' ρ' _ H'=>∀ σ',RG X.K ρ' H' γ' σ'->Q σ' H') ((m d γ >>= fun γ1=>mr r γ1) h):=fin
   exact ⟨v,vr,rfl,ρ,γ,h,d,rel,h3,(Fin.bind fin').mono fun γ1 ρ1 h1 H1 p1 e1 r1 f1 σ1 g1=>⟨ρ1,γ1,h1,r,⟨g1,r1⟩,h4.mono p1 e1,f1⟩⟩⟩
theorem z6i:SGks X EX [] [] z1k:=⟨PGs.imp z80 fun v σ H Q ⟨ρ,γ,h,ds,rel,rd,fin⟩=>by
 cases ds with
 | nil=>simp only [RDs] at rd;exact ⟨rd,fin ρ H (Pre.refl _) (Ext.refl _ _) rel.h σ rel.g fun _ _=>rfl⟩
 | cons d r=>exact (show False from fin).elim⟩
theorem z2Z {es:List Expr}{o1 o2:List Nat}{m:D->G->M G}{mr:List D->G->M G}(h1:SGk X EX e o1 m) (h2:SGks X EX es o2 mr) (hs:(assignEach (e :: es) X.env).map (·.2)=assign e X.env :: (assignEach es X.env).map (·.2):=by rfl):SGks X EX (e :: es) (o1++o2) (J6 m mr) :=
 ⟨PGs.imp (z65 h1.h h2.h hs) fun vs σ H Q ⟨ρ,γ,h,ds,rel,rd,fin⟩=>by
  cases ds with
  | nil=>exact (show False from fin).elim
  | cons d r =>
   simp only [RDs] at rd
   obtain ⟨v,vr,rfl,h3,h4⟩:=rd
   have fin':Fin X.K EX ρ H (fun γ' ρ' _ H'=>∀ σ',RG X.K ρ' H' γ' σ'->(∀ j:Nat,j∉o1++o2->σ'[j]?=σ[j]?)->Q σ' H') ((m d γ >>= fun γ1=>mr r γ1) h):=fin
   refine ⟨v,vr,rfl,ρ,γ,h,d,rel,h3,(Fin.bind fin').mono fun γ1 ρ1 h1 H1 p1 e1 r1 f1 σ1 g1 k1=>⟨ρ1,γ1,h1,r,⟨g1,r1⟩,h4.mono p1 e1,f1.mono fun γ2 ρ2 h2 H2 p2 e2 r2 f2 σ2 g2 k2=>f2 σ2 g2 fun j hj=>?_⟩⟩
   rw [List.mem_append,not_or] at hj
   rw [k2 j hj.2,k1 j hj.1]⟩
def gT (n:Nat) (m:List D->G->M G):D->G->M G:=fun d γ=>match d with
 | .tup xs=>if xs.length=n then m xs γ else bad
 | _=>bad
theorem z2I {es:List Expr}{k n:Nat}{m:List D->G->M G}(hc:X.calm=true) (h:SGs X EX es m) (hn:(assignEach es X.env).length=n:=by rfl) (hst:(assignEach es X.env).findIdx? (·.1)=none:=by rfl):SG X EX (.Tuple es k pos) (gT n m) :=
 ⟨PG.imp (za6 hc h.h hn hst) fun v σ H Q ⟨ρ,γ,h,d,rel,rd,fin⟩=>by
  cases d<;>first | exact (show False from fin).elim | skip
  rename_i xs
  simp only [RD] at rd
  obtain ⟨q,vs,rfl,h1,h2⟩:=rd
  have fin':Fin X.K EX ρ H (fun γ' ρ' _ H'=>∀ σ',RG X.K ρ' H' γ' σ'->Q σ' H') ((if xs.length=n then m xs γ else bad) h):=fin
  by_cases hl:xs.length=n
  ·rw [if_pos hl] at fin'
   exact ⟨q,vs,rfl,h1,by rw [← h2.length];exact hl,ρ,γ,h,xs,rel,h2,fin'⟩
  ·rw [if_neg hl] at fin';exact (show False from fin').elim⟩
theorem z8d {es:List Expr}{k n:Nat}{own:List Nat}{m:List D->G->M G}(hc:X.calm=true) (h:SGks X EX es own m) (hn:(assignEach es X.env).length=n:=by rfl) (hst:(assignEach es X.env).findIdx? (·.1)=none:=by rfl):SGk X EX (.Tuple es k pos) own (gT n m) :=
 ⟨PG.imp (za6 hc h.h hn hst) fun v σ H Q ⟨ρ,γ,h,d,rel,rd,fin⟩=>by
  cases d<;>first | exact (show False from fin).elim | skip
  rename_i xs
  simp only [RD] at rd
  obtain ⟨q,vs,rfl,h1,h2⟩:=rd
  have fin':Fin X.K EX ρ H (fun γ' ρ' _ H'=>∀ σ',RG X.K ρ' H' γ' σ'->(∀ j:Nat,j∉own->σ'[j]?=σ[j]?)->Q σ' H') ((if xs.length=n then m xs γ else bad) h):=fin
  by_cases hl:xs.length=n
  ·rw [if_pos hl] at fin'
   exact ⟨q,vs,rfl,h1,by rw [← h2.length];exact hl,ρ,γ,h,xs,rel,h2,fin'⟩
  ·rw [if_neg hl] at fin';exact (show False from fin').elim⟩
def fSet:D->D->D->M Unit:=fun o i v=>match o,i with
 | .ref n,.int k=>fun h=>match h[n]? with
  | some (.lst xs)=>(match ixN xs.length k with
   | some j=>.ok () (h.set n (.lst (xs.set j v)))
   | none=>.bad)
  | _=>.bad
 | _,_=>bad
def gIx (mo mi:G->M D):D->G->M G:=fun v γ=>do
 let o ← mo γ
 let i ← mi γ
 let _ ← fSet o i v
 pure γ
theorem zg2 {o i:Expr}{mo mi:G->M D}(ho:SE X EX o mo) (hi:SE X EX i mi)
 (ha:∀ v,assign (.Subscript o i pos) X.env v=(do
  let ov ← holding [v] (eval o X.env)
  let iv ← holding [v,ov] (eval i X.env)
  standAt pos
  holding [v,ov,iv] (setItem ov iv v)
  release [v,ov,iv] []):=by intro _;rfl):SG X EX (.Subscript o i pos) (gIx mo mi) :=
 ⟨PG.imp (z9S ho.h hi.h set_list ha) fun v σ H Q ⟨ρ,γ,h,d,rel,rd,fin⟩=>⟨ρ,γ,h,rel,(Fin.bind fin).mono fun od ρ1 h1 H1 p1 e1 r1 f1 ov ro=>⟨ρ1,γ,h1,⟨rel.g.mono p1 e1,r1⟩,(Fin.bind f1).mono fun id ρ2 h2 H2 p2 e2 r2 f2 iv ri=>by
  have f3:=Fin.bind f2
  cases od<;>first | exact (show False from f3).elim | skip
  rename_i n
  cases id<;>first | exact (show False from f3).elim | skip
  rename_i k
  simp only [RD] at ro ri
  obtain ⟨q,rfl,hq⟩:=ro
  subst ri
  have hq2:=p2 n q hq
  unfold fSet at f3
  dsimp only at f3
  cases e4:h2[n]? with
  | none=>rw [e4] at f3;exact (show False from f3).elim
  | some ob =>
   cases ob with
   | set ks=>rw [e4] at f3;exact (show False from f3).elim
   | dct=>rw [e4] at f3;exact (show False from f3).elim
   | dK kvs=>rw [e4] at f3;exact (show False from f3).elim
   | dF kvs=>rw [e4] at f3;exact (show False from f3).elim
   | exc c=>rw [e4] at f3;exact (show False from f3).elim
   | lst xs =>
    rw [e4] at f3
    dsimp only at f3
    cases e5:ixN xs.length k with
    | none=>rw [e5] at f3;exact (show False from f3).elim
    | some j =>
     rw [e5] at f3
     obtain ⟨a1,n1,vs,o1,d1⟩:=r2.at e4
     rw [hq2] at n1;cases n1
     have rd2:=(rd.mono p1 e1).mono p2 e2
     have dd:=d1.set j rd2
     refine ⟨q,vs,k,j,rfl,rfl,o1,by rw [← d1.length];exact e5,?_⟩
     have ext:Ext X.K H2 (upd H2 q (.lst (vs.set j v))):=Ext.upd (.inr ⟨_,o1,trivial⟩)
     have f4:=f3 ρ2 _ (Pre.refl _) ext (r2.set e4 hq2 dd)
     exact f4 ρ2 _ (Pre.refl _) (Ext.refl _ _) (r2.set e4 hq2 dd) σ (((rel.g.mono p1 e1).mono p2 e2).mono (Pre.refl _) ext)⟩⟩⟩
def sAsg (ma:G->M D) (g:D->G->M G):G->M Out:=fun γ=>do
 let d ← ma γ
 let γ1 ← g d γ
 pure (.nx γ1)
theorem z3a {tg:Expr}{g:D->G->M G}(ha:SE X EX a ma) (hg:SG X EX tg g) (hs:swapsWithSole [tg] a pos.line X.env=pure false:=by rfl) (hw:swappedStores [tg] a X.env=pure none:=by rfl)
 (h1:(assignEach [tg] X.env).map (·.2)=[assign tg X.env]:=by rfl):S1 X EX (.Assign [tg] a pos) (sAsg ma g) :=
 ⟨PS.imp (zq5 ha.h hg.h hs hw h1) fun σ H D ⟨ρ,γ,h,rel,fin⟩=>⟨ρ,γ,h,rel,(Fin.bind fin).mono fun d ρ1 h1 H1 p1 e1 r1 f1 v rv=>⟨ρ1,γ,h1,d,⟨rel.g.mono p1 e1,r1⟩,rv,(Fin.bind f1).mono fun γ1 ρ2 h2 H2 p2 e2 r2 f2 σ2 g2 =>
  f2 ρ2 H2 (Pre.refl _) (Ext.refl _ _) r2 σ2 g2⟩⟩⟩
theorem J7 (i:Nat) {x:Str}(hN:X.N.Nodup) (ha:SE X EX a ma) (hi:X.N[i]?=some x:=by rfl) (hx:Loc X.env.scope x:=by first | exact Or.inl rfl | exact Or.inr rfl) (hs:swapsWith a (some (.Name x p)) pos.line X.env=pure false:=by first | exact z8t | exact z5Z | exact z3H | exact z7t | exact z77 | exact z6B | exact z3O | exact z3g | exact z3R | exact z4Q | exact z6o | rfl)
 (hf:X.fn x=true∨X.env.scope.names.lookup x=some .local:=by first | exact .inl rfl | exact .inr rfl | assumption):S1 X EX (.Assign [.Name x p] a pos) (sAsg ma (gN i)) :=
 ⟨PS.imp (zq7 hN hi hx ha.h hs hf) fun σ H D ⟨ρ,γ,h,rel,fin⟩=>⟨ρ,γ,h,rel,(Fin.bind fin).mono fun d ρ1 h1 H1 p1 e1 r1 f1 v rv=>f1 ρ1 H1 (Pre.refl _) (Ext.refl _ _) r1 _ ((rel.g.mono p1 e1).set i rv)⟩⟩
end
section
variable {X:Cx}{EX:XX}{a o e:Expr}{pos cpos apos:Pos}{ma mo:G->M D}
def updL (n:Nat) (f:List D->Option (D×List D)):M D:=fun h=>match h[n]? with
 | some (.lst xs)=>(match f xs with
  | some (d,ys)=>if ys.length≤sizeLine then .ok d (h.set n (.lst ys)) else .bad
  | none=>.bad)
 | _=>.bad
def z38:D->M Nat
 | .ref n=>fun h=>match h[n]? with
  | some (.lst _)=>.ok n h
  | _=>.bad
 | _=>bad
def z09 (n:Nat) (v:D):M D:=updL n fun xs=>some (.non,xs++[v])
def z3X (n:Nat) (i:D):M D:=match i with
 | .int k=>updL n fun xs=>if -(2 ^ 63)≤k/\k<2 ^ 63 then (match seqIndex? k xs.length with
  | some j=>(xs[j]?).map fun d=>(d,xs.eraseIdx j)
  | none=>none) else none
 | _=>bad
def eM1 (f:Nat->D->M D) (mo ma:G->M D):G->M D:=fun γ=>do
 let o ← mo γ
 let n ← z38 o
 let v ← ma γ
 f n v
def eM0 (f:Nat->M D) (mo:G->M D):G->M D:=fun γ=>do
 let o ← mo γ
 let n ← z38 o
 f n
theorem z6b {K:PySem.W.Frag}{ρ:List Addr}{h:AH}{H:Hp}{Q:VK}{n:Nat}{q:Addr}{f:List D->Option (D×List D)}(r:RH K ρ h H) (hq:ρ[n]?=some q) (fin:FE K EX ρ H Q (updL n f h)) :
 ∃ xs d ys vs,f xs=some (d,ys)/\ys.length≤sizeLine/\H q=some (.lst vs)/\RDs K ρ H xs vs/\∀ v ws,RD K ρ H d v->RDs K ρ H ys ws->Q v (upd H q (.lst ws)):=by
 unfold updL at fin
 cases e:h[n]? with
 | none=>rw [e] at fin;exact fin.elim
 | some ob =>
  cases ob with
  | set ks=>rw [e] at fin;exact fin.elim
  | dct=>rw [e] at fin;exact fin.elim
  | dK kvs=>rw [e] at fin;exact fin.elim
  | dF kvs=>rw [e] at fin;exact fin.elim
  | exc c=>rw [e] at fin;exact fin.elim
  | lst xs =>
   rw [e] at fin
   dsimp only at fin
   cases e2:f xs with
   | none=>rw [e2] at fin;exact fin.elim
   | some dy =>
    obtain ⟨d,ys⟩:=dy
    rw [e2] at fin
    dsimp only at fin
    split at fin
    ·rename_i hl
     obtain ⟨a1,n1,vs,o1,d1⟩:=r.at e
     rw [hq] at n1;cases n1
     refine ⟨xs,d,ys,vs,e2,hl,o1,d1,fun v ws rv rw'=>?_⟩
     have ext:Ext K H (upd H q (.lst ws)):=Ext.upd (.inr ⟨_,o1,trivial⟩)
     exact fin ρ _ (Pre.refl _) ext (r.set e hq rw') v (rv.mono (Pre.refl _) ext)
    ·exact fin.elim
theorem ze0 {K:PySem.W.Frag}{ρ:List Addr}{h:AH}{H:Hp}{n:Nat}{q:Addr}{Z:Nat->List Addr->AH->Hp->Prop}(r:RH K ρ h H) (hq:ρ[n]?=some q) (f:Fin K EX ρ H Z (z38 (.ref n) h)):tyV K "list" (.ref q) H/\Z n ρ h H:=by
 unfold z38 at f
 dsimp only at f
 cases e:h[n]? with
 | none=>rw [e] at f;exact f.elim
 | some ob =>
  cases ob with
  | set ks=>rw [e] at f;exact f.elim
  | dct=>rw [e] at f;exact f.elim
  | dK kvs=>rw [e] at f;exact f.elim
  | dF kvs=>rw [e] at f;exact f.elim
  | exc c=>rw [e] at f;exact f.elim
  | lst xs =>
   rw [e] at f
   obtain ⟨a1,n1,vs,o1,d1⟩:=r.at e
   rw [hq] at n1;cases n1
   exact ⟨.inl ⟨rfl,vs,SqL.of o1⟩,f ρ H (Pre.refl _) (Ext.refl _ _) r⟩
theorem zq6 {f:Nat->D->M D}{r:V->List V->Hp->VK->Prop}(hr:∀ ρ h H n q y u Q,RH X.K ρ h H->ρ[n]?=some q->RD X.K ρ H y u->FE X.K EX ρ H Q (f n y h)->r (.ref q) [u] H Q) :
 ∀ σ H Q,tE X.K EX (eM1 f mo ma) σ H Q->tBM X.K "list" r (tE X.K EX mo) (z8a (tE X.K EX ma) tNil) σ H Q:=fun σ H Q ⟨ρ,γ,h,rel,fin⟩=>⟨ρ,γ,h,rel,(Fin.bind fin).mono fun x ρ1 h1 H1 p1 e1 r1 f1 v rv=>by
 have f2:=Fin.bind f1
 cases x<;>first | exact (show False from f2).elim | skip
 rename_i n
 simp only [RD] at rv
 obtain ⟨q,rfl,hq⟩:=rv
 obtain ⟨lt,f3⟩:=ze0 r1 hq f2
 exact ⟨lt,ρ1,γ,h1,⟨rel.g.mono p1 e1,r1⟩,(Fin.bind f3).mono fun y ρ2 h2 H2 p2 e2 r2 f4 u ru=>hr ρ2 h2 H2 n q y u Q r2 (p2 n q hq) ru f4⟩⟩
theorem z0X (ho:SE X EX o mo) (ha:SE X EX a ma)
 (hbase:attributeBase o "append" X.env (eval o X.env)=eval o X.env:=by rfl)
 (hfew:((backTo cpos (starEach [a] X.env)).all (fun x=>!x.1) && (backToKw cpos (keywordEach [] X.env)).all (fun x=>x.1.isSome)
  && decide (([a]:List Expr).length+([]:List Keyword).length+(if ([]:List Keyword).isEmpty then 0 else 1)<30))=true:=by rfl)
 (hline:(apos.endLine == cpos.line)=true:=by rfl) (hs:starEach [a] X.env=[(false,eval a X.env)]:=by rfl) :
 SE X EX (.Call (.Attribute o "append" apos) [a] [] cpos) (eM1 z09 mo ma) :=
 ⟨PE.imp (zu2 PySem.F.plainAttrs_list PySem.F.slot_list_append PySem.F.type_list_append z5i ho.h (z2q ha.h z3A hs) hbase hfew hline hs rfl) (zq6 fun ρ h H n q y u Q r hq ru fin=>by
  obtain ⟨xs,d,ys,vs,g1,g2,g3,g4,g5⟩:=z6b r hq fin
  cases g1
  have hl:=g4.length
  rw [List.length_append,List.length_singleton] at g2
  exact ⟨q,vs,u,rfl,rfl,g3,by omega,g5 _ _ (by simp [RD]) (g4.append (RDs.cons ru RDs.nil))⟩)⟩
theorem z91 (ho:SE X EX o mo) (ha:SE X EX a ma)
 (hbase:attributeBase o "pop" X.env (eval o X.env)=eval o X.env:=by rfl)
 (hfew:((backTo cpos (starEach [a] X.env)).all (fun x=>!x.1) && (backToKw cpos (keywordEach [] X.env)).all (fun x=>x.1.isSome)
  && decide (([a]:List Expr).length+([]:List Keyword).length+(if ([]:List Keyword).isEmpty then 0 else 1)<30))=true:=by rfl)
 (hline:(apos.endLine == cpos.line)=true:=by rfl) (hs:starEach [a] X.env=[(false,eval a X.env)]:=by rfl) :
 SE X EX (.Call (.Attribute o "pop" apos) [a] [] cpos) (eM1 z3X mo ma) :=
 ⟨PE.imp (zu2 PySem.F.plainAttrs_list PySem.F.slot_list_pop PySem.F.type_list_pop z8L ho.h (z2q ha.h z3A hs) hbase hfew hline hs rfl) (zq6 fun ρ h H n q y u Q r hq ru fin=>by
  cases y<;>first | exact (show False from fin).elim | skip
  rename_i k
  simp only [RD] at ru
  subst ru
  obtain ⟨xs,d,ys,vs,g1,g2,g3,g4,g5⟩:=z6b r hq fin
  split at g1
  ·rename_i hk
   cases e5:seqIndex? k xs.length with
   | none=>rw [e5] at g1;cases g1
   | some j =>
    rw [e5] at g1
    obtain ⟨d',e1,e2⟩:=Option.map_eq_some_iff.mp g1
    cases e2
    obtain ⟨v,e3,e4⟩:=g4.get e1
    exact ⟨q,vs,k,j,v,rfl,rfl,g3,hk.1,hk.2,by rw [← g4.length];exact e5,e3,g5 _ _ e4 (g4.eraseIdx j)⟩
  ·cases g1)⟩
end
inductive Src where
 | con (xs:List D)
 | lst (n:Nat) (xs:List D)
 | obj (n:Nat) (o:O) (xs:List D)
def Src.items:Src->List D
 | .con xs=>xs
 | .lst _ xs=>xs
 | .obj _ _ xs=>xs
def Src.good:Src->AH->Prop
 | .con _,_=>True
 | .lst n xs,h=>h[n]?=some (.lst xs)
 | .obj n o _,h=>h[n]?=some o
open Classical in
noncomputable def Src.chk (s:Src):M Unit:=fun h=>if s.good h then .ok () h else .bad
def JOK (K:PySem.W.Frag) (src:Src) (ρ:List Addr) (H:Hp) (J:It):Prop:=∀ i ρ1 h1 H1,Pre ρ ρ1->Ext K H H1->RH K ρ1 h1 H1->src.good h1 ->
 (∀ d,src.items[i]?=some d->J.go i H1/\∀ x H2,J.yld i H1 x H2->RD K ρ1 H2 d x/\RH K ρ1 h1 H2/\Ext K H1 H2)/\(src.items.length=i->J.stop i H1)
def tI (K:PySem.W.Frag) (EX:XX) (m:G->M Src):TI:=fun σ H R=>∃ ρ γ h,Rel K ρ γ h σ H/\Fin K EX ρ H (fun src ρ' _ H'=>∀ J,JOK K src ρ' H' J->R J H') (m γ h)
structure SI (X:Cx) (EX:XX) (tg iter:Expr) (m:G->M Src):Prop where
 h:PI X tg iter (tI X.K EX m)
theorem PI.imp {X:Cx}{tg e:Expr}{t t':TI}(h:PI X tg e t) (f:∀ σ H R,t' σ H R->t σ H R):PI X tg e t':=fun pins s σ H R I z=>h pins s σ H R I (f σ H R z)
section
variable {X:Cx}{EX:XX}{a o e tg:Expr}{pos cpos apos p:Pos}{ma mo:G->M D}{mr:G->M (List D)}
def z1g (ma:G->M D):G->M Src:=fun γ=>do
 let x ← ma γ
 match x with
 | .fl xs=>pure (.con xs)
 | .ref n=>do
  let xs ← getL n
  pure (.lst n xs)
 | _=>bad
theorem z25 (ha:SE X EX a ma):SI X EX tg a (z1g ma) :=
 ⟨PI.imp (zf0 ha.h) fun σ H R ⟨ρ,γ,h,rel,fin⟩=>⟨ρ,γ,h,rel,(Fin.bind fin).mono fun x ρ1 h1 H1 p1 e1 r1 f1 v rv=>by
  cases x<;>first | exact (show False from f1).elim | skip
  case fl xs =>
   simp only [RD] at rv
   obtain ⟨q,vs,rfl,h2,h3⟩:=rv
   refine ⟨q,rfl,⟨vs,h2.sq⟩,f1 ρ1 H1 (Pre.refl _) (Ext.refl _ _) r1 _ fun i ρ2 h4 H2 p2 e2 r2 _=>⟨fun d hd=>?_,fun hi=>?_⟩⟩
   ·have h3':=h3.mono p2 e2
    obtain ⟨x,g1,g2⟩:=h3'.get hd
    refine ⟨⟨vs,x,(e2.l _ _ h2).sq,g1⟩,fun y H3 ⟨z1,z2⟩=>?_⟩
    subst z1
    have:=z2 vs (e2.l _ _ h2).sq
    rw [g1] at this;cases this
    exact ⟨g2,r2,Ext.refl _ _⟩
   ·exact ⟨vs,(e2.l _ _ h2).sq,by rw [← h3.length];exact Nat.le_of_eq hi⟩
  case ref n =>
   have f2:Fin X.K EX ρ1 H1 (fun src ρ' _ H'=>∀ J,JOK X.K src ρ' H' J->R J H') ((getL n >>= fun xs=>(pure (.lst n xs):M Src)) h1):=f1
   have f3:=Fin.bind f2
   cases e3:getL n h1 with
   | bad=>rw [e3] at f3;exact f3.elim
   | err z hz=>exact (z2d e3).elim
   | ok xs h3 =>
    obtain ⟨rfl,q1⟩:=z27 e3
    rw [e3] at f3
    simp only [RD] at rv
    obtain ⟨q,rfl,hq⟩:=rv
    obtain ⟨a1,n1,vs,o1,d1⟩:=r1.at q1
    rw [hq] at n1;cases n1
    have f4:=f3 ρ1 H1 (Pre.refl _) (Ext.refl _ _) r1
    refine ⟨q,rfl,⟨vs,SqL.of o1⟩,f4 ρ1 H1 (Pre.refl _) (Ext.refl _ _) r1 _ fun i ρ2 h4 H2 p2 e2 r2 g=>?_⟩
    have g':h4[n]?=some (.lst xs):=g
    obtain ⟨a2,n2,vs2,o2,d2⟩:=r2.at g'
    rw [p2 n q hq] at n2;cases n2
    refine ⟨fun d hd=>?_,fun hi=>⟨vs2,SqL.of o2,by rw [← d2.length];exact Nat.le_of_eq hi⟩⟩
    obtain ⟨x,g1,g2⟩:=d2.get hd
    refine ⟨⟨vs2,x,SqL.of o2,g1⟩,fun y H3 ⟨z1,z2⟩=>?_⟩
    subst z1
    have:=z2 vs2 (SqL.of o2)
    rw [g1] at this;cases this
    exact ⟨g2,r2,Ext.refl _ _⟩⟩⟩
def Y6 (ma:G->M D):G->M Src:=fun γ=>do
 let x ← ma γ
 match x with
 | .tup xs=>pure (.con xs)
 | _=>bad
theorem z0v (ha:SE X EX a ma):SI X EX tg a (Y6 ma) :=
 ⟨PI.imp (zm3 ha.h) fun σ H R ⟨ρ,γ,h,rel,fin⟩=>⟨ρ,γ,h,rel,(Fin.bind fin).mono fun x ρ1 h1 H1 p1 e1 r1 f1 v rv=>by
  cases x<;>first | exact (show False from f1).elim | skip
  rename_i xs
  simp only [RD] at rv
  obtain ⟨q,vs,rfl,h2,h3⟩:=rv
  refine ⟨q,rfl,⟨vs,h2⟩,f1 ρ1 H1 (Pre.refl _) (Ext.refl _ _) r1 _ fun i ρ2 h4 H2 p2 e2 r2 _=>⟨fun d hd=>?_,fun hi=>?_⟩⟩
  ·have h3':=h3.mono p2 e2
   obtain ⟨x,g1,g2⟩:=h3'.get hd
   refine ⟨⟨vs,x,e2.t _ _ h2,g1⟩,fun y H3 ⟨z1,z2⟩=>?_⟩
   subst z1
   have:=z2 vs (e2.t _ _ h2)
   rw [g1] at this;cases this
   exact ⟨g2,r2,Ext.refl _ _⟩
  ·exact ⟨vs,e2.t _ _ h2,by rw [← h3.length];exact Nat.le_of_eq hi⟩⟩⟩
def z0j (n:Nat):List D:=(List.range n).map fun (i:Nat)=>.int i
def z0J (ma:G->M D):G->M Src:=fun γ=>do
 let x ← ma γ
 match x with
 | .int j=>if -(2 ^ 62)≤j/\j<2 ^ 62 then pure (.con (z0j j.toNat)) else bad
 | _=>bad
theorem z0A (hg:Gl X "range") (hm:X.mg "range" = none) (ha:SE X EX a ma) (hs:starEach [a] X.env=[(false,eval a X.env)]:=by rfl):SI X EX tg (.Call (.Name "range" p) [a] [] pos) (z0J ma) :=
 ⟨PI.imp (z74 hg hm (z2q ha.h z3A hs) hs) fun σ H R ⟨ρ,γ,h,rel,fin⟩=>⟨ρ,γ,h,rel,(Fin.bind fin).mono fun x ρ1 h1 H1 p1 e1 r1 f1 v rv=>by
  cases x<;>first | exact (show False from f1).elim | skip
  rename_i j
  simp only [RD] at rv
  subst rv
  have f2:Fin X.K EX ρ1 H1 (fun src ρ' _ H'=>∀ J,JOK X.K src ρ' H' J->R J H') ((if -(2 ^ 62)≤j/\j<2 ^ 62 then pure (.con (z0j j.toNat)) else bad:M Src) h1):=f1
  by_cases hj:-(2 ^ 62)≤j/\j<2 ^ 62
  ·rw [if_pos hj] at f2
   refine ⟨j,rfl,hj.1,hj.2,f2 ρ1 H1 (Pre.refl _) (Ext.refl _ _) r1 _ fun i ρ2 h4 H2 p2 e2 r2 _=>⟨fun d hd=>?_,fun hi=>?_⟩⟩
   ·have hd':(z0j j.toNat)[i]?=some d:=hd
    unfold z0j at hd'
    rw [List.getElem?_map] at hd'
    have hi:i<j.toNat:=by
     by_cases hi:i<j.toNat
     ·exact hi
     ·rw [List.getElem?_eq_none (by simpa using hi)] at hd';cases hd'
    rw [List.getElem?_range hi] at hd'
    cases hd'
    refine ⟨hi,fun y H3 ⟨z1,z2⟩=>?_⟩
    subst z1;subst z2
    exact ⟨by simp [RD],r2,Ext.refl _ _⟩
   ·have hi':(z0j j.toNat).length=i:=hi
    unfold z0j at hi'
    rw [List.length_map,List.length_range] at hi'
    exact Nat.le_of_eq hi'
  ·rw [if_neg hj] at f2;exact f2.elim⟩⟩
end
noncomputable def forR (src:Src) (g:D->G->M G) (body:G->M Out):List D->G->M Out
 | [],γ=>do
  let _ ← src.chk
  pure (.nx γ)
 | d :: r,γ=>do
  let _ ← src.chk
  let γ1 ← g d γ
  let o ← body γ1
  match o with
  | .nx γ2=>forR src g body r γ2
  | .ct γ2=>forR src g body r γ2
  | .bk γ2=>pure (.nx γ2)
  | .rt v=>pure (.rt v)
noncomputable def sFor (mi:G->M Src) (g:D->G->M G) (body:G->M Out):G->M Out:=fun γ=>do
 let src ← mi γ
 forR src g body src.items γ
theorem z3W {K:PySem.W.Frag}{EX:XX}{ρ:List Addr}{H:Hp}{α:Type}{P:α->List Addr->AH->Hp->Prop}{src:Src}{f:Unit->M α}{h:AH}(fin:Fin K EX ρ H P ((src.chk >>= f) h)) (r:RH K ρ h H):src.good h/\Fin K EX ρ H P (f () h):=by
 have f1:=Fin.bind fin
 unfold Src.chk at f1
 split at f1
 ·rename_i hg
  exact ⟨hg,f1 ρ H (Pre.refl _) (Ext.refl _ _) r⟩
 ·exact f1.elim
section
variable {X:Cx}{EX:XX}{a o e tg c:Expr}{pos cpos apos p:Pos}{ma mo:G->M D}{mi:G->M Src}{g:D->G->M G}{mb:G->M Out}{sts:List Stmt}{kc:G->M Bool}
theorem z3c (hp:PassesOwn (model X.prog X.w) X.A X.env X.xe) (hc:X.calm=true) (hi:SI X EX tg e mi) (hg:SG X EX tg g) (hb:SB X EX sts mb) (hs:∀ x,foldedSetIterable e X.env x=pure x:=by intro _;rfl):S1 X EX (.For tg e sts [] pos) (sFor mi g mb) :=
 ⟨PS.imp (zs9 hp hc hi.h hg.h hb.h hs) fun σ H D ⟨ρ,γ,h,rel,fin⟩=>⟨ρ,γ,h,rel,(Fin.bind fin).mono fun src ρ0 h0 H0 p0 e0 r0 f0 J hJ=>by
  refine ⟨fun i m σ H=>m+i=src.items.length/\∃ ρ γ h,Pre ρ0 ρ/\Ext X.K H0 H/\Rel X.K ρ γ h σ H/\Fin X.K EX ρ H (fun o ρ' _ H'=>OutP X.K D o ρ' H') (forR src g mb (src.items.drop i) γ h),
   ⟨src.items.length,rfl,ρ0,γ,h0,Pre.refl _,Ext.refl _ _,⟨rel.g.mono p0 e0,r0⟩,f0⟩,?_⟩
  rintro i m σ1 H1 ⟨hm,ρ1,γ1,h1,p1,e1,rel1,f1⟩
  by_cases hi:i<src.items.length
  ·have hd:src.items.drop i=src.items[i] :: src.items.drop (i+1):=List.drop_eq_getElem_cons hi
   rw [hd] at f1
   unfold forR at f1
   obtain ⟨good,f2⟩:=z3W f1 rel1.h
   obtain ⟨j1,j2⟩:=hJ i ρ1 h1 H1 p1 e1 rel1.h good
   obtain ⟨go,yld⟩:=j1 src.items[i] (List.getElem?_eq_getElem hi)
   refine .inr ⟨go,fun σ' H'=>∃ ρ γ h,Pre ρ0 ρ/\Ext X.K H0 H'/\Rel X.K ρ γ h σ' H'/\Fin X.K EX ρ H' (fun o ρ' _ H'=>OutP X.K D o ρ' H') (forR src g mb (src.items.drop (i+1)) γ h),fun σ' H' z=>⟨m - 1,by omega,by omega,z⟩,fun x H2 y=>?_⟩
   obtain ⟨rd,rh,ext⟩:=yld x H2 y
   refine ⟨ρ1,γ1,h1,_,⟨rel1.g.mono (Pre.refl _) ext,rh⟩,rd,(Fin.bind (Fin.up (Pre.refl _) ext f2)).mono fun γ2 ρ3 h3 H3 p3 e3 r3 f3 σ3 g3=>⟨ρ3,γ2,h3,⟨g3,r3⟩,(Fin.bind f3).mono fun o ρ4 h4 H4 p4 e4 r4 f4=>?_⟩⟩
   have pp:Pre ρ0 ρ4:=(p1.trans p3).trans p4
   have ee:Ext X.K H0 H4:=((e1.trans ext).trans e3).trans e4
   cases o with
   | nx γ5=>exact fun σ5 g5=>⟨ρ4,γ5,h4,pp,ee,⟨g5,r4⟩,f4⟩
   | ct γ5=>exact fun σ5 g5=>⟨ρ4,γ5,h4,pp,ee,⟨g5,r4⟩,f4⟩
   | bk γ5=>exact fun σ5 g5=>f4 ρ4 H4 (Pre.refl _) (Ext.refl _ _) r4 σ5 g5
   | rt d=>exact fun v rv=>f4 ρ4 H4 (Pre.refl _) (Ext.refl _ _) r4 v rv
  ·have hd:src.items.drop i=[]:=List.drop_eq_nil_of_le (by omega)
   rw [hd] at f1
   unfold forR at f1
   obtain ⟨good,f2⟩:=z3W f1 rel1.h
   obtain ⟨j1,j2⟩:=hJ i ρ1 h1 H1 p1 e1 rel1.h good
   exact .inl ⟨j2 (by omega),f2 ρ1 H1 (Pre.refl _) (Ext.refl _ _) rel1.h σ1 rel1.g⟩⟩⟩
end
def capG (cap:List (Option Nat)) (γ:G):G:=cap.map fun o=>match o with | some j=>(γ[j]?).join | none=>none
theorem z7h {K:PySem.W.Frag}{ρ:List Addr}{H:Hp}{γ:G}{σ:L2.St}(cap:List (Option Nat)) (r:RG K ρ H γ σ):RG K ρ H (capG cap γ) (z1U cap σ):=by
 refine ⟨by simp [capG,z1U],fun i d e=>?_⟩
 unfold capG at e
 unfold z1U
 rw [List.getElem?_map] at e ⊢
 cases q:cap[i]? with
 | none=>rw [q] at e;cases e
 | some o =>
  rw [q] at e
  cases o with
  | none=>simp at e
  | some j =>
   have e2:(γ[j]?).join=some d:=by simpa using e
   have e3:γ[j]?=some (some d):=by
    cases q2:γ[j]? with
    | none=>rw [q2] at e2;simp at e2
    | some o2=>rw [q2] at e2;simp at e2;rw [e2]
   obtain ⟨v,h1,h2⟩:=r.var j d e3
   exact ⟨v,by simp [h1],h2⟩
noncomputable def z2V (src:Src) (g:D->G->M G) (k:G->M Bool) (me:G->M D) (n0:Nat) (γ:G):List D->M Unit
 | []=>do
  let _ ← src.chk
  pure ()
 | d :: r=>do
  let _ ← src.chk
  let γ1 ← g d γ
  let t ← k γ1
  if t then do
   let v ← me γ1
   let _ ← z09 n0 v
   z2V src g k me n0 γ r
  else z2V src g k me n0 γ r
noncomputable def x8 (cap:List (Option Nat)) (mi:G->M Src) (g:D->G->M G) (k:G->M Bool) (me:G->M D):G->M D:=fun γ=>do
 let src ← mi γ
 let n0 ← (fun h=>.ok h.length (h++[.lst []]):M Nat)
 let _ ← z2V src g k me n0 (capG cap γ) src.items
 pure (.ref n0)
structure SCs (X:Cx) (EX:XX) (ifs:List Expr) (m:G->M Bool):Prop where
 h:PTs X ifs (tT X.K EX m)
theorem PTs.imp {X:Cx}{e:List Expr}{t t':TT}(h:PTs X e t) (f:∀ σ H Q,t' σ H Q->t σ H Q):PTs X e t':=fun pins s σ H Q I z=>h pins s σ H Q I (f σ H Q z)
section
variable {X:Cx}{EX:XX}{elt tg iter c:Expr}{ifs:List Expr}{sc:Scope}{pos:Pos}{N':List Str}{cap:List (Option Nat)}{own:List Nat}{mi:G->M Src}{g:D->G->M G}{k kr:G->M Bool}{me:G->M D}
theorem z00:SCs X EX [] (fun _=>pure true):=⟨PTs.imp z8g fun σ H Q ⟨ρ,γ,h,rel,fin⟩=>fin ρ H (Pre.refl _) (Ext.refl _ _) rel.h⟩
theorem z1c (h:SC X EX c k):SCs X EX [c] k:=⟨PTs.imp (z8R h.h z8g) fun σ H Q ⟨ρ,γ,h,rel,fin⟩=>⟨ρ,γ,h,rel,fin.mono fun t ρ1 h1 H1 p1 e1 r1 f1=>by
 cases t with
 | true=>exact f1
 | false=>exact f1⟩⟩
theorem z6z {σ:L2.St}{H0:Hp}{ρ0:List Addr}{h0:AH}{γ:G}{src:Src}{J:It}{Dd:Addr}{P:Hp->Prop}(r0:RH X.K ρ0 h0 H0) (rg:RG X.K ρ0 H0 γ σ) (hJ:JOK X.K src ρ0 H0 J) (hD:H0 Dd=none) (hown:∀ j∈own,cap[j]?=some none)
 (fin:Fin X.K EX (ρ0++[Dd]) (upd H0 Dd (.lst [])) (fun _ ρ' h' H'=>ρ'[h0.length]?=some Dd->RH X.K ρ' h' H'->Ext X.K (upd H0 Dd (.lst [])) H'->Pre (ρ0++[Dd]) ρ'->P H') (z2V src g k me h0.length (capG cap γ) src.items (h0++[.lst []]))) :
 z4c cap (tGk X.K EX own g) (tT X.K EX k) (tE X.K EX me) σ J Dd P (upd H0 Dd (.lst [])):=by
 have rP:=r0.push hD (RDs.nil (K:=X.K) (ρ:=ρ0) (H:=H0))
 have eP:Ext X.K H0 (upd H0 Dd (.lst [])):=Ext.upd (.inl hD)
 have at0:(ρ0++[Dd])[h0.length]?=some Dd:=by rw [← r0.len];simp
 refine ⟨fun i m H=>m+i=src.items.length/\∃ ρ h,Pre (ρ0++[Dd]) ρ/\Ext X.K (upd H0 Dd (.lst [])) H/\RH X.K ρ h H /\
  Fin X.K EX ρ H (fun _ ρ' h' H'=>ρ'[h0.length]?=some Dd->RH X.K ρ' h' H'->Ext X.K (upd H0 Dd (.lst [])) H'->Pre (ρ0++[Dd]) ρ'->P H') (z2V src g k me h0.length (capG cap γ) (src.items.drop i) h),
  ⟨src.items.length,rfl,_,_,Pre.refl _,Ext.refl _ _,rP,fin⟩,?_⟩
 rintro i m H1 ⟨hm,ρ1,h1,p1,e1,r1,f1⟩
 have p01:Pre ρ0 ρ1:=(Pre.app _ _).trans p1
 have e01:Ext X.K H0 H1:=eP.trans e1
 by_cases hi:i<src.items.length
 ·have hd:src.items.drop i=src.items[i] :: src.items.drop (i+1):=List.drop_eq_getElem_cons hi
  rw [hd] at f1
  unfold z2V at f1
  obtain ⟨good,f2⟩:=z3W f1 r1
  obtain ⟨j1,j2⟩:=hJ i ρ1 h1 H1 p01 e01 r1 good
  obtain ⟨go,yld⟩:=j1 src.items[i] (List.getElem?_eq_getElem hi)
  refine .inr ⟨go,fun x H2 y=>?_⟩
  obtain ⟨rd,rh,ext⟩:=yld x H2 y
  have rgc:RG X.K ρ1 H2 (capG cap γ) (z1U cap σ):=(z7h cap rg).mono p01 (e01.trans ext)
  refine ⟨ρ1,_,h1,_,⟨rgc,rh⟩,rd,(Fin.bind (Fin.up (Pre.refl _) ext f2)).mono fun γ2 ρ3 h3 H3 p3 e3 r3 f3 σ3 g3 k3=>⟨fun j v hv=>?_,ρ3,γ2,h3,⟨g3,r3⟩,(Fin.bind f3).mono fun t ρ4 h4 H4 p4 e4 r4 f4=>?_⟩⟩
  ·rw [k3 j fun hj=>?_]
   ·exact hv
   ·have z:=hown j hj
    unfold z1U at hv
    rw [List.getElem?_map,z] at hv
    simp at hv
  ·have pp:Pre (ρ0++[Dd]) ρ4:=(p1.trans p3).trans p4
   have ee:Ext X.K (upd H0 Dd (.lst [])) H4:=((e1.trans ext).trans e3).trans e4
   cases t with
   | false =>
    rw [if_neg (by decide)] at f4
    dsimp only
    rw [if_neg (by decide)]
    exact ⟨m - 1,by omega,by omega,ρ4,h4,pp,ee,r4,f4⟩
   | true =>
    rw [if_pos rfl] at f4
    dsimp only
    rw [if_pos rfl]
    refine ⟨ρ4,γ2,h4,⟨g3.mono p4 e4,r4⟩,(Fin.bind f4).mono fun d ρ5 h5 H5 p5 e5 r5 f5 v rv=>?_⟩
    have hq:ρ5[h0.length]?=some Dd:=(pp.trans p5) _ _ at0
    have f6:=Fin.bind f5
    unfold z09 updL at f6
    cases e7:h5[h0.length]? with
    | none=>rw [e7] at f6;exact f6.elim
    | some ob =>
     cases ob with
     | set ks=>rw [e7] at f6;exact f6.elim
     | dct=>rw [e7] at f6;exact f6.elim
     | dK kvs=>rw [e7] at f6;exact f6.elim
     | dF kvs=>rw [e7] at f6;exact f6.elim
     | exc c=>rw [e7] at f6;exact f6.elim
     | lst xs =>
      rw [e7] at f6
      dsimp only at f6
      split at f6
      ·rename_i hl
       obtain ⟨a1,n1,vs,o1,d1⟩:=r5.at e7
       rw [hq] at n1;cases n1
       have dd:=d1.append (RDs.cons rv RDs.nil)
       have ext2:Ext X.K H5 (upd H5 Dd (.lst (vs++[v]))):=Ext.upd (.inr ⟨_,o1,trivial⟩)
       have r6:=r5.set e7 hq dd
       rw [List.length_append,List.length_singleton] at hl
       have hl2:=d1.length
       exact ⟨vs,o1,by omega,m - 1,by omega,by omega,ρ5,_,pp.trans p5,(ee.trans e5).trans ext2,r6,f6 ρ5 _ (Pre.refl _) ext2 r6⟩
      ·exact f6.elim
 ·have hd:src.items.drop i=[]:=List.drop_eq_nil_of_le (by omega)
  rw [hd] at f1
  unfold z2V at f1
  obtain ⟨good,f2⟩:=z3W f1 r1
  obtain ⟨j1,j2⟩:=hJ i ρ1 h1 H1 p01 e01 r1 good
  exact .inl ⟨j2 (by omega),f2 ρ1 H1 (Pre.refl _) (Ext.refl _ _) r1 (p1 _ _ at0) r1 e1 p1⟩
theorem z02 (hc:X.calm=true) (S:CS X sc N' cap) (hi:SI X EX tg iter mi) (hg:∀ s H fp xe,SGk (X.comp N' sc s H fp xe) EX tg own g) (ht:∀ s H fp xe,SCs (X.comp N' sc s H fp xe) EX ifs k)
 (he:∀ s H fp xe,SE (X.comp N' sc s H fp xe) EX elt me) (hown:∀ j∈own,cap[j]?=some none:=by decide) (hs:∀ x,foldedSetIterable iter X.env x=pure x:=by intro _;rfl):SE X EX (.ListComp elt [⟨tg,iter,ifs,0⟩] sc pos) (x8 cap mi g k me) :=
 ⟨PE.imp (zf4 (g:=tGk X.K EX own g) (ti:=tT X.K EX k) (te:=tE X.K EX me) hc S hi.h (fun s H fp xe=>(hg s H fp xe).h) (fun s H fp xe=>(ht s H fp xe).h) (fun s H fp xe=>(he s H fp xe).h) hs) fun σ H Q ⟨ρ,γ,h,rel,fin⟩=>⟨ρ,γ,h,rel,(Fin.bind fin).mono fun src ρ0 h0 H0 p0 e0 r0 f0 J hJ Dd hD=>by
  have rP:=r0.push hD (RDs.nil (K:=X.K) (ρ:=ρ0) (H:=H0))
  have eP:Ext X.K H0 (upd H0 Dd (.lst [])):=Ext.upd (.inl hD)
  have f1:=Fin.bind f0
  have f2:=f1 (ρ0++[Dd]) _ (Pre.app _ _) eP rP
  refine z6z r0 (rel.g.mono p0 e0) hJ hD hown ((Fin.bind f2).mono fun _ ρ5 h5 H5 p5 e5 r5 f5 hat rr ee pp=>?_)
  refine FE.here (d:=.ref h0.length) (h:=h5) f5 rr ?_
  simp only [RD]
  exact ⟨Dd,rfl,hat⟩⟩⟩
noncomputable def z0M (i:Nat) (cap:List (Option Nat)) (mi:G->M Src) (g:D->G->M G) (k:G->M Bool) (me:G->M D):G->M Out:=sAsg (x8 cap mi g k me) (gN i)
theorem z2i (i:Nat) {y:Str}{py spos:Pos}(hc:X.calm=true) (S:CS X sc N' cap) (hi:SI X EX tg iter mi) (hg:∀ s H fp xe,SGk (X.comp N' sc s H fp xe) EX tg own g) (ht:∀ s H fp xe,SCs (X.comp N' sc s H fp xe) EX ifs k)
 (he:∀ s H fp xe,SE (X.comp N' sc s H fp xe) EX elt me) (hN:X.N.Nodup) (hy:X.N[i]?=some y:=by rfl) (hl:X.env.scope.names.lookup y=some .local:=by rfl) (hown:∀ j∈own,cap[j]?=some none:=by decide)
 (hsw:swapsWith (.ListComp elt [⟨tg,iter,ifs,0⟩] sc pos) (some (.Name y py)) spos.line X.env=pure true:=by rfl) (hs:∀ x,foldedSetIterable iter X.env x=pure x:=by intro _;rfl) :
 S1 X EX (.Assign [.Name y py] (.ListComp elt [⟨tg,iter,ifs,0⟩] sc pos) spos) (z0M i cap mi g k me) :=
 ⟨PS.imp (zb3 (g:=tGk X.K EX own g) (ti:=tT X.K EX k) (te:=tE X.K EX me) hc S hi.h (fun s H fp xe=>(hg s H fp xe).h) (fun s H fp xe=>(ht s H fp xe).h) (fun s H fp xe=>(he s H fp xe).h) hN hy hl hsw hs) fun σ H D ⟨ρ,γ,h,rel,fin⟩=>⟨ρ,γ,h,rel,(Fin.bind (Fin.bind fin)).mono fun src ρ0 h0 H0 p0 e0 r0 f0 J hJ Dd hD=>by
  have rP:=r0.push hD (RDs.nil (K:=X.K) (ρ:=ρ0) (H:=H0))
  have eP:Ext X.K H0 (upd H0 Dd (.lst [])):=Ext.upd (.inl hD)
  have f1:=Fin.bind f0
  have f2:=f1 (ρ0++[Dd]) _ (Pre.app _ _) eP rP
  refine z6z r0 (rel.g.mono p0 e0) hJ hD hown ((Fin.bind f2).mono fun _ ρ5 h5 H5 p5 e5 r5 f5 hat rr ee pp=>?_)
  have f6:=f5 ρ5 H5 (Pre.refl _) (Ext.refl _ _) rr
  have f7:=f6 ρ5 H5 (Pre.refl _) (Ext.refl _ _) rr
  refine f7 _ (RG.set (((rel.g.mono p0 e0).mono (Pre.app _ _) eP).mono pp ee) i ?_)
  simp only [RD]
  exact ⟨Dd,rfl,hat⟩⟩⟩
end
def csOk (osc:Scope) (N:List Str) (sc:Scope) (N':List Str) (cap:List (Option Nat)):Bool :=
 (sc.kind == .function) && sc.names.all (fun y=>y.2 != .cell) && sc.names.all (fun x=>x.2 != .local || sc.names.lookup x.1 == some .local) &&
 sc.names.all (fun x=>x.2 != .free || (osc.names.lookup x.1 == some .cell || osc.names.lookup x.1 == some .free)) && (cap.length == N'.length) &&
 (List.range cap.length).all fun i=>match cap[i]? with
  | some (some j)=>(match N'[i]?,N[j]? with
   | some x,some y=>x == y && sc.names.lookup x == some .free
   | _,_=>false)
  | _=>true
theorem z0y {X:Cx}{sc:Scope}{N':List Str}{cap:List (Option Nat)}(h:csOk X.env.scope X.N sc N' cap=true):CS X sc N' cap:=by
 unfold csOk at h
 simp only [Bool.and_eq_true] at h
 obtain ⟨⟨⟨⟨⟨h1,h2⟩,h3⟩,h4⟩,h5⟩,h6⟩:=h
 refine ⟨by simpa using h1,fun y hy=>?_,fun x hx hl=>?_,fun x hx hf=>?_,by simpa using h5,fun i j e=>?_⟩
 ·have:=List.all_eq_true.mp h2 y hy
  simpa using this
 ·have:=List.all_eq_true.mp h3 x hx
  simpa [hl] using this
 ·have:=List.all_eq_true.mp h4 x hx
  have:(X.env.scope.names.lookup x.1 == some .cell || X.env.scope.names.lookup x.1 == some .free)=true:=by simpa [hf] using this
  rw [Bool.or_eq_true] at this
  rcases this with z | z
  ·exact .inl (show X.env.scope.names.lookup x.1=_ by simpa using z)
  ·exact .inr (show X.env.scope.names.lookup x.1=_ by simpa using z)
 ·have hi:i<cap.length:=(List.getElem?_eq_some_iff.mp e).1
  have:=List.all_eq_true.mp h6 i (List.mem_range.mpr hi)
  rw [e] at this
  dsimp only at this
  cases e1:N'[i]? with
  | none=>rw [e1] at this;cases this
  | some x =>
   cases e2:X.N[j]? with
   | none=>rw [e1,e2] at this;cases this
   | some y =>
    rw [e1,e2] at this
    simp only [Bool.and_eq_true] at this
    have exy:x=y:=by simpa using this.1
    subst exy
    exact ⟨x,rfl,rfl,by simpa using this.2⟩
def DefAt (K:PySem.W.Frag) (x:Str) (st:Stmt):Prop:=∃ f fd,PySem.W.nsIn K mainGlobals x=some (some (.ref f))/\Fun K x x st f fd
theorem defAt_mk {K:PySem.W.Frag}{x:Str}{st:Stmt}{f:Addr}{oc:Value}{od an:Option Addr}{sl:Array (Option Value)}{kV dc pm cd ct:Value}(a:PySem.W.nsIn K mainGlobals x=some (some (.ref f)))
 (l:K.lookup f=some ⟨oc,od,.func (PySem.W.fnOf x x (z1Q st) (j7 st) (Z5 st) .none kV dc pm an cd ct),sl⟩) (c:PySem.W.codeIn K cd x=true) (k:PySem.W.keepIn K (.ref f)=true):DefAt K x st :=
 ⟨f,_,a,zr9 l c k⟩
structure Cst (K:PySem.W.Frag) (mg:Str->Option Value) (x:Str) (d:D):Prop where
 ex:∃ v u,mg x=some u/\RelV v u/\∀ ρ H,RD K ρ H d v
theorem cst_int {K:PySem.W.Frag}{mg:Str->Option Value}{x:Str}{i:Int}{t:Tok}(h:mg x=some (.int i t)):Cst K mg x (.int i):=⟨.int i,_,h,⟨t,rfl⟩,fun _ _=>by simp [RD]⟩
def relF:D->Value->Bool
 | .non,.none=>true
 | .bl a,.bool b=>a == b
 | .int a,.int b _=>a == b
 | .str a,.str b _=>a == b
 | _,_=>false
def z8q:List D->List Value->Bool
 | [],[]=>true
 | d :: ds,u :: us=>relF d u && z8q ds us
 | _,_=>false
def toV:D->V
 | .non=>.non
 | .bl b=>.bl b
 | .int i=>.int i
 | .str x=>.str x
 | _=>.non
theorem zb8 {K:PySem.W.Frag}{ρ:List Addr}{H:Hp}{d:D}{u:Value}(h:relF d u=true):RelV (toV d) u/\RD K ρ H d (toV d):=by
 cases d<;>cases u<;>first
  | (have h':false=true:=h;cases h')
  | skip
 case non.none=>exact ⟨rfl,by simp [RD,toV]⟩
 case bl.bool a b =>
  have:a=b:=by simpa [relF] using h
  subst this;exact ⟨rfl,by simp [RD,toV]⟩
 case int.int a b t =>
  have:a=b:=by simpa [relF] using h
  subst this;exact ⟨⟨t,rfl⟩,by simp [RD,toV]⟩
 case str.str a b t =>
  have:a=b:=by simpa [relF] using h
  subst this;exact ⟨⟨t,rfl⟩,by simp [RD,toV]⟩
theorem z4u {K:PySem.W.Frag}{ρ:List Addr}{H:Hp}:∀ {ds:List D}{us:List Value},z8q ds us=true->Vals (ds.map toV) us/\RDs K ρ H ds (ds.map toV)
 | [],[],_=>⟨.nil,RDs.nil⟩
 | [],_ :: _,h=>by cases h
 | _ :: _,[],h=>by cases h
 | d :: ds,u :: us,h=>by
  have h':(relF d u && z8q ds us)=true:=h
  rw [Bool.and_eq_true] at h'
  obtain ⟨a1,a2⟩:=zb8 (K:=K) (ρ:=ρ) (H:=H) h'.1
  obtain ⟨b1,b2⟩:=z4u (K:=K) (ρ:=ρ) (H:=H) h'.2
  exact ⟨.cons a1 b1,RDs.cons a2 b2⟩
theorem cst_tup {K:PySem.W.Frag}{mg:Str->Option Value}{x:Str}{a:Addr}{ds:List D}{its:Array Value}{n:Nat}{sl:Array (Option Value)}(h:mg x=some (.ref a)) (hk:K.lookup a=some ⟨.type "tuple",none,.seq its n,sl⟩)
 (hr:z8q ds its.toList=true) (hz:its.size≤sizeLine):Cst K mg x (.tup ds):=by
 refine ⟨.ref a,_,h,rfl,fun ρ H=>?_⟩
 obtain ⟨h1,h2⟩:=z4u (K:=K) (ρ:=ρ) (H:=H) hr
 simp only [RD]
 exact ⟨a,_,rfl,.inr ⟨_,its,n,hk,⟨rfl,rfl⟩,rfl,hz,h1⟩,h2⟩
theorem z4R {X:Cx}{EX:XX}{x:Str}{d:D}{pos:Pos}(C:Cst X.K X.mg x d) (hg:Gl X x) (hd:(x == ("__debug__":Str))=false:=by decide):SE X EX (.Name x pos) (fun _=>pure d):=by
 obtain ⟨v,u,h1,h2,h3⟩:=C.ex
 exact zj0 hg h1 h2 h3 hd
section
variable {prog:Program}{w:World}{A:Around}{E:Value->Shared->Prop}{s:Shared}
theorem z5y {it t:Addr}{i:Nat}{items:Array Value}{x:Value}{Q:Value->Shared->Prop}(hit:s.heap.IsTupleIter it t i) (ht:s.heap.IsTuple t items) (hx:items[i]?=some x)
 (hQ:∀ h',h'.IsTupleIter it t (i+1)->Heap.SameBut it s.heap h'->Q x { s with heap:=h' }):wpAny (model prog w) A (Builtin.SmallTypes.nextOf (.ref it)) Q E s:=by
 obtain ⟨oi,e1,c1,d1⟩:=id hit
 obtain ⟨ot,e2,_,nt,d2⟩:=ht
 unfold Builtin.SmallTypes.nextOf
 refine wpAny_bind (wpAny_callSpecial?_slot (name:=Str.ofString "__next__") hit.typeIs PySem.F.slot_tuple_iterator_next
  (wpAny_call_entry PySem.F.slot_tuple_iterator_next hit.typeIs PySem.F.entry_tuple_iterator_next ?_ (PySem.F.args_tuple_iterator_next_1 _)))
 show wpAny _ _ (field (.ref it) 0 >>= _) _ _ s
 refine wpAny_bind (wpAny_field e1 d1 (x:=.ref t) rfl ?_)
 show wpAny _ _ (if (Value.ref t == Value.none)=true then _ else _) _ _ s
 have nn:¬ (Value.ref t == Value.none)=true:=Bool.false_ne_true
 rw [if_neg nn]
 show wpAny _ _ (field (.ref it) 1 >>= _) _ _ s
 refine wpAny_bind (wpAny_field e1 d1 (x:=.int i 0) rfl ?_)
 show wpAny _ _ (seqItems? (.ref t) >>= _) _ _ s
 refine wpAny_bind (wpAny_seqItems e2 d2 ?_)
 simp only [Int.toNat_natCast,hx]
 refine wpAny_bind (wpAny_setField e1 d1 (by simp) (wpAny_pure ⟨x,rfl,wpAny_pure (hQ _ ?_ (Heap.SameBut.update ..))⟩))
 exact ⟨_,Heap.get?_update_self _ e1 (Obj.isFreed_of_fields (Obj.data_mapFields d1 _)),(Obj.cls_mapFields ..).trans c1,by
  rw [Obj.data_mapFields d1];simp [rawInt]⟩
theorem z9J {it t:Addr}{i:Nat}{items:Array Value}{Q:Value->Shared->Prop}(hh:A.handled=none) (hit:s.heap.IsTupleIter it t i) (ht:s.heap.IsTuple t items) (hx:items[i]?=none)
 (hE:∀ h' e,Heap.ExtBut it s.heap h'->(∃ o,h'.get? e=some o/\o.cls=.type "StopIteration")->E (.ref e) { s with heap:=h' }):wpAny (model prog w) A (Builtin.SmallTypes.nextOf (.ref it)) Q E s:=by
 obtain ⟨oi,e1,c1,d1⟩:=id hit
 obtain ⟨ot,e2,_,nt,d2⟩:=ht
 unfold Builtin.SmallTypes.nextOf
 refine wpAny_bind (wpAny_callSpecial?_slot (name:=Str.ofString "__next__") hit.typeIs PySem.F.slot_tuple_iterator_next
  (wpAny_call_entry PySem.F.slot_tuple_iterator_next hit.typeIs PySem.F.entry_tuple_iterator_next ?_ (PySem.F.args_tuple_iterator_next_1 _)))
 show wpAny _ _ (field (.ref it) 0 >>= _) _ _ s
 refine wpAny_bind (wpAny_field e1 d1 (x:=.ref t) rfl ?_)
 show wpAny _ _ (if (Value.ref t == Value.none)=true then _ else _) _ _ s
 have nn:¬ (Value.ref t == Value.none)=true:=Bool.false_ne_true
 rw [if_neg nn]
 show wpAny _ _ (field (.ref it) 1 >>= _) _ _ s
 refine wpAny_bind (wpAny_field e1 d1 (x:=.int i 0) rfl ?_)
 show wpAny _ _ (seqItems? (.ref t) >>= _) _ _ s
 refine wpAny_bind (wpAny_seqItems e2 d2 ?_)
 simp only [Int.toNat_natCast,hx]
 refine wpAny_bind (wpAny_rule (wpAny_bind (wpAny_setField e1 d1 (by simp) ?_)))
 show wpAny _ _ (newExc (.type "StopIteration") [] >>= _) _ _ _
 refine wpAny_bind ?_
 simp only [newExc,newTuple]
 refine wpAny_bind (wpAny_newObj_type ?_ (by size_fits))
 refine wpAny_bind (m:=firstArgMember _ _) (wpAny_of_eq (a:=Value.none) (by first | rfl | (simp only [firstArgMember];rfl)) ?_)
 refine wpAny_newObj_type ?_ (by size_fits)
 simp only [raiseNew]
 refine wpAny_bind (wpAny_handled ?_)
 first | rw [show A.in1.handled=none from hh] | rw [hh]
 refine wpAny_bind (wpAny_pure (wpAny_throw ?_))
 exact hE _ _ (((Heap.SameBut.update ..).extBut.push _).push _) ⟨_,Heap.get?_push_size _ rfl,rfl⟩
structure ZS (h:Heap) (z TI TO i1 i2 t1 t2:Addr) (i:Nat) (f0:Value):Prop where
 zip:IsZip h z TI TO f0
 ti:IsPair h TI (.ref i1) (.ref i2)
 to:∃ a b,IsPair h TO a b
 n1:h.IsTupleIter i1 t1 i
 n2:h.IsTupleIter i2 t2 i
structure ZA (z TI TO i1 i2:Addr):Prop where
 a1:TI≠z
 a2:TO≠z
 a3:i1≠z
 a4:i2≠z
 a5:TI≠TO
 a6:TI≠i1
 a7:TI≠i2
 a8:TO≠i1
 a9:TO≠i2
 a0:i1≠i2
structure ZO (z TO i1 i2 t:Addr):Prop where
 o1:t≠z
 o2:t≠TO
 o3:t≠i1
 o4:t≠i2
theorem zf7 {z TI TO i1 i2 t1 t2:Addr}{i:Nat}{xs ys:Array Value}{x y:Value}{Q:Value->Shared->Prop}(D:ZA z TI TO i1 i2) (O1:ZO z TO i1 i2 t1) (O2:ZO z TO i1 i2 t2)
 (Z:ZS s.heap z TI TO i1 i2 t1 t2 i .none) (hl1:s.heap.IsTuple t1 xs) (hl2:s.heap.IsTuple t2 ys) (hx:xs[i]?=some x) (hy:ys[i]?=some y)
 (hQ:∀ h',ZS h' z TI TO i1 i2 t1 t2 (i+1) (rawInt s.heap.objs.size)->IsPair h' s.heap.objs.size x y->h'.objs.size=s.heap.objs.size+1 ->
  (∀ c o,c≠z->c≠TO->c≠i1->c≠i2->s.heap.get? c=some o->h'.get? c=some o)->Q (.ref s.heap.objs.size) { s with heap:=h' }) :
 wpAny (model prog w) A (Builtin.«zip.__next__» ⟨[.ref z],[]⟩) (fun fin s'=>∃ v,fin=.done (.ret v)/\Q v s') E s:=by
 obtain ⟨zz,zi,⟨a,b,zo⟩,g1,g2⟩:=Z
 show wpAny _ _ (field (.ref z) 2 >>= _) _ _ _
 refine wpAny_bind (wpAny_field zz rfl (x:=.bool false) rfl ?_)
 show wpAny _ _ (field (.ref z) 3 >>= _) _ _ _
 refine wpAny_bind (wpAny_field zz rfl (x:=.ref TI) rfl ?_)
 refine wpAny_bind (wpAny_seqItems zi rfl ?_)
 show wpAny _ _ (Builtin.SmallTypes.ownedTupleIsFree (.ref z) >>= _) _ _ _
 refine wpAny_bind ?_
 unfold Builtin.SmallTypes.ownedTupleIsFree
 refine wpAny_bind (wpAny_field zz rfl (x:=.none) rfl (wpAny_pure ?_))
 simp only [if_true]
 refine wpAny_bind (wpAny_rule ?_)
 refine wpAny_bind (wpAny_field zz rfl (x:=.ref TO) rfl ?_)
 refine wpAny_bind (wpAny_setField_rec zz (by simp) fun k1 z1 s1=>?_)
 replace z1:IsZip k1 z TI TO .ellipsis:=z1
 refine wpAny_bind ?_
 simp only [List.zipIdx_cons,List.zipIdx_nil,List.forIn_cons,List.forIn_nil]
 refine wpAny_bind (wpAny_bind (wpAny_onRaise ?_))
 show wpAny _ _ (Builtin.SmallTypes.nextOf (.ref i1) >>= _) _ _ _
 refine wpAny_bind (z5y (g1.extBut s1.extBut D.a3) (hl1.extBut s1.extBut O1.o1) hx fun k2 g12 s2=>wpAny_pure ?_)
 have zo2:IsPair k2 TO a b:=s2.extBut _ _ D.a8 (s1.extBut _ _ D.a2 zo)
 refine wpAny_bind (wpAny_seqItems zo2 rfl ?_)
 refine wpAny_bind (wpAny_updateSeq_pair zo2 fun k3 zo3 s3=>?_)
 replace zo3:IsPair k3 TO x b:=zo3
 refine wpAny_bind (wpAny_letGo (wpAny_pure ?_))
 refine wpAny_bind (wpAny_bind (wpAny_onRaise ?_))
 show wpAny _ _ (Builtin.SmallTypes.nextOf (.ref i2) >>= _) _ _ _
 refine wpAny_bind (z5y (((g2.extBut s1.extBut D.a4).extBut s2.extBut D.a0.symm).extBut s3.extBut D.a9.symm)
  (((hl2.extBut s1.extBut O2.o1).extBut s2.extBut O2.o3).extBut s3.extBut O2.o2) hy fun k4 g24 s4=>wpAny_pure ?_)
 have zo4:IsPair k4 TO x b:=s4.extBut _ _ D.a9 zo3
 refine wpAny_bind (wpAny_seqItems zo4 rfl ?_)
 refine wpAny_bind (wpAny_updateSeq_pair zo4 fun k5 zo5 s5=>?_)
 replace zo5:IsPair k5 TO x y:=zo5
 refine wpAny_bind (wpAny_letGo (wpAny_pure (wpAny_pure ?_)))
 refine wpAny_bind (wpAny_seqItems zo5 rfl ?_)
 refine wpAny_bind (wpAny_newTuple ?_)
 have sz:k5.objs.size=s.heap.objs.size:=by rw [s5.1,s4.1,s3.1,s2.1,s1.1]
 have z5:IsZip k5 z TI TO .ellipsis:=s5.extBut _ _ D.a2.symm (s4.extBut _ _ D.a4.symm (s3.extBut _ _ D.a2.symm (s2.extBut _ _ D.a3.symm z1)))
 have kk:∀ c o,c≠z->c≠TO->c≠i1->c≠i2->s.heap.get? c=some o->k5.get? c=some o:=fun c o c1 c2 c3 c4 e =>
  s5.extBut _ _ c2 (s4.extBut _ _ c4 (s3.extBut _ _ c2 (s2.extBut _ _ c3 (s1.extBut _ _ c1 e))))
 have g15:k5.IsTupleIter i1 t1 (i+1):=((g12.extBut s3.extBut D.a8.symm).extBut s4.extBut D.a0).extBut s5.extBut D.a8.symm
 have g25:k5.IsTupleIter i2 t2 (i+1):=g24.extBut s5.extBut D.a9.symm
 have zlt:z<k5.objs.size:=Heap.lt_size z5
 show wpAny _ _ (Builtin.SmallTypes.ownedTupleHandOut (.ref z) (.ref k5.objs.size) >>= _) _ _ _
 refine wpAny_bind ?_
 unfold Builtin.SmallTypes.ownedTupleHandOut
 have z6:IsZip (k5.push { cls:=.type "tuple",data:=.seq #[x,y] }) z TI TO .ellipsis:=Heap.get?_push_of_some _ z5
 refine wpAny_bind (wpAny_setField_rec z6 (by simp) fun k7 z7 s7=>?_)
 replace z7:IsZip k7 z TI TO (rawInt k5.objs.size):=z7
 refine wpAny_setField_rec z7 (by simp) fun k8 z8 s8=>?_
 replace z8:IsZip k8 z TI TO (rawInt k5.objs.size):=z8
 have up:∀ c o,c≠z->k5.get? c=some o->k8.get? c=some o:=fun c o c1 e=>s8.extBut _ _ c1 (s7.extBut _ _ c1 (Heap.get?_push_of_some _ e))
 have t8:IsPair k8 k5.objs.size x y:=s8.extBut _ _ (Nat.ne_of_gt zlt) (s7.extBut _ _ (Nat.ne_of_gt zlt) (Heap.get?_push_size _ rfl))
 have sz8:k8.objs.size=k5.objs.size+1:=by rw [s8.1,s7.1,Heap.size_push]
 rw [sz] at z8 t8 sz8
 refine wpAny_pure ⟨_,rfl,?_⟩
 show Q (.ref k5.objs.size) _
 rw [sz]
 exact hQ k8 ⟨z8,up _ _ D.a1 (kk _ _ D.a1 D.a5 D.a6 D.a7 zi),⟨_,_,up _ _ D.a2 zo5⟩,g15.at fun o e=>up _ o D.a3 e,g25.at fun o e=>up _ o D.a4 e⟩ t8 sz8 fun c o c1 c2 c3 c4 e=>up c o c1 (kk c o c1 c2 c3 c4 e)
theorem zk7 {z TI TO i1 i2 t1 t2:Addr}{i:Nat}{xs ys:Array Value}{Q:PySem.Fin->Shared->Prop}(hh:A.handled=none) (D:ZA z TI TO i1 i2) (O1:ZO z TO i1 i2 t1) (O2:ZO z TO i1 i2 t2)
 (Z:ZS s.heap z TI TO i1 i2 t1 t2 i .none) (hl1:s.heap.IsTuple t1 xs) (hl2:s.heap.IsTuple t2 ys) (hend:xs[i]?=none∨ys[i]?=none)
 (hE:∀ h' e,(∀ c o,c≠z->c≠TO->c≠i1->c≠i2->s.heap.get? c=some o->h'.get? c=some o)->(∃ o,h'.get? e=some o/\o.cls=.type "StopIteration")->E (.ref e) { s with heap:=h' }) :
 wpAny (model prog w) A (Builtin.«zip.__next__» ⟨[.ref z],[]⟩) Q E s:=by
 obtain ⟨zz,zi,⟨a,b,zo⟩,g1,g2⟩:=Z
 show wpAny _ _ (field (.ref z) 2 >>= _) _ _ _
 refine wpAny_bind (wpAny_field zz rfl (x:=.bool false) rfl ?_)
 show wpAny _ _ (field (.ref z) 3 >>= _) _ _ _
 refine wpAny_bind (wpAny_field zz rfl (x:=.ref TI) rfl ?_)
 refine wpAny_bind (wpAny_seqItems zi rfl ?_)
 show wpAny _ _ (Builtin.SmallTypes.ownedTupleIsFree (.ref z) >>= _) _ _ _
 refine wpAny_bind ?_
 unfold Builtin.SmallTypes.ownedTupleIsFree
 refine wpAny_bind (wpAny_field zz rfl (x:=.none) rfl (wpAny_pure ?_))
 simp only [if_true]
 refine wpAny_bind (wpAny_rule ?_)
 refine wpAny_bind (wpAny_field zz rfl (x:=.ref TO) rfl ?_)
 refine wpAny_bind (wpAny_setField_rec zz (by simp) fun k1 z1 s1=>?_)
 replace z1:IsZip k1 z TI TO .ellipsis:=z1
 refine wpAny_bind ?_
 simp only [List.zipIdx_cons,List.zipIdx_nil,List.forIn_cons,List.forIn_nil]
 refine wpAny_bind (wpAny_bind (wpAny_onRaise ?_))
 show wpAny _ _ (Builtin.SmallTypes.nextOf (.ref i1) >>= _) _ _ _
 cases hx:xs[i]? with
 | none =>
  refine wpAny_bind (z9J hh (g1.extBut s1.extBut D.a3) (hl1.extBut s1.extBut O1.o1) hx fun k2 e s2 he=>?_)
  obtain ⟨oe,q1,q2⟩:=he
  have z2:IsZip k2 z TI TO .ellipsis:=s2 _ _ D.a3.symm z1
  have ez:e≠z:=fun q=>by subst q;rw [z2] at q1;cases q1;simp at q2
  exact wpAny_setField_rec z2 (by simp) fun k3 _ s3=>hE k3 e (fun c o c1 _ c3 _ q=>s3.extBut _ _ c1 (s2 _ _ c3 (s1.extBut _ _ c1 q))) ⟨oe,s3.extBut _ _ ez q1,q2⟩
 | some x =>
  have hy:ys[i]?=none:=by rcases hend with q | q;rw [hx] at q;cases q;exact q
  refine wpAny_bind (z5y (g1.extBut s1.extBut D.a3) (hl1.extBut s1.extBut O1.o1) hx fun k2 g12 s2=>wpAny_pure ?_)
  have zo2:IsPair k2 TO a b:=s2.extBut _ _ D.a8 (s1.extBut _ _ D.a2 zo)
  refine wpAny_bind (wpAny_seqItems zo2 rfl ?_)
  refine wpAny_bind (wpAny_updateSeq_pair zo2 fun k3 zo3 s3=>?_)
  refine wpAny_bind (wpAny_letGo (wpAny_pure ?_))
  refine wpAny_bind (wpAny_bind (wpAny_onRaise ?_))
  show wpAny _ _ (Builtin.SmallTypes.nextOf (.ref i2) >>= _) _ _ _
  refine wpAny_bind (z9J hh (((g2.extBut s1.extBut D.a4).extBut s2.extBut D.a0.symm).extBut s3.extBut D.a9.symm)
   (((hl2.extBut s1.extBut O2.o1).extBut s2.extBut O2.o3).extBut s3.extBut O2.o2) hy fun k4 e s4 he=>?_)
  obtain ⟨oe,q1,q2⟩:=he
  have z4:IsZip k4 z TI TO .ellipsis:=s4 _ _ D.a4.symm (s3.extBut _ _ D.a2.symm (s2.extBut _ _ D.a3.symm z1))
  have ez:e≠z:=fun q=>by subst q;rw [z4] at q1;cases q1;simp at q2
  exact wpAny_setField_rec z4 (by simp) fun k5 _ s5=>hE k5 e (fun c o c1 c2 c3 c4 q=>s5.extBut _ _ c1 (s4 _ _ c4 (s3.extBut _ _ c2 (s2.extBut _ _ c3 (s1.extBut _ _ c1 q))))) ⟨oe,s5.extBut _ _ ez q1,q2⟩
theorem zb7 {z TI TO i1 i2 t1 t2:Addr}{i:Nat}{xs ys:Array Value}{x y:Value}{Q:Option Value->Shared->Prop}(D:ZA z TI TO i1 i2) (O1:ZO z TO i1 i2 t1) (O2:ZO z TO i1 i2 t2)
 (Z:ZS s.heap z TI TO i1 i2 t1 t2 i .none) (hl1:s.heap.IsTuple t1 xs) (hl2:s.heap.IsTuple t2 ys) (hx:xs[i]?=some x) (hy:ys[i]?=some y)
 (hQ:∀ h',ZS h' z TI TO i1 i2 t1 t2 (i+1) (rawInt s.heap.objs.size)->IsPair h' s.heap.objs.size x y->h'.objs.size=s.heap.objs.size+1 ->
  (∀ c o,c≠z->c≠TO->c≠i1->c≠i2->s.heap.get? c=some o->h'.get? c=some o)->Q (some (.ref s.heap.objs.size)) { s with heap:=h' }) :
 wpAny (model prog w) A (pyNext (.ref z)) Q E s:=by
 have hT:s.TypeIs (.ref z) "zip":=⟨_,Z.zip,rfl⟩
 unfold pyNext
 exact wpAny_bind (wpAny_attempt (wpAny_callSpecial?_slot (name:=Str.ofString "__next__") hT PySem.F.slot_zip_next
  (wpAny_call_entry PySem.F.slot_zip_next hT PySem.F.entry_zip_next (zf7 D O1 O2 Z hl1 hl2 hx hy fun h' q1 q2 q3 q4=>wpAny_pure (hQ h' q1 q2 q3 q4)) (PySem.F.args_zip_next_1 _))))
theorem zg8 {z TI TO i1 i2 t1 t2:Addr}{i:Nat}{xs ys:Array Value}{Q:Option Value->Shared->Prop}(hh:A.handled=none) (D:ZA z TI TO i1 i2) (O1:ZO z TO i1 i2 t1) (O2:ZO z TO i1 i2 t2)
 (Z:ZS s.heap z TI TO i1 i2 t1 t2 i .none) (hl1:s.heap.IsTuple t1 xs) (hl2:s.heap.IsTuple t2 ys) (hend:xs[i]?=none∨ys[i]?=none)
 (hQ:∀ h',(∀ c o,c≠z->c≠TO->c≠i1->c≠i2->s.heap.get? c=some o->h'.get? c=some o)->Q none { s with heap:=h' }):wpAny (model prog w) A (pyNext (.ref z)) Q E s:=by
 have hT:s.TypeIs (.ref z) "zip":=⟨_,Z.zip,rfl⟩
 unfold pyNext
 refine wpAny_bind (wpAny_attempt (wpAny_callSpecial?_slot (name:=Str.ofString "__next__") hT PySem.F.slot_zip_next
  (wpAny_call_entry PySem.F.slot_zip_next hT PySem.F.entry_zip_next (zk7 hh D O1 O2 Z hl1 hl2 hend fun h' e kk he=>?_) (PySem.F.args_zip_next_1 _))))
 obtain ⟨o,q1,q2⟩:=he
 refine wpAny_bind (wpAny_isInstance (T:="StopIteration") (b:=true) ⟨o,q1,q2⟩ isSubtype_stop ?_)
 exact wpAny_pure (hQ _ kk)
theorem z7z {z TI TO i1 i2 t1 t2:Addr}{i:Nat}{f0:Value}{Q:Value->Shared->Prop}(Z:ZS s.heap z TI TO i1 i2 t1 t2 i f0) (h:Q (.ref z) s):wpAny (model prog w) A (pyIter (.ref z)) Q E s:=wpAny_pyIter_zip Z.zip h
end
abbrev zp1 (h:Heap) (l1:Addr):Heap:=h.push { cls:=.type "tuple_iterator",data:=.fields #[.ref l1,.int 0 0] }
abbrev zp2 (h:Heap) (l1 l2:Addr):Heap:=(zp1 h l1).push { cls:=.type "tuple_iterator",data:=.fields #[.ref l2,.int 0 0] }
abbrev zp3 (h:Heap) (l1 l2:Addr):Heap:=(zp2 h l1 l2).push { cls:=.type "tuple",data:=.seq #[.ref h.objs.size,.ref (zp1 h l1).objs.size] }
abbrev zp4 (h:Heap) (l1 l2:Addr):Heap:=(zp3 h l1 l2).push { cls:=.type "tuple",data:=.seq #[.none,.none] }
abbrev zp5 (h:Heap) (l1 l2:Addr):Heap:=(zp4 h l1 l2).push { cls:=.type "zip",data:=.fields #[.none,.bool false,.bool false,.ref (zp2 h l1 l2).objs.size,.ref (zp3 h l1 l2).objs.size] }
theorem z9y (l1 l2:Addr) (xs ys:Array Value) :
 Meets (Builtin.«zip.__new__» ⟨[.type "zip",.ref l1,.ref l2],[]⟩) (fun _ R s=>s.heap.IsTuple l1 xs/\s.heap.IsTuple l2 ys/\R (.ok (.ret (.ref (zp4 s.heap l1 l2).objs.size))) { s with heap:=zp5 s.heap l1 l2 }) :=
 .of_wp fun prog w A R s h=>by
  obtain ⟨hp,g,d,tk,os⟩:=s
  obtain ⟨q1,q2,h⟩:=h
  have hsub:=sub_zip
  have L1:Heap.IsTuple (Shared.heap ⟨hp,g,d,tk,os⟩) l1 xs:=q1
  have L2:Heap.IsTuple (Shared.heap ⟨hp.push { cls:=.type "tuple_iterator",data:=.fields #[.ref l1,.int 0 0] },g,d,tk,os⟩) l2 ys:=Heap.IsTuple.push q2 _
  wp_walk using wpAny_pyIter_tuple L1,wpAny_pyIter_tuple L2
  exact ⟨_,rfl,h⟩
theorem z9f {prog:Program}{w:World}{A:Around}{E:Value->Shared->Prop}{s:Shared}{l1 l2:Addr}{xs ys:Array Value}{Q:Value->Shared->Prop}(hl1:s.heap.IsTuple l1 xs) (hl2:s.heap.IsTuple l2 ys)
 (h:∀ h',ZS h' (s.heap.objs.size+4) (s.heap.objs.size+2) (s.heap.objs.size+3) s.heap.objs.size (s.heap.objs.size+1) l1 l2 0 .none->h'.objs.size=s.heap.objs.size+5 ->
  (∀ c o,s.heap.get? c=some o->h'.get? c=some o)->Q (.ref (s.heap.objs.size+4)) { s with heap:=h' }):wpAny (model prog w) A (call (.type "zip") [.ref l1,.ref l2]) Q E s:=by
 refine callType_new PySem.F.called_zip (by decide) (PySem.F.typeCall_zip_2 _ _) (PySem.F.newCall_zip_2 _ _) (fun obj=>PySem.F.args_object_init_3 obj _ _) PySem.F.entry_zip_new (z9y l1 l2 xs ys) ⟨hl1,hl2,?_⟩
 have y1:(zp1 s.heap l1).objs.size=s.heap.objs.size+1:=Heap.size_push ..
 have y2:(zp2 s.heap l1 l2).objs.size=s.heap.objs.size+2:=by rw [Heap.size_push,y1]
 have y3:(zp3 s.heap l1 l2).objs.size=s.heap.objs.size+3:=by rw [Heap.size_push,y2]
 have y4:(zp4 s.heap l1 l2).objs.size=s.heap.objs.size+4:=by rw [Heap.size_push,y3]
 have y5:(zp5 s.heap l1 l2).objs.size=s.heap.objs.size+5:=by rw [Heap.size_push,y4]
 have x5:(zp5 s.heap l1 l2).get? (zp4 s.heap l1 l2).objs.size=some _:=Heap.get?_push_size _ rfl
 have x4:(zp5 s.heap l1 l2).get? (zp3 s.heap l1 l2).objs.size=some _:=Heap.get?_push_of_some _ (Heap.get?_push_size _ rfl)
 have x3:(zp5 s.heap l1 l2).get? (zp2 s.heap l1 l2).objs.size=some _:=Heap.get?_push_of_some _ (Heap.get?_push_of_some _ (Heap.get?_push_size _ rfl))
 have x2:(zp5 s.heap l1 l2).get? (zp1 s.heap l1).objs.size=some _:=Heap.get?_push_of_some _ (Heap.get?_push_of_some _ (Heap.get?_push_of_some _ (Heap.get?_push_size _ rfl)))
 have x1:(zp5 s.heap l1 l2).get? s.heap.objs.size=some _:=Heap.get?_push_of_some _ (Heap.get?_push_of_some _ (Heap.get?_push_of_some _ (Heap.get?_push_of_some _ (Heap.get?_push_size _ rfl))))
 show _/\_
 rw [y2,y3,y4] at x5
 rw [y1,y2] at x3
 rw [y3] at x4
 rw [y1] at x2
 rw [y4]
 exact ⟨⟨_,x5,rfl⟩,h _ ⟨x5,x3,⟨_,_,x4⟩,⟨_,x1,rfl,rfl⟩,⟨_,x2,rfl,rfl⟩⟩ y5 fun c o q =>
  Heap.get?_push_of_some _ (Heap.get?_push_of_some _ (Heap.get?_push_of_some _ (Heap.get?_push_of_some _ (Heap.get?_push_of_some _ q))))⟩
theorem zC3 {X:Cx}{pins:List (Addr×Obj)}{σ:L2.St}{H:Hp}{s:Shared}{ch:List Addr}{T:Addr}{vs:List V}{its:List Value}{h2:Heap}{t:Nat}(I:L2.Inv X pins σ H s)
 (hf:∀ b∈ch,FpOk X pins H b) (kp:∀ b o,b∉ch->s.heap.get? b=some o->h2.get? b=some o) (hT:s.heap.objs.size≤T) (tup:IsTup0 h2 T its.toArray) (rv:Vals vs its) (hz:vs.length≤sizeLine) :
 L2.Inv X pins σ (upd H T (.tup vs)) { s with heap:=h2,toks:=t }:=by
 have hn:H T=none:=I.hok.fresh hT
 have ne:∀ {b:Addr} {o:Obj},s.heap.get? b=some o->b≠T:=fun e=>Nat.ne_of_lt (Nat.lt_of_lt_of_le (Heap.lt_size e) hT)
 refine I.step (g':=s.gens) (d':=s.drawn) (ch:=ch) (fun b hb=>⟨(hf b hb).2.2.2.1,(hf b hb).2.1,(hf b hb).2.2.2.2.1,(hf b hb).2.2.2.2.2⟩) (fun b o _ _ hc e _=>kp b o hc e) (fun b o _ _ hc e _=>⟨o.slots,kp b o hc e⟩)
  (fun b o _ e n=>by rw [z06 (ne e)];exact n) (fun b o hc e=>⟨o,kp b o hc e⟩) (fun b xs e=>by rw [z06 (z0g e hn)];exact e) (fun b o u e=>by rw [z06 (z0g e hn)];exact e)
  (fun b ps e=>⟨#[],by rw [z06 (z0g e hn),e];simp⟩) (fun m hm=>?_) (fun b u e=>?_) I.bare
 ·obtain ⟨o,es,ep,q,r⟩:=hm
  exact ⟨o,es,ep,kp _ o (fun z=>(hf _ z).2.1 rfl) q,r⟩
 ·by_cases hb:b=T
  ·subst hb
   rw [z0I] at e
   cases e
   exact ⟨hz,its,rv,tup⟩
  ·rw [z06 hb] at e
   refine (I.hok b u e).stay (fun c v hc q=>kp c v (fun z=>?_) q) (fun c q=>?_) fun c xs q=>?_
   ·rcases hc with y | y
    ·rw [y] at z;rw [(hf b z).1] at e;cases e
    ·rw [(hf c z).1] at y;cases y
   ·rw [z06 (z0g q hn)];exact q
   ·rw [z06 (z0g q hn)];exact q
def Itz (K:PySem.W.Frag) (t1 t2:Addr):It :=
 ⟨fun i H=>∃ xs ys x y,SqT K H t1 xs/\SqT K H t2 ys/\xs[i]?=some x/\ys[i]?=some y,
  fun i H v H'=>∃ T x y,H T=none/\v=.ref T/\(∀ xs,SqT K H t1 xs->xs[i]?=some x)/\(∀ ys,SqT K H t2 ys->ys[i]?=some y)/\H'=upd H T (.tup [x,y]),
  fun i H=>∃ xs ys,SqT K H t1 xs/\SqT K H t2 ys/\(xs.length≤i∨ys.length≤i)⟩
theorem z95 {P:Program}{w:World}{K:PySem.W.Frag}{elts:List Expr}{kk:Nat}{pos:Pos}{z TI TO i1 i2 t1 t2:Addr}(D:ZA z TI TO i1 i2) (O1:ZO z TO i1 i2 t1) (O2:ZO z TO i1 i2 t2) :
 Turn P w K (.Tuple elts kk pos) (Itz K t1 t2) [z,TI,TO,i1,i2] z (fun i h=>ZS h z TI TO i1 i2 t1 t2 i .none) where
 mem:=by simp
 obj:=fun i h st b hb=>by
  obtain ⟨zz,zi,⟨a,b',zo⟩,g1,g2⟩:=st
  obtain ⟨o1,e1,_,d1⟩:=g1
  obtain ⟨o2,e2,_,d2⟩:=g2
  simp at hb
  rcases hb with rfl | rfl | rfl | rfl | rfl
  ·exact ⟨_,zz,fun v q=>by cases q⟩
  ·exact ⟨_,zi,fun v q=>by cases q⟩
  ·exact ⟨_,zo,fun v q=>by cases q⟩
  ·exact ⟨_,e1,fun v q=>by rw [d1] at q;cases q⟩
  ·exact ⟨_,e2,fun v q=>by rw [d2] at q;cases q⟩
 keep:=fun i h h' st k=>by
  obtain ⟨zz,zi,⟨a,b',zo⟩,g1,g2⟩:=st
  exact ⟨k z (by simp) _ zz,k TI (by simp) _ zi,⟨a,b',k TO (by simp) _ zo⟩,g1.at fun o e=>k i1 (by simp) o e,g2.at fun o e=>k i2 (by simp) o e⟩
 item:=by
  intro X hP hw hK hc i pins s σ H E I hf st hg
  subst hP hw hK
  obtain ⟨xs,ys,x,y,q1,q2,hx,hy⟩:=hg
  obtain ⟨its1,rv1,p1,z1⟩:=I.tuple q1
  obtain ⟨its2,rv2,p2,z2⟩:=I.tuple q2
  obtain ⟨u1,hu1,ru1⟩:=rv1.get hx
  obtain ⟨u2,hu2,ru2⟩:=rv2.get hy
  refine zb7 D O1 O2 st (show s.heap.IsTuple t1 its1.toArray from p1) (show s.heap.IsTuple t2 its2.toArray from p2) (x:=u1) (y:=u2) (by simpa using hu1) (by simpa using hu2) fun h' Z' pr sz kp=>?_
  refine ⟨_,rfl,wpAny_letOwnedTupleGo_zip Z'.zip fun h2 zz2 sb=>?_⟩
  have nT:∀ b∈[z,TI,TO,i1,i2],H b=none:=fun b hb=>(hf b hb).1
  have zlt:z<s.heap.objs.size:=Heap.lt_size st.zip
  have lt5:∀ b∈[z,TI,TO,i1,i2],b<s.heap.objs.size:=fun b hb=>by
   obtain ⟨zz,zi,⟨a,b',zo⟩,g1,g2⟩:=st
   obtain ⟨o1,e1,_,d1⟩:=g1
   obtain ⟨o2,e2,_,d2⟩:=g2
   simp at hb
   rcases hb with rfl | rfl | rfl | rfl | rfl
   ·exact Heap.lt_size zz
   ·exact Heap.lt_size zi
   ·exact Heap.lt_size zo
   ·exact Heap.lt_size e1
   ·exact Heap.lt_size e2
  have hT:IsTup0 h2 s.heap.objs.size [u1,u2].toArray:=⟨_,(sb.2 _ (Nat.ne_of_gt zlt)).trans pr,⟨rfl,rfl⟩,_,rfl⟩
  have J:=zC3 (t:=s.toks) (ch:=[z,TO,i1,i2]) (T:=s.heap.objs.size) (vs:=[x,y]) (its:=[u1,u2]) (h2:=h2) I (fun b hb=>hf b (by simp at hb ⊢;rcases hb with q | q | q | q<;>simp [q]))
   (fun b o hb e=>by simp at hb;exact (sb.2 b hb.1).trans (kp b o hb.1 hb.2.1 hb.2.2.1 hb.2.2.2 e)) (Nat.le_refl _) hT (.cons ru1 (.cons ru2 .nil)) (by show 2≤sizeLine;decide)
  refine ⟨.ref s.heap.objs.size,_,J,rfl,⟨_,x,y,I.hok.fresh (Nat.le_refl _),rfl,fun xs' h'=>by rw [I.tuple_inj h' q1];exact hx,fun ys' h'=>by rw [I.tuple_inj h' q2];exact hy,rfl⟩,?_,fun b hb=>?_⟩
  ·obtain ⟨zz,zi,⟨a,b',zo⟩,g1,g2⟩:=Z'
   exact ⟨zz2,(sb.2 _ D.a1).trans zi,⟨a,b',(sb.2 _ D.a2).trans zo⟩,g1.at fun o e=>(sb.2 _ D.a3).trans e,g2.at fun o e=>(sb.2 _ D.a4).trans e⟩
  ·rw [z06 (Nat.ne_of_lt (lt5 b hb))];exact nT b hb
 done:=by
  intro X hP hw hK hc i pins s σ H E I hf st hg
  subst hP hw hK
  obtain ⟨xs,ys,q1,q2,hl⟩:=hg
  obtain ⟨its1,rv1,p1,z1⟩:=I.tuple q1
  obtain ⟨its2,rv2,p2,z2⟩:=I.tuple q2
  have l1:=rv1.length
  have l2:=rv2.length
  refine zg8 (I.ok.hd hc) D O1 O2 st (show s.heap.IsTuple t1 its1.toArray from p1) (show s.heap.IsTuple t2 its2.toArray from p2) ?_ fun h' kp=>⟨rfl,?_⟩
  ·rcases hl with q | q
   ·exact .inl (by simp;omega)
   ·exact .inr (by simp;omega)
  ·have hf':∀ b∈[z,TO,i1,i2],FpOk X pins H b:=fun b hb=>hf b (by simp at hb ⊢;rcases hb with q | q | q | q<;>simp [q])
   refine I.step (g':=s.gens) (t':=s.toks) (d':=s.drawn) (ch:=[z,TO,i1,i2]) (fun b hb=>⟨(hf' b hb).2.2.2.1,(hf' b hb).2.1,(hf' b hb).2.2.2.2.1,(hf' b hb).2.2.2.2.2⟩) (fun b o _ _ hc e _=>?_) (fun b o _ _ hc e _=>⟨o.slots,?_⟩)
    (fun _ _ _ _ n=>n) (fun b o hc e=>⟨o,?_⟩) (fun _ _ e=>e) (fun _ _ _ e=>e) (fun b ps e=>⟨#[],by rw [e];simp⟩) (fun m hm=>?_) (fun b u e=>?_) I.bare
   ·simp at hc;exact kp b o hc.1 hc.2.1 hc.2.2.1 hc.2.2.2 e
   ·simp at hc;exact kp b o hc.1 hc.2.1 hc.2.2.1 hc.2.2.2 e
   ·simp at hc;exact kp b o hc.1 hc.2.1 hc.2.2.1 hc.2.2.2 e
   ·obtain ⟨o,es,ep,q,r⟩:=hm
    exact ⟨o,es,ep,kp _ o (fun y=>(hf' z (by simp)).2.1 y.symm) (fun y=>(hf' TO (by simp)).2.1 y.symm) (fun y=>(hf' i1 (by simp)).2.1 y.symm) (fun y=>(hf' i2 (by simp)).2.1 y.symm) q,r⟩
   ·refine (I.hok b u e).stay (fun c v hc q=>?_) (fun _ q=>q) fun _ _ q=>q
    have tr:∀ d∈[z,TO,i1,i2],c≠d:=fun d hd y=>by
     subst y
     rcases hc with y | y
     ·rw [← y,(hf' c hd).1] at e;cases e
     ·rw [(hf' c hd).1] at y;cases y
    exact kp c v (tr z (by simp)) (tr TO (by simp)) (tr i1 (by simp)) (tr i2 (by simp)) q
 self:=fun _ _ _ _ _ st h=>z7z st h
section
variable {X:Cx}{EX:XX}{a b:Expr}{elts:List Expr}{kk:Nat}{p pos pt:Pos}{ma mb:G->M D}
theorem zv3 (n:Nat):ZA (n+4) (n+2) (n+3) n (n+1):=by
 constructor<;>(intro h;have h':(_:Nat)=(_:Nat):=h;omega)
theorem z9Q (n t:Nat) (h:t<n):ZO (n+4) (n+3) n (n+1) t:=by
 constructor<;>(intro h;have h':(_:Nat)=(_:Nat):=h;omega)
def zz4 (K:PySem.W.Frag) (ta:TA):TI:=fun σ H R=>ta σ H fun vs H2=>∃ t1 t2 xs ys,vs=[.ref t1,.ref t2]/\SqT K H2 t1 xs/\SqT K H2 t2 ys/\R (Itz K t1 t2) H2
theorem zv6 {ta:TA}(hg:Gl X "zip") (hm:X.mg "zip" = none) (ha:PA X [a,b] ta)
 (hs:starEach [a,b] X.env=[(false,eval a X.env),(false,eval b X.env)]:=by rfl) (hs2:starEach [b] X.env=[(false,eval b X.env)]:=by rfl):PI X (.Tuple elts kk pt) (.Call (.Name "zip" p) [a,b] [] pos) (zz4 X.K ta):=by
 intro pins s σ H R I h
 refine Call_ (z5l I hg hm boot_zip (PyProof.Rows.callWith_type1 (thn (ha pos pins s σ H _ I h) fun us s1 ⟨vs,H1,I1,r1,q1⟩=>?_) (by rw [hs,hs2]) (by rw [hs2];rfl)))
 obtain ⟨t1,t2,xs,ys,e,q2,q3,q⟩:=q1
 subst e
 cases r1 with
 | cons r rr =>
  cases rr with
  | cons r' rr =>
   cases rr
   cases r
   cases r'
   obtain ⟨its1,rv1,p1,z1⟩:=I1.tuple q2
   obtain ⟨its2,rv2,p2,z2⟩:=I1.tuple q3
   refine z9f (show s1.heap.IsTuple t1 its1.toArray from p1) (show s1.heap.IsTuple t2 its2.toArray from p2) fun h' Z sz kp=>?_
   refine z7z (s:={ s1 with heap:=h' }) Z ?_
   have lt1:t1<s1.heap.objs.size:=by obtain ⟨o,e,_⟩:=p1;exact Heap.lt_size e
   have lt2:t2<s1.heap.objs.size:=by obtain ⟨o,e,_⟩:=p2;exact Heap.lt_size e
   refine ⟨s1.heap.objs.size+4,_,_,_,H1,rfl,I1.kept (t':=s1.toks) kp,z95 (zv3 _) (t1:=t1) (t2:=t2) (z9Q _ _ lt1) (z9Q _ _ lt2),Z,fun b hb=>?_,q⟩
   have hb':s1.heap.objs.size≤b:=by
    simp at hb
    rcases hb with rfl | rfl | rfl | rfl | rfl
    ·exact Nat.le_add_right _ _
    ·exact Nat.le_add_right _ _
    ·exact Nat.le_add_right _ _
    ·exact Nat.le_refl _
    ·exact Nat.le_add_right _ _
   exact I1.fpOk hb' (I1.hok.fresh hb')
def zipD (xs ys:List D):List D:=List.zipWith (fun a b=>.tup [a,b]) xs ys
def iZip (ma mb:G->M D):G->M Src:=fun γ=>do
 let l ← z9 ma (z9 mb aNil) γ
 match l with
 | [.tup xs,.tup ys]=>pure (.con (zipD xs ys))
 | _=>bad
theorem z9F {xs ys:List D}{i:Nat}{d:D}(h:(zipD xs ys)[i]?=some d):∃ x y,xs[i]?=some x/\ys[i]?=some y/\d=.tup [x,y]:=by
 unfold zipD at h
 rw [List.getElem?_zipWith] at h
 cases e1:xs[i]? with
 | none=>rw [e1] at h;cases h
 | some x =>
  cases e2:ys[i]? with
  | none=>rw [e1,e2] at h;cases h
  | some y=>rw [e1,e2] at h;cases h;exact ⟨x,y,rfl,rfl,rfl⟩
theorem zt8 (hc:X.calm=true) (hg:Gl X "zip") (hm:X.mg "zip" = none) (ha:SE X EX a ma) (hb:SE X EX b mb)
 (hs:starEach [a,b] X.env=[(false,eval a X.env),(false,eval b X.env)]:=by rfl) (hs2:starEach [b] X.env=[(false,eval b X.env)]:=by rfl):SI X EX (.Tuple elts kk pt) (.Call (.Name "zip" p) [a,b] [] pos) (iZip ma mb) :=
 ⟨PI.imp (zv6 hg hm (z0 ha (z0 hb Z1 hs2) (by rw [hs,hs2])).h hs hs2) fun σ H R ⟨ρ,γ,h,rel,fin⟩=>⟨ρ,γ,h,rel,(Fin.bind fin).mono fun l ρ1 h1 H1 p1 e1 r1 f1 vs rv=>by
  split at f1
  ·rename_i xs ys
   simp only [RDs,RD] at rv
   obtain ⟨_,_,rfl,⟨t1,us,rfl,q1,d1⟩,_,_,rfl,⟨t2,ws,rfl,q2,d2⟩,rfl⟩:=rv
   refine ⟨t1,t2,us,ws,rfl,q1,q2,f1 ρ1 H1 (Pre.refl _) (Ext.refl _ _) r1 _ fun i ρ2 h4 H2 p2 e2 r2 _=>⟨fun d hd=>?_,fun hi=>?_⟩⟩
   ·have hd':(zipD xs ys)[i]?=some d:=hd
    obtain ⟨x,y,g1,g2,rfl⟩:=z9F hd'
    obtain ⟨v1,a1,b1⟩:=(d1.mono p2 e2).get g1
    obtain ⟨v2,a2,b2⟩:=(d2.mono p2 e2).get g2
    refine ⟨⟨us,ws,v1,v2,e2.t _ _ q1,e2.t _ _ q2,a1,a2⟩,fun v H3 ⟨T,x',y',n1,n2,n3,n4,n5⟩=>?_⟩
    have m1:=n3 us (e2.t _ _ q1)
    have m2:=n4 ws (e2.t _ _ q2)
    rw [a1] at m1;cases m1
    rw [a2] at m2;cases m2
    subst n2;subst n5
    have ext:Ext X.K H2 (L2.upd H2 T (.tup [v1,v2])):=Ext.upd (.inl n1)
    refine ⟨?_,r2.other n1,ext⟩
    simp only [RD]
    exact ⟨T,_,rfl,SqT.of z0I,RDs.cons (b1.mono (Pre.refl _) ext) (RDs.cons (b2.mono (Pre.refl _) ext) RDs.nil)⟩
   ·have hi':(zipD xs ys).length=i:=hi
    unfold zipD at hi'
    rw [List.length_zipWith] at hi'
    have l1:=d1.length
    have l2:=d2.length
    exact ⟨us,ws,e2.t _ _ q1,e2.t _ _ q2,by omega⟩
  ·exact (show False from f1).elim⟩⟩
end
section
variable {X:Cx}{EX:XX}{a b:Expr}{tg:Expr}{p pos p2:Pos}{ma mb:G->M D}
theorem z7m {A:Around}{E:Value->Shared->Prop}{s:Shared}{t sl:Addr}{items:Array Value}{vl vu:Value}{lo hi:Option Int}{Q:Value->Shared->Prop}(ht:IsTup s.heap t items) (hs:s.heap.IsSliceOf sl vl vu .none) (pl:IsPart vl lo) (pu:IsPart vu hi)
 (hw:HT.sIx items.size 0 lo=0/\HT.sIx items.size items.size hi=items.size) (h:Q (.ref t) s):wpAny (model X.prog X.w) A (getItem (.ref t) (.ref sl)) Q E s:=by
 obtain ⟨os,hos,hcs,hds⟩:=id hs
 have hTs:s.TypeIs (.ref sl) "slice":=⟨os,hos,hcs⟩
 unfold getItem
 try with_reducible refine wpAny_holding ?_
 first | refine wpAny_bind (wpAny_pure ?_) | skip
 refine wpAny_bind (wpAny_sequenceKey ht.typeIs (by decide) ?_)
 refine wpAny_bind (wpAny_callSpecial?_slot (name:=Str.ofString "__getitem__") ht.typeIs PyProof.Rows.slot_tuple_getitem
  (wpAny_call_entry PyProof.Rows.slot_tuple_getitem ht.typeIs entry_tuple_getitem ?_ (args_tuple_getitem _ _)))
 show wpAny _ _ (Builtin.Tuple.tupleItemsOf (.ref t) >>= _) _ _ s
 refine wpAny_bind (tupleItemsOf_ ht ?_)
 refine wpAny_bind (wpAny_typeOf hTs ?_)
 rw [if_pos (by decide)]
 refine wpAny_bind (HT.sliceApplied_gen hs pl pu ?_)
 have yes:((((HT.sIx items.size 0 lo:Nat):Int) == 0 && (1:Int) == 1 && (HT.sIx items.size items.size hi - HT.sIx items.size 0 lo) == items.size)=true):=by
  rw [hw.1,hw.2];simp
 show wpAny _ _ (if (((HT.sIx items.size 0 lo:Nat):Int) == 0 && (1:Int) == 1 && (HT.sIx items.size items.size hi - HT.sIx items.size 0 lo) == items.size)=true then _ else _) _ _ s
 rw [if_pos yes]
 refine wpAny_bind (m:=Builtin.Tuple.tupleIsExact (.ref t)) ?_
 unfold Builtin.Tuple.tupleIsExact
 refine wpAny_bind (wpAny_typeOf ht.typeIs (wpAny_pure ?_))
 rw [if_pos (by decide)]
 exact wpAny_bind (wpAny_rule (wpAny_pure ⟨_,rfl,wpAny_pure h⟩))
def rSlW (K:PySem.W.Frag):V->Option Int->Option Int->Hp->VK->Prop:=fun x lo hi H Q=>∃ a xs,x=.ref a/\SqT K H a xs/\(HT.sIx xs.length 0 lo=0/\HT.sIx xs.length xs.length hi=xs.length)/\Q (.ref a) H
theorem z9C:SlR X (rSlW X.K):=by
 intro pins s σ H x v vl vu lo hi sl Q I rx hs pl pu h
 obtain ⟨a,xs,rfl,hx,hw,q⟩:=h
 cases rx
 obtain ⟨its,r,ht,hz⟩:=I.tuple hx
 have hlen:its.toArray.size=xs.length:=by rw [List.size_toArray];exact r.length.symm
 exact ⟨"tuple",_,PyProof.Rows.slot_tuple_getitem.lookup,ht.typeIs,z7m ht hs pl pu (by rw [hlen];exact hw) ⟨.ref a,H,I,rfl,q⟩⟩
def cutD (xs:List D) (lo hi:Option Int):List D:=(xs.drop (HT.sIx xs.length 0 lo)).take (HT.sIx xs.length xs.length hi - HT.sIx xs.length 0 lo)
theorem z5o {K:PySem.W.Frag}{ρ:List Addr}{H:Hp}{ds:List D}{xs:List V}(h:RDs K ρ H ds xs) (lo hi:Option Int):RDs K ρ H (cutD ds lo hi) (cutV xs lo hi):=by
 unfold cutD cutV
 rw [h.length]
 exact (h.drop _).take _
def fSl:D->Option Int->Option Int->M D
 | .tup xs,lo,hi=>pure (.tup (cutD xs lo hi))
 | .fl xs,lo,hi=>newL (cutD xs lo hi)
 | .ref n,lo,hi=>do
  let xs ← getL n
  newL (cutD xs lo hi)
 | _,_,_=>bad
def tO (K:PySem.W.Frag) (EX:XX) (m:G->M (Option Int)):TO:=fun σ H Q=>∃ ρ γ h,Rel K ρ γ h σ H/\Fin K EX ρ H (fun o _ _ H'=>Q o H') (m γ h)
structure SO (X:Cx) (EX:XX) (e:Option Expr) (m:G->M (Option Int)):Prop where
 h:PO X e (tO X.K EX m)
theorem PO.imp {X:Cx}{e:Option Expr}{t t':TO}(h:PO X e t) (f:∀ σ H Q,t' σ H Q->t σ H Q):PO X e t':=fun pins s σ H Q I z=>h pins s σ H Q I (f σ H Q z)
def z0d:G->M (Option Int):=fun _=>pure none
def z0e (ma:G->M D):G->M (Option Int):=fun γ=>do
 let x ← ma γ
 match x with
 | .int i=>pure (some i)
 | _=>bad
theorem z15:SO X EX none z0d:=⟨PO.imp zh7 fun σ H Q ⟨ρ,γ,h,rel,fin⟩=>fin ρ H (Pre.refl _) (Ext.refl _ _) rel.h⟩
theorem z16 (ha:SE X EX a ma):SO X EX (some a) (z0e ma):=⟨PO.imp (zb6 ha.h) fun σ H Q ⟨ρ,γ,h,rel,fin⟩=>⟨ρ,γ,h,rel,(Fin.bind fin).mono fun x ρ1 h1 H1 p1 e1 r1 f1 v rv=>by
 cases x<;>first | exact (show False from f1).elim | skip
 rename_i i
 simp only [RD] at rv
 exact ⟨i,rv,f1 ρ1 H1 (Pre.refl _) (Ext.refl _ _) r1⟩⟩⟩
def J9 (ma:G->M D) (ml mh:G->M (Option Int)):G->M D:=fun γ=>do
 let x ← ma γ
 let lo ← ml γ
 let hi ← mh γ
 fSl x lo hi
theorem zr8 {ρ:List Addr}{h:AH}{H:Hp}{x:D}{v:V}{lo hi:Option Int}{Q:VK}(r:RH X.K ρ h H) (rx:RD X.K ρ H x v) (fin:FE X.K EX ρ H Q (fSl x lo hi h)):rSlL X.K v lo hi H Q∨rSlT X.K v lo hi H Q∨rSlW X.K v lo hi H Q:=by
 cases x<;>first | exact (show False from fin).elim | skip
 case tup xs =>
  have rx':=rx
  simp only [RD] at rx
  obtain ⟨q,vs,rfl,h1,h2⟩:=rx
  have fin':FE X.K EX ρ H Q (.ok (.tup (cutD xs lo hi)) h):=fin
  by_cases hw:HT.sIx vs.length 0 lo=0/\HT.sIx vs.length vs.length hi=vs.length
  ·refine .inr (.inr ⟨q,vs,rfl,h1,hw,FE.here fin' r ?_⟩)
   have e:cutD xs lo hi=xs:=by
    unfold cutD
    rw [h2.length,hw.1,hw.2,List.drop_zero,Nat.sub_zero,← h2.length,List.take_length]
   rw [e];exact rx'
  ·exact .inr (.inl ⟨q,vs,rfl,h1,hw,fun p hp=>FE.tup fin' r (z5o h2 lo hi) hp⟩)
 case fl xs =>
  simp only [RD] at rx
  obtain ⟨q,vs,rfl,h1,h2⟩:=rx
  have fin':FE X.K EX ρ H Q (newL (cutD xs lo hi) h):=fin
  unfold newL at fin'
  split at fin'
  ·exact .inl ⟨q,vs,rfl,h1.sq,fun p hp=>FE.lst fin' r (z5o h2 lo hi) hp⟩
  ·exact fin'.elim
 case ref n =>
  simp only [RD] at rx
  obtain ⟨q,rfl,h1⟩:=rx
  have fin':FE X.K EX ρ H Q ((getL n >>= fun xs=>newL (cutD xs lo hi)) h):=fin
  have f1:=Fin.bind fin'
  cases e:getL n h with
  | bad=>rw [e] at f1;exact f1.elim
  | err z hz=>exact (z2d e).elim
  | ok xs h2 =>
   obtain ⟨rfl,q1⟩:=z27 e
   rw [e] at f1
   have f2:=f1 ρ H (Pre.refl _) (Ext.refl _ _) r
   dsimp only at f2
   unfold newL at f2
   split at f2
   ·obtain ⟨a1,n1,vs,o1,d1⟩:=r.at q1
    rw [h1] at n1;cases n1
    exact .inl ⟨q,vs,rfl,SqL.of o1,fun p hp=>FE.lst f2 r (z5o d1 lo hi) hp⟩
   ·exact f2.elim
theorem z0H {lo hi:Option Expr}{ml mh:G->M (Option Int)}(ha:SE X EX a ma) (hl:SO X EX lo ml) (hh:SO X EX hi mh):SE X EX (.Subscript a (.Slice lo hi none p2) pos) (J9 ma ml mh) :=
 ⟨PE.imp (z8Z (sl_list.or (sl_tup.or z9C)) ha.h hl.h hh.h) fun σ H Q ⟨ρ,γ,h,rel,fin⟩=>⟨ρ,γ,h,rel,(Fin.bind fin).mono fun x ρ1 h1 H1 p1 e1 r1 f1 v rv=>⟨ρ1,γ,h1,⟨rel.g.mono p1 e1,r1⟩,(Fin.bind f1).mono fun l ρ2 h2 H2 p2 e2 r2 f2 =>
  ⟨ρ2,γ,h2,⟨(rel.g.mono p1 e1).mono p2 e2,r2⟩,(Fin.bind f2).mono fun u ρ3 h3 H3 p3 e3 r3 f3=>zr8 r3 ((rv.mono p2 e2).mono p3 e3) f3⟩⟩⟩⟩
end
def leS (a b:Str):Bool:=!decide (b.cps.toList<a.cps.toList)
theorem z5c {a b c:Str}(h1:leS a b=true) (h2:leS b c=true):leS a c=true:=by
 simp only [leS,Bool.not_eq_true',decide_eq_false_iff_not] at *
 exact List.not_lt.mpr (List.le_trans (List.not_lt.mp h1) (List.not_lt.mp h2))
theorem z7K (a b:Str):(leS a b || leS b a)=true:=by
 simp only [leS,Bool.or_eq_true,Bool.not_eq_true',decide_eq_false_iff_not]
 rcases List.le_total a.cps.toList b.cps.toList with h | h
 ·exact .inl (List.not_lt.mpr h)
 ·exact .inr (List.not_lt.mpr h)
theorem z8C {a b:Str}(h:a.cps.toList=b.cps.toList):a=b:=by
 cases a;cases b
 congr 1
 exact Array.toList_inj.mp h
theorem z92 {a b:Str}(h1:leS a b=true) (h2:leS b a=true):a=b:=by
 simp only [leS,Bool.not_eq_true',decide_eq_false_iff_not] at *
 exact z8C (List.le_antisymm (List.not_lt.mp h1) (List.not_lt.mp h2))
def z2t (l:List Str):List Str:=l.mergeSort leS
theorem z6S (l:List Str):(z2t l).Perm l:=List.mergeSort_perm l leS
theorem z8Q (l:List Str):(z2t l).Pairwise (fun a b=>leS a b=true):=List.pairwise_mergeSort (le:=leS) (fun a b c h1 h2=>z5c h1 h2) z7K l
theorem z4X:∀ (p:Str) (l:List Str),risingS p l=true->(p :: l).Pairwise (fun a b=>leS a b=true)
 | p,[],_=>by simp
 | p,x :: r,h=>by
  have h':(!ltCps x.cps.toList p.cps.toList && risingS x r)=true:=h
  rw [Bool.and_eq_true,ltCps_eq] at h'
  have ih:=z4X x r h'.2
  have px:leS p x=true:=h'.1
  refine List.pairwise_cons.mpr ⟨fun y hy=>?_,ih⟩
  rcases List.mem_cons.mp hy with rfl | hy
  ·exact px
  ·exact z5c px ((List.pairwise_cons.mp ih).1 y hy)
theorem z8U {l l':List Str}(p:l'.Perm l) (h:sortedS l'=true):l'=z2t l:=by
 have pw:l'.Pairwise (fun a b=>leS a b=true):=by
  cases l' with
  | nil=>exact .nil
  | cons x r=>exact z4X x r h
 exact List.Perm.eq_of_pairwise (fun a b _ _=>z92) pw (z8Q l) (p.trans (z6S l).symm)
def leI (a b:Int):Bool:=decide (a≤b)
def sortI (l:List Int):List Int:=l.mergeSort leI
theorem sortI_perm (l:List Int):(sortI l).Perm l:=List.mergeSort_perm l leI
theorem z96 (l:List Int):(sortI l).Pairwise (fun a b=>a≤b):=by
 have:=List.pairwise_mergeSort (le:=leI) (fun a b c h1 h2=>by simp only [leI,decide_eq_true_eq] at *;omega) (fun a b=>by simp only [leI,Bool.or_eq_true,decide_eq_true_eq];omega) l
 exact this.imp fun h=>by simpa [leI] using h
theorem z9B {l l':List Int}(p:l'.Perm l) (h:l'.Pairwise (·≤·)):l'=sortI l :=
 List.Perm.eq_of_pairwise (fun a b _ _ h1 h2=>Int.le_antisymm h1 h2) h (z96 l) (p.trans (sortI_perm l).symm)
def z4h:List D->Option (List Str)
 | []=>some []
 | .str b :: r=>(z4h r).map (b :: ·)
 | _ :: _=>none
def z3J:List D->Option (List Int)
 | []=>some []
 | .int b :: r=>(z3J r).map (b :: ·)
 | _ :: _=>none
def z2S:List D->M D
 | [.ref n]=>do
  let xs ← getL n
  if xs.length<64 then (match z4h xs with
   | some ss=>newL ((z2t ss).map .str)
   | none=>(match z3J xs with
    | some ns=>newL ((sortI ns).map .int)
    | none=>bad)) else bad
 | _=>bad
theorem z6s {K:PySem.W.Frag}{ρ:List Addr}{H:Hp}:∀ {xs:List D}{bs:List Str}{vs:List V},z4h xs=some bs->RDs K ρ H xs vs->vs=bs.map V.str
 | [],bs,vs,e,r=>by simp only [RDs] at r;cases e;subst r;rfl
 | x :: xs,bs,vs,e,r=>by
  simp only [RDs] at r
  obtain ⟨v,r2,rfl,h1,h2⟩:=r
  cases x<;>first | (simp only [z4h] at e;cases e;done) | skip
  rename_i b
  simp only [z4h] at e
  obtain ⟨bs',e1,rfl⟩:=Option.map_eq_some_iff.mp e
  simp only [RD] at h1
  subst h1
  rw [z6s e1 h2];rfl
theorem z45 {K:PySem.W.Frag}{ρ:List Addr}{H:Hp}:∀ {xs:List D}{bs:List Int}{vs:List V},z3J xs=some bs->RDs K ρ H xs vs->vs=bs.map V.int
 | [],bs,vs,e,r=>by simp only [RDs] at r;cases e;subst r;rfl
 | x :: xs,bs,vs,e,r=>by
  simp only [RDs] at r
  obtain ⟨v,r2,rfl,h1,h2⟩:=r
  cases x<;>first | (simp only [z3J] at e;cases e;done) | skip
  rename_i b
  simp only [z3J] at e
  obtain ⟨bs',e1,rfl⟩:=Option.map_eq_some_iff.mp e
  simp only [RD] at h1
  subst h1
  rw [z45 e1 h2];rfl
theorem z5V:∀ {bs:List Str}{us:List Value},Vals (bs.map V.str) us->StrsAre us bs
 | [],us,h=>by cases h;exact .nil
 | b :: bs,us,h=>by
  cases h with
  | cons h1 h2=>obtain ⟨t,rfl⟩:=h1;exact .cons b t (z5V h2)
theorem z6l:∀ {us:List Value}{bs:List Str},StrsAre us bs->Vals (bs.map V.str) us
 | _,_,.nil=>.nil
 | _,_,.cons y t r=>.cons ⟨t,rfl⟩ (z6l r)
theorem z8E:∀ {us:List Value}{bs:List Int},IntsAre us bs->Vals (bs.map V.int) us:=fun h=>z3L h
section
variable {X:Cx}{EX:XX}{a:Expr}{p pos:Pos}{mr:G->M (List D)}
theorem z5t:z3d X (.builtin "sorted") (fun xs H Q=>∃ l ys,xs=[.ref l]/\SqL X.K H l ys/\ys.length<64 /\
 ((∃ ss,ys=ss.map V.str/\∀ q,H q=none->Q (.ref q) (upd H q (.lst ((z2t ss).map V.str))))∨(∃ ns,ys=ns.map V.int/\∀ q,H q=none->Q (.ref q) (upd H q (.lst ((sortI ns).map V.int)))))):=by
 intro pins s σ H xs us Q I r h
 obtain ⟨l,ys,rfl,hq,h64,h⟩:=h
 obtain ⟨u,rfl,ru⟩:=vals1 r
 cases ru
 obtain ⟨its,rv,pl,hz⟩:=I.list hq
 have hl:=rv.length
 have fin:∀ (out:Array Value) (zs:List V),Vals zs out.toList->zs.length=ys.length->(∀ q,H q=none->Q (.ref q) (upd H q (.lst zs)))->EP X pins σ Q (.ref (s.heap.objs.size+1)) { s with heap:=sortedAll s.heap its out }:=fun out zs h1 h2 h3=>by
  obtain ⟨e,he⟩:=sortedAll_at s.heap its out
  refine ⟨.ref (s.heap.objs.size+1),_,I.laid (t':=s.toks) (o:=.lst zs) (fun b o q=>sortedAll_old q) (Nat.le_succ _) ⟨by omega,out.toList,e,h1,?_⟩,rfl,h3 _ (I.hok.fresh (Nat.le_succ _))⟩
  rw [he]
 rcases h with ⟨ss,rfl,h⟩ | ⟨ns,rfl,h⟩
 ·refine sorted_strs pl.isList (z5V rv) (by omega) fun out ss' h1 h2 h3=>?_
  have e:=z8U h2 h3
  subst e
  exact fin out _ (z6l h1) (by rw [List.length_map,List.length_map,h2.length_eq]) h
 ·have hi:IntsAre its ns:=L2.intsAre_of rv
  refine sorted_ints pl.isList hi (by omega) fun out ns' h1 h2 h3=>?_
  have e:=z9B h2 h3
  subst e
  exact fin out _ (z8E h1) (by rw [List.length_map,List.length_map,h2.length_eq]) h
theorem z5S {K:PySem.W.Frag}{ρ:List Addr}{H:Hp}:∀ (l:List Str),RDs K ρ H (l.map .str) (l.map V.str)
 | []=>RDs.nil
 | x :: r=>RDs.cons (by simp [RD]) (z5S r)
theorem z4t {K:PySem.W.Frag}{ρ:List Addr}{H:Hp}:∀ (l:List Int),RDs K ρ H (l.map .int) (l.map V.int)
 | []=>RDs.nil
 | x :: r=>RDs.cons (by simp [RD]) (z4t r)
theorem z86:AR X.K EX (fun xs H Q=>∃ l ys,xs=[.ref l]/\SqL X.K H l ys/\ys.length<64 /\
 ((∃ ss,ys=ss.map V.str/\∀ q,H q=none->Q (.ref q) (upd H q (.lst ((z2t ss).map V.str))))∨(∃ ns,ys=ns.map V.int/\∀ q,H q=none->Q (.ref q) (upd H q (.lst ((sortI ns).map V.int)))))) z2S:=by
 intro ρ h H ds vs Q r rd fin
 unfold z2S at fin
 split at fin
 ·rename_i n
  obtain ⟨v,rfl,rv⟩:=rds1 rd
  have f1:=Fin.bind fin
  cases e:getL n h with
  | bad=>rw [e] at f1;exact f1.elim
  | err z hz=>exact (z2d e).elim
  | ok xs h1 =>
   obtain ⟨rfl,q1⟩:=z27 e
   rw [e] at f1
   have f2:=f1 ρ H (Pre.refl _) (Ext.refl _ _) r
   dsimp only at f2
   simp only [RD] at rv;obtain ⟨q,rfl,h2⟩:=rv
   obtain ⟨a1,n1,ws,o1,d1⟩:=r.at q1
   rw [h2] at n1;cases n1
   by_cases hl:xs.length<64
   ·rw [if_pos hl] at f2
    refine ⟨q,ws,rfl,SqL.of o1,by rw [← d1.length];exact hl,?_⟩
    cases eb:z4h xs with
    | some ss =>
     rw [eb] at f2
     have f3:FE X.K EX ρ H Q (newL ((z2t ss).map .str) h1):=f2
     unfold newL at f3
     split at f3
     ·exact .inl ⟨ss,z6s eb d1,fun p hp=>FE.lst f3 r (z5S _) hp⟩
     ·exact f3.elim
    | none =>
     rw [eb] at f2
     cases en:z3J xs with
     | some ns =>
      rw [en] at f2
      have f3:FE X.K EX ρ H Q (newL ((sortI ns).map .int) h1):=f2
      unfold newL at f3
      split at f3
      ·exact .inr ⟨ns,z45 en d1,fun p hp=>FE.lst f3 r (z4t _) hp⟩
      ·exact f3.elim
     | none=>rw [en] at f2;exact (show False from f2).elim
   ·rw [if_neg hl] at f2;exact (show False from f2).elim
 ·exact fin.elim
theorem z82 (hc:X.calm=true) (hg:Gl X "sorted") (hm:X.mg "sorted" = none) (ha:SA X EX [a] mr) (he:starEach [a] X.env=[(false,eval a X.env)]:=by rfl):SE X EX (.Call (.Name "sorted" p) [a] [] pos) (j3 z2S mr) :=
 z2f (z29 z5t hg hm boot_sorted ha.h (by decide) (by decide) he rfl) z86
end
end FT
set_option maxHeartbeats 2000000
namespace FT
open PySem PySem.Spec PyProof.Rows L2
@[simp] theorem bindM {α β:Type} (m:M α) (f:α->M β) (h:AH):(m >>= f) h=match m h with
 | .ok a h1=>f a h1
 | .err x h1=>.err x h1
 | .bad=>.bad:=rfl
@[simp] theorem pureM {α:Type} (a:α) (h:AH):(Pure.pure a:M α) h=.ok a h:=rfl
section
variable {P:Program}{w:World}
variable {A:Around}{E:Value->Shared->Prop}{s:Shared}{a:Addr}
end
def putK (acc:List Key) (k:Key):List Key:=if k∈acc then acc else acc++[k]
section
variable {P:Program}{w:World}{A:Around}{E:Value->Shared->Prop}{s:Shared}{a:Addr}
end
section
variable {P:Program}{w:World}{A:Around}{R:Result->Shared->Prop}{I:Addr}{fp wr:List Addr}{G:Array GenState->Array GenState->Prop}{n:Nat}{PV:Nat->Value->Prop}{St:Nat->Shared->Prop}
end
end FT
set_option maxHeartbeats 3200000
namespace FT
open PySem PySem.Spec PyProof.Rows L2
section
variable {P:Program}{w:World}{A:Around}{E:Value->Shared->Prop}{s:Shared}
end
end FT
set_option maxHeartbeats 1600000
namespace FT
open PySem PySem.Spec PyProof.Rows L2
section
variable {P:Program}{w:World}{A:Around}{E:Value->Shared->Prop}{s:Shared}
end
section
variable (w:World) (S:Addr) (es:Array (Int×Value)) (ep:Nat) (t:SetTable)
end
section
variable {P:Program}{w:World}{A:Around}{E:Value->Shared->Prop}{s:Shared}{S I:Addr}{es:Array (Int×Value)}{ep:Nat}{t:SetTable}{i:Nat}{f:Value}{ord:List (Int×Value)}{o:Obj}
end
section
variable {P:Program}{w:World}{A:Around}{E:Value->Shared->Prop}{s:Shared}{S:Addr}{es:Array (Int×Value)}{ep:Nat}{t:SetTable}{o:Obj}
end
section
variable {X:Cx}
end
section
variable {P:Program}{w:World}{A:Around}{E:Value->Shared->Prop}{s:Shared}
end
def keyD:D->Option Key
 | .int i=>some (.inl i)
 | .str x=>some (.inr x)
 | _=>none
def zB6:D->M Nat
 | .ref n=>fun h=>match h[n]? with
  | some (.set _)=>.ok n h
  | _=>.bad
 | _=>bad
def eMS (f:Nat->D->M D) (mo ma:G->M D):G->M D:=fun γ=>do
 let o ← mo γ
 let n ← zB6 o
 let v ← ma γ
 f n v
section
variable {X:Cx}{EX:XX}{a o:Expr}{p pos apos cpos:Pos}{ma mo:G->M D}{mr:G->M (List D)}
end
theorem Y1 {P:Program}{w:World}{K:PySem.W.Frag}{mg:Str->Option Value}{base:Heap}{x:Str}{st:Stmt}{f:Addr}{fd:FuncData}{N ps:List Str}{k n:Nat}{mb:G->M Out}(F:Fun K x x st f fd) (S:FnScope N ps (Z5 st)) (hb:Binds K fd ps []) (mx:mg x=some (.ref f)) (hn:ps.length=n)
 (body:∀ (cdv:Value) (A:Around) (outer:List Env) (s:Shared) (H:Hp) (E:XK),PySem.W.codeIn K cdv x=true->Room k (A.deeper (envOfC x (Z5 st) s.heap.objs.size f cdv)) ->
  SB (cxOf CX0 P w K mg base N x (Z5 st) f cdv A outer s H E).nox EX0 (j7 st) mb):Fn P w K mg base (k+1) x n (runF N.length mb):=by
 refine ⟨f,fd,ps,?_,hb,F.kp,mx⟩
 obtain ⟨oc,od,kV,doc,pm,an,cdv,ct,osl,rfl,lk,hcd⟩:=F.ex
 refine zk6 lk hcd S (fun vs H Q E h=>h.1.trans hn.symm) fun A outer s H vs Q E hr h=>?_
 obtain ⟨hl,ρ,ds,h,rh,rd,fin⟩:=h
 refine ⟨_,(body cdv A outer s H E hcd hr).h.nox,ρ,z2k N.length ds,h,⟨z3M rd,rh⟩,?_⟩
 refine (Fin.bind fin).mono fun o ρ1 h1 H1 p1 e1 r1 f1=>?_
 cases o with
 | nx γ=>exact fun σ _=>FE.here (d:=.non) (h:=h1) f1 r1 (by simp [RD])
 | rt d=>exact fun v rv=>f1 ρ1 H1 (Pre.refl _) (Ext.refl _ _) r1 v rv
 | bk γ=>exact (show False from f1).elim
 | ct γ=>exact (show False from f1).elim
section
variable {X:Cx}
end
section
variable {X:Cx}{EX:XX}
end
section
variable {X:Cx}{EX:XX}{a:Expr}{elts:List Expr}{kk:Nat}{p pos pt:Pos}{ma:G->M D}
end
end FT
namespace L2
open PySem PySem.Spec PyProof.Rows
section
variable {prog:Program}{w:World}{A:Around}{R:Result->Shared->Prop}{s:Shared}{elt tg iter tg1 iter1:Expr}{ifs ifs1:List Expr}{scope:Scope}{pos:Pos}{it acc:Value}{env:Env}
abbrev two (elt tg iter tg1 iter1:Expr) (ifs ifs1:List Expr) (scope:Scope) (pos:Pos):Expr:=.ListComp elt [⟨tg,iter,ifs,0⟩,⟨tg1,iter1,ifs1,0⟩] scope pos
end
section
variable {X:Cx}{elt tg iter tg1 iter1:Expr}{ifs1:List Expr}{sc:Scope}{pos:Pos}{N':List Str}{cap:List (Option Nat)}{g g1:TG}{wi1:TI}{ti:TT}{te:TE}
end
end L2
namespace FT
open PySem PySem.Spec PyProof.Rows L2
section
variable {X:Cx}{EX:XX}{elt tg iter tg1 iter1:Expr}{ifs1:List Expr}{sc:Scope}{pos:Pos}{N':List Str}{cap:List (Option Nat)}{own own1:List Nat}{mi mi1:G->M Src}{g g1:D->G->M G}{k:G->M Bool}{me:G->M D}
end
end FT
namespace L2
open PySem PySem.Spec PyProof.Rows
theorem range_all {α:Type}(r:List α):(List.range r.length).filterMap (fun m=>r[m]?)=r:=by
 have:=pick_run r.toArray 0 r.length
 rw [List.filterMap_map] at this
 have e:((fun x=>r.toArray[x]?) ∘ fun x=>0+x)=fun m=>r[m]?:=by funext m;simp
 rw [e] at this
 rw [this]
 simp
section
variable {prog:Program}{w:World}{A:Around}{E:Value->Shared->Prop}{s:Shared}
end
section
variable {X:Cx}{e st:Expr}{te ts:TE}{pos p2:Pos}
end
end L2
namespace FT
open PySem PySem.Spec PyProof.Rows L2
theorem rds2 {K:PySem.W.Frag}{ρ:List Addr}{H:Hp}{d d':D}{vs:List V}(h:RDs K ρ H [d,d'] vs):∃ v v',vs=[v,v']/\RD K ρ H d v/\RD K ρ H d' v':=by
 simp only [RDs] at h
 obtain ⟨x,r,rfl,h2,y,q,rfl,h3,rfl⟩:=h
 exact ⟨x,y,rfl,h2,h3⟩
def eNeg (ma:G->M D):G->M D:=fun γ=>do
 let x ← ma γ
 match x with
 | .int i=>pure (.int (-i))
 | _=>bad
def fMin:List D->M D
 | [.int i,.int j]=>pure (.int (if j<i then j else i))
 | _=>bad
def fInt:List D->M D
 | [.int i]=>pure (.int i)
 | [.bl b]=>pure (.int (if b then 1 else 0))
 | _=>bad
section
variable {X:Cx}{EX:XX}{a b st:Expr}{pos p p2:Pos}{ma ms:G->M D}{mr:G->M (List D)}
theorem z40 (ha:SE X EX a ma):SE X EX (.UnaryOp .USub a pos) (eNeg ma) :=
 ⟨PE.imp (zA7 zp8 ha.h) fun σ H Q ⟨ρ,γ,h,rel,fin⟩=>⟨ρ,γ,h,rel,(Fin.bind fin).mono fun x ρ1 h1 H1 p1 e1 r1 f1 v rv=>by
  cases x<;>first | exact (show False from f1).elim | skip
  rename_i t
  simp only [RD] at rv
  exact ⟨t,rv,FE.here (d:=.int (-t)) (h:=h1) (ρ:=ρ1) f1 r1 (by simp [RD])⟩⟩⟩
theorem zl3:AR X.K EX (fun xs H Q=>∃ i j,xs=[.int i,.int j]/\Q (.int (if j<i then j else i)) H) fMin:=by
 intro ρ h H ds vs Q r rd fin
 unfold fMin at fin
 split at fin
 ·obtain ⟨v,u,rfl,rv,ru⟩:=rds2 rd
  simp only [RD] at rv ru
  subst rv;subst ru
  exact ⟨_,_,rfl,FE.here fin r (by simp [RD])⟩
 ·exact fin.elim
theorem zl9:AR X.K EX (fun xs H Q=>(∃ i,xs=[.int i]/\Q (.int i) H)∨∃ k,xs=[.bl k]/\Q (.int (if k then 1 else 0)) H) fInt:=by
 intro ρ h H ds vs Q r rd fin
 unfold fInt at fin
 split at fin
 ·obtain ⟨v,rfl,rv⟩:=rds1 rd
  simp only [RD] at rv
  subst rv
  exact .inl ⟨_,rfl,FE.here fin r (by simp [RD])⟩
 ·obtain ⟨v,rfl,rv⟩:=rds1 rd
  simp only [RD] at rv
  subst rv
  exact .inr ⟨_,rfl,FE.here fin r (by simp [RD])⟩
 ·exact fin.elim
theorem zn2 (hc:X.calm=true) (hg:Gl X "min") (hm:X.mg "min" = none) (ha:SA X EX [a,b] mr) (he:starEach [a,b] X.env=(false,eval a X.env) :: starEach [b] X.env:=by rfl) (hpl:(backTo pos (starEach [b] X.env)).any (·.1)=false:=by rfl):SE X EX (.Call (.Name "min" p) [a,b] [] pos) (j3 fMin mr) :=
 z2f (z29 (z8y hc) hg hm (by decide +kernel) ha.h (by decide) (by decide) he hpl) zl3
theorem z93 (hg:Gl X "int") (hm:X.mg "int" = none) (ha:SA X EX [a] mr) (he:starEach [a] X.env=[(false,eval a X.env)]:=by rfl):SE X EX (.Call (.Name "int" p) [a] [] pos) (j3 fInt mr) :=
 z2f (z2u z88 hg hm (by decide +kernel) ha.h (by decide) (by decide) he rfl) zl9
end
end FT
namespace L2
open PySem PySem.Spec PyProof.Rows
structure Kept (l:List Env) (e T:Addr) (h h':Heap):Prop where
 keep:∀ b o,h.get? b=some o->b∉frs l->b≠e->b≠T->h'.get? b=some o
 slot:∀ b o,h.get? b=some o->b∈frs l->∃ sl,h'.get? b=some { o with slots:=sl }
section
variable {M:Model}{A:Around}{E:Value->Shared->Prop}{s:Shared}{base:Heap}{env:Env}{outer:List Env}{L e T:Addr}{cls:Value}{Q:Unit->Shared->Prop}
end
section
variable {X:Cx}{pins:List (Addr×Obj)}{σ:List (Option V)}{H H':Hp}{s:Shared}{h':Heap}
end
section
variable {M:Model}{A:Around}{E:Value->Shared->Prop}{h:Heap}{g:Array GenState}{d:Drawn}{t:Nat}{os:OsState}{C Ch e:Addr}{oe:Obj}{b:Bool}{Q:Bool->Shared->Prop}
 {nm q:Str} {N:Addr} {bs bm:List Value} {hdct:Bool} {sn:List Str} {sub:List Value} {ab:Bool} {col:Option Bool} {dd:Option Addr} {k0 k1 k2 k3 k5:Option Value} {newId:String}
 {nm' q':Str} {N':Addr} {bs' bm':List Value} {hdct':Bool} {sn':List Str} {sub':List Value} {ab':Bool} {col':Option Bool} {dd':Option Addr} {k0' k1' k2' k3' k5':Option Value} {newId':String}
end
section
variable {X:Cx}{pins:List (Addr×Obj)}{σ:St}{H:Hp}{s:Shared}{e:Value}
end
section
variable {X:Cx}{pins:List (Addr×Obj)}{σ:St}{H1:Hp}{s1 s':Shared}{e:Value}{E:XK}{cn n:Str}{Ch:Addr}{bmH:List Value}{np hpos:Pos}{b₀:Stmt}{suite:List Stmt}{EE:Value->Shared->Prop}{D:Ends}{ts:TS}
end
section
variable {M:Model}{A:Around}{E:Value->Shared->Prop}{h:Heap}{g:Array GenState}{d:Drawn}{t:Nat}{os:OsState}
end
section
variable {prog:Program}{w:World}{A:Around}{E:Value->Shared->Prop}{h:Heap}{g:Array GenState}{d:Drawn}{t:Nat}{os:OsState}{a C:Addr}{o:Obj}
end
section
variable {X:Cx}{x:Str}{C:Addr}{bm:List Value}{B newId initId:String}{e₀:Expr}{rest:List Expr}{t:TA}{np cpos pos:Pos}{R:Hp->Prop}
end
section
variable {X:Cx}{CX:CXT}{k:Nat}{f:Addr}{fd:FuncData}{ps:List Str}{sp:Sp}{E:XK}{x:Str}{p pos:Pos}{e:Expr}{es:List Expr}{t:TA}{EE:Value->Shared->Prop}{Q:VK}{pins:List (Addr×Obj)}{σ:St}{H:Hp}{s:Shared}
end
section
variable {X:Cx}{k:Nat}{f Ch:Addr}{fd:FuncData}{ps:List Str}{sp:Sp}{x cn y:Str}{i:Nat}{p pos pos1 pos2 py np hpos:Pos}{e:Expr}{es:List Expr}{t:TA}{bmH:List Value}{b₀:Stmt}{suite:List Stmt}{ts:TS}
end
section
variable {X:Cx}{pins:List (Addr×Obj)}{σ:St}{H:Hp}{s:Shared}
end
section
variable {X:Cx}{pins:List (Addr×Obj)}{σ:St}{H1:Hp}{s1 s':Shared}{e:Value}{E:XK}{cn n:Str}{i:Nat}{Ch:Addr}{bmH:List Value}{np hpos:Pos}{b₀:Stmt}{suite:List Stmt}{EE:Value->Shared->Prop}{D:Ends}{ts:TS}
end
section
variable {X:Cx}{k:Nat}{f Ch:Addr}{fd:FuncData}{ps:List Str}{sp:Sp}{x cn n:Str}{i:Nat}{p pos pos1 pos2 np hpos:Pos}{e:Expr}{es:List Expr}{t:TA}{bmH:List Value}{b₀:Stmt}{suite:List Stmt}{ts:TS}
end
end L2
namespace FT
open PySem PySem.Spec PyProof.Rows L2
section
variable {X:Cx}{EX:XX}{e c:Expr}{es:List Expr}{st:Stmt}{sts:List Stmt}{me:G->M D}{k:G->M Bool}{mr:G->M (List D)}{ms:G->M Out}
end
section
variable {P:Program}{w:World}{K:PySem.W.Frag}{mg:Str->Option Value}{base:Heap}{N:List Str}{qual c:Str}{scope:Scope}{f C:Addr}{cd:Value}{A:Around}{outer:List Env}{s:Shared}{H:Hp}{E:XK}{bm:List Value}
 {e₀:Expr} {rest:List Expr} {mr:G->M (List D)} {np cpos pos:Pos}
end
section
variable {X:Cx}{k n i:Nat}{x cn y:Str}{Ch:Addr}{bmH:List Value}{mf:List D->M D}{mr:G->M (List D)}{ok:Str->Bool}{ms:G->M Out}{e:Expr}{es:List Expr}{b₀:Stmt}{suite:List Stmt}{p pos pos1 pos2 py np hpos:Pos}
end
end FT
namespace L2
open PySem PySem.Spec PyProof.Rows
section
variable {X:Cx}
end
section
variable {X:Cx}
end
end L2
namespace FT
open PySem PySem.Spec PyProof.Rows L2
section
variable {X:Cx}{EX:XX}{a:Expr}{p p2 pos:Pos}{ma:G->M D}{k:Str->Option Bool}
end
section
variable {X:Cx}{EX:XX}
end
section
variable {X:Cx}{EX:XX}{a:Expr}{p p2 pos:Pos}{ma:G->M D}{k:Str->Option Bool}
end
end FT
set_option maxHeartbeats 2000000
namespace FT
open PySem PySem.Spec PyProof.Rows L2
variable {α β:Type}
def W (m:M α) (h:AH) (Q:α->AH->Prop):Prop:=∃ a h',m h=.ok a h'/\Q a h'
theorem j9 {m:M α}{f:α->M β}{h:AH}{Q:β->AH->Prop}:W (m >>= f) h Q↔W m h fun a h1=>W (f a) h1 Q:=by
 constructor
 ·rintro ⟨b,h2,e,q⟩
  rw [bindM] at e
  cases em:m h with
  | ok a h1=>rw [em] at e;exact ⟨a,h1,em,b,h2,e,q⟩
  | err x h1=>rw [em] at e;cases e
  | bad=>rw [em] at e;cases e
 ·rintro ⟨a,h1,e,b,h2,e',q⟩
  exact ⟨b,h2,by rw [M.bind_ok e,e'],q⟩
theorem W_pure {a:α}{h:AH}{Q:α->AH->Prop}:W (Pure.pure a:M α) h Q↔Q a h:=by
 constructor
 ·rintro ⟨b,h2,e,q⟩;cases e;exact q
 ·exact fun q=>⟨a,h,rfl,q⟩
theorem z1F {h:AH}{Q:α->AH->Prop}:W (bad:M α) h Q↔False:=by
 constructor
 ·rintro ⟨b,h2,e,q⟩;cases e
 ·exact False.elim
theorem z1e {c:Prop} [Decidable c] {m n:M α}{h:AH}{Q:α->AH->Prop}:W (if c then m else n) h Q↔if c then W m h Q else W n h Q:=by
 split<;>exact Iff.rfl
theorem W.mono {m:M α}{h:AH}{Q Q':α->AH->Prop}(z:W m h Q) (f:∀ a h',Q a h'->Q' a h'):W m h Q':=let ⟨a,h',e,q⟩:=z;⟨a,h',e,f a h' q⟩
theorem W.of {m:M α}{h h':AH}{a:α}{Q:α->AH->Prop}(e:m h=.ok a h') (q:Q a h'):W m h Q:=⟨a,h',e,q⟩
theorem z4Z {γ:G}{h:AH}{Q:Out->AH->Prop}:W (bNil γ) h Q↔Q (.nx γ) h:=W_pure
def zg1 (mt:G->M Out) (Q:Out->AH->Prop):Out->AH->Prop:=fun o h=>match o with
 | .nx γ=>W (mt γ) h Q
 | o=>Q o h
theorem z0r {mt:G->M Out}{Q:Out->AH->Prop}{γ:G}{h:AH}:zg1 mt Q (.nx γ) h↔W (mt γ) h Q:=Iff.rfl
theorem z1O {mt:G->M Out}{Q:Out->AH->Prop}{d:D}{h:AH}:zg1 mt Q (.rt d) h↔Q (.rt d) h:=Iff.rfl
theorem w_cons {ms mt:G->M Out}{γ:G}{h:AH}{Q:Out->AH->Prop}:W (Z2 ms mt γ) h Q↔W (ms γ) h (zg1 mt Q):=by
 unfold Z2
 rw [j9]
 constructor
 ·rintro ⟨o,h1,e,q⟩
  refine ⟨o,h1,e,?_⟩
  cases o with
  | nx γ=>exact q
  | rt d=>exact (W_pure (a:=Out.rt d) (Q:=Q)).mp q
  | bk d=>exact (W_pure (a:=Out.bk d) (Q:=Q)).mp q
  | ct d=>exact (W_pure (a:=Out.ct d) (Q:=Q)).mp q
 ·rintro ⟨o,h1,e,q⟩
  refine ⟨o,h1,e,?_⟩
  cases o with
  | nx γ=>exact q
  | rt d=>exact W_pure.mpr q
  | bk d=>exact W_pure.mpr q
  | ct d=>exact W_pure.mpr q
def runW (Q:D->AH->Prop):Out->AH->Prop:=fun o h=>match o with
 | .nx _=>Q .non h
 | .rt d=>Q d h
 | _=>False
theorem z1I {n:Nat}{mb:G->M Out}{ds:List D}{h:AH}{Q:D->AH->Prop}(z:W (mb (z2k n ds)) h (runW Q)):W (runF n mb ds) h Q:=by
 unfold runF
 rw [j9]
 refine z.mono fun o h1 q=>?_
 cases o with
 | nx γ=>exact W_pure.mpr q
 | rt d=>exact W_pure.mpr q
 | bk d=>exact q.elim
 | ct d=>exact q.elim
theorem w_if {k:G->M Bool}{ms mt:G->M Out}{γ:G}{h:AH}{Q:Out->AH->Prop}:W (sIf k ms mt γ) h Q↔W (k γ) h fun t h1=>if t=true then W (ms γ) h1 Q else W (mt γ) h1 Q:=by
 unfold sIf
 rw [j9]
 simp only [z1e]
theorem z1W {i j:Int}:fAdd (.int i) (.int j)=pure (.int (i+j)):=rfl
theorem z1J {i j:Int}:fSub (.int i) (.int j)=pure (.int (i - j)):=rfl
theorem z4S {i j:Int}:fGt (.int i) (.int j)=pure (.bl (decide (j<i))):=rfl
theorem z4f {i j:Int}:fGe (.int i) (.int j)=pure (.bl (decide (j≤i))):=rfl
theorem z2R {i j:Int}:fLt (.int i) (.int j)=pure (.bl (decide (i<j))):=rfl
theorem z57 {i j:Int}:fLe (.int i) (.int j)=pure (.bl (decide (i≤j))):=rfl
theorem z2E {i j:Int}{b:Bool}:fEq b (.int i) (.int j)=pure (.bl (decide (i=j) != b)):=rfl
theorem z9K {i j:Int}(h:0<j):fMod (.int i) (.int j)=pure (.int (i % j)):=by
 unfold fMod fIC
 dsimp only
 rw [if_pos (decide_eq_true h)]
theorem q5 {b:Bool}:asB (.bl b)=pure b:=rfl
theorem z0b {b:Bool}:truD (.bl b)=pure b:=rfl
theorem z4A {n:Nat}{h:AH}{Q:Nat->AH->Prop}:W (z38 (.ref n)) h Q↔W (getL n) h fun _ h1=>Q n h1:=by
 unfold W z38 getL
 dsimp only
 cases e:h[n]? with
 | none=>exact ⟨fun ⟨_,_,z,_⟩=>(by cases z),fun ⟨_,_,z,_⟩=>(by cases z)⟩
 | some o =>
  cases o with
  | set ks=>exact ⟨fun ⟨_,_,z,_⟩=>(by cases z),fun ⟨_,_,z,_⟩=>(by cases z)⟩
  | dct=>exact ⟨fun ⟨_,_,z,_⟩=>(by cases z),fun ⟨_,_,z,_⟩=>(by cases z)⟩
  | dK kvs=>exact ⟨fun ⟨_,_,z,_⟩=>(by cases z),fun ⟨_,_,z,_⟩=>(by cases z)⟩
  | dF kvs=>exact ⟨fun ⟨_,_,z,_⟩=>(by cases z),fun ⟨_,_,z,_⟩=>(by cases z)⟩
  | exc c=>exact ⟨fun ⟨_,_,z,_⟩=>(by cases z),fun ⟨_,_,z,_⟩=>(by cases z)⟩
  | lst xs=>exact ⟨fun ⟨_,_,z,q⟩=>(by cases z;exact ⟨xs,h,rfl,q⟩),fun ⟨_,_,z,q⟩=>(by cases z;exact ⟨n,h,rfl,q⟩)⟩
theorem z4J {b:Bool}{t:String}:fIsi t (.bl b)=pure (.bl (subT "bool" t)):=rfl
theorem z3e {b:Int}{t:String}:fIsi t (.int b)=pure (.bl (subT "int" t)):=rfl
theorem z4v {b:Str}{t:String}:fIsi t (.str b)=pure (.bl (subT "str" t)):=rfl
theorem z2s {b:List D}{t:String}:fIsi t (.tup b)=pure (.bl (subT "tuple" t)):=rfl
def forW (J:G->AH->Prop) (R:D->AH->Prop):Out->AH->Prop:=fun o h=>match o with
 | .nx γ=>J γ h
 | .ct γ=>J γ h
 | .bk _=>False
 | .rt d=>R d h
def endW (J:G->AH->Prop) (R:D->AH->Prop):Out->AH->Prop:=fun o h=>match o with
 | .nx γ=>J γ h
 | .ct _=>False
 | .bk _=>False
 | .rt d=>R d h
theorem z5H {src:Src}{g:D->G->M G}{body:G->M Out}(I:Nat->G->AH->Prop) (R:D->AH->Prop) (good:∀ i γ h,I i γ h->src.good h):∀ (items:List D) (n:Nat) (γ:G) (h:AH),
 (∀ i d γ h,items[i]?=some d->I (n+i) γ h->W (g d γ) h fun γ1 h1=>W (body γ1) h1 (forW (I (n+i+1)) R))->I n γ h ->
 W (forR src g body items γ) h (endW (I (n+items.length)) R)
 | [],n,γ,h,_,q=>⟨.nx γ,h,by unfold forR Src.chk;simp [good _ _ _ q],q⟩
 | d :: r,n,γ,h,z,q=>by
  unfold forR
  rw [j9]
  refine W.of (a:=()) (h':=h) (by unfold Src.chk;simp [good _ _ _ q]) ?_
  rw [j9]
  refine (z 0 d γ h rfl q).mono fun γ1 h1 q1=>?_
  rw [j9]
  refine q1.mono fun o h2 q2=>?_
  have step:∀ γ2,I (n+0+1) γ2 h2->W (forR src g body r γ2) h2 (endW (I (n+(d :: r).length)) R):=fun γ2 w=>by
   have:=z5H (src:=src) I R good r (n+1) γ2 h2 (fun i d γ h e q=>by
    have:=z (i+1) d γ h (by simpa using e) (by rw [show n+(i+1)=n+1+i by omega];exact q)
    rw [show n+(i+1)+1=n+1+i+1 by omega] at this
    exact this) (by simpa using w)
   rw [show n+1+r.length=n+(d :: r).length by simp;omega] at this
   exact this
  cases o with
  | nx γ2=>exact step γ2 q2
  | ct γ2=>exact step γ2 q2
  | bk γ2=>exact q2.elim
  | rt v=>exact W_pure.mpr q2
theorem z6V {ms mt:G->M Out}{γ:G}{h:AH}{Q:Out->AH->Prop}(J:G->AH->Prop) (z:W (ms γ) h (endW J fun d h=>Q (.rt d) h)) (k:∀ γ h,J γ h->W (mt γ) h Q):W (Z2 ms mt γ) h Q:=by
 rw [w_cons]
 refine z.mono fun o h1 q=>?_
 cases o with
 | nx γ=>exact k γ h1 q
 | rt d=>exact q
 | bk d=>exact q.elim
 | ct d=>exact q.elim
theorem z30 {n i:Nat}{d:D}(e:(z0j n)[i]?=some d):d=.int i/\i<n:=by
 unfold z0j at e
 rw [List.getElem?_map] at e
 obtain ⟨j,e1,e2⟩:=Option.map_eq_some_iff.mp e
 obtain ⟨h1,h2⟩:=List.getElem?_eq_some_iff.mp e1
 simp at h1 h2
 subst h2
 exact ⟨e2.symm,h1⟩
theorem z0L {ma:G->M D}{i:Nat}{body:G->M Out}{γ:G}{h:AH}(I:Nat->G->AH->Prop) (R:D->AH->Prop) {Q:Out->AH->Prop}
 (hs:W (ma γ) h fun d h1=>∃ n:Nat,d=.int n/\n<4611686018427387904/\I 0 γ h1/\(∀ k γ h,k<n->I k γ h->W (body (γ.set i (some (.int k)))) h (forW (I (k+1)) R))/\(∀ γ h',I n γ h'->Q (.nx γ) h')/\∀ d h',R d h'->Q (.rt d) h') :
 W (sFor (z0J ma) (gN i) body γ) h Q:=by
 unfold sFor z0J
 rw [j9,j9]
 refine hs.mono fun d h1 ⟨n,e,hn,i0,st,fin⟩=>?_
 subst e
 dsimp only
 rw [if_pos (by omega),W_pure]
 have:=z5H (src:=.con (z0j (n:Int).toNat)) (g:=gN i) (body:=body) I R (fun _ _ _ _=>trivial) (z0j (n:Int).toNat) 0 γ h1 (fun k d γ h e q=>by
  obtain ⟨rfl,hk⟩:=z30 e
  rw [Nat.zero_add] at q ⊢
  exact W_pure.mpr (st k γ h (by simpa using hk) q)) i0
 rw [show 0+(z0j (n:Int).toNat).length=n by unfold z0j;simp] at this
 refine this.mono fun o h' q=>?_
 cases o with
 | nx γ=>exact fin.1 γ h' q
 | rt d=>exact fin.2 d h' q
 | bk d=>exact q.elim
 | ct d=>exact q.elim
theorem z4g {mi:G->M Src}{g:D->G->M G}{body:G->M Out}{γ:G}{h:AH}(I:Nat->G->AH->Prop) (R:D->AH->Prop) {Q:Out->AH->Prop}
 (hs:W (mi γ) h fun src h1=>I 0 γ h1/\(∀ i γ h,I i γ h->src.good h)/\(∀ i d γ h,src.items[i]?=some d->I i γ h->W (g d γ) h fun γ1 h1=>W (body γ1) h1 (forW (I (i+1)) R))/\(∀ γ h',I src.items.length γ h'->Q (.nx γ) h')/\∀ d h',R d h'->Q (.rt d) h') :
 W (sFor mi g body γ) h Q:=by
 unfold sFor
 rw [j9]
 refine hs.mono fun src h1 ⟨i0,good,st,fin⟩=>?_
 have:=z5H (src:=src) (g:=g) (body:=body) I R good src.items 0 γ h1 (fun k d γ h e q=>by
  rw [Nat.zero_add] at q ⊢
  exact st k d γ h e q) i0
 rw [Nat.zero_add] at this
 refine this.mono fun o h' q=>?_
 cases o with
 | nx γ=>exact fin.1 γ h' q
 | rt d=>exact fin.2 d h' q
 | bk d=>exact q.elim
 | ct d=>exact q.elim
theorem z3u {ma:G->M D}{γ:G}{h h1:AH}{n:Nat}(e:ma γ h=.ok (.int n) h1) (hn:n<4611686018427387904):z0J ma γ h=.ok (.con (z0j n)) h1:=by
 unfold z0J
 rw [M.bind_ok e]
 dsimp only
 rw [if_pos (by omega)]
 rfl
theorem z4s {g:D->G->M G}{k:G->M Bool}{me:G->M D}{γ:G}{p:D->Bool}{f:D->D}(src:Src) (h0:AH) (hg:∀ j,src.good (h0++j)):∀ (items:List D) (acc:List D),acc.length+items.length≤1000000 ->
 (∀ d∈items,∃ γ1,(∀ h,g d γ h=.ok γ1 h)/\(∀ j,k γ1 (h0++j)=.ok (p d) (h0++j))/\(p d=true->∀ j,me γ1 (h0++j)=.ok (f d) (h0++j))) ->
 z2V src g k me h0.length γ items (h0++[.lst acc])=.ok () (h0++[.lst (acc++(items.filter p).map f)])
 | [],acc,hl,hd=>by unfold z2V Src.chk;simp [hg]
 | d :: r,acc,hl,hd=>by
  obtain ⟨γ1,e1,e2,e3⟩:=hd d List.mem_cons_self
  unfold z2V
  have chk:src.chk (h0++[.lst acc])=.ok () (h0++[.lst acc]):=by unfold Src.chk;simp [hg]
  rw [M.bind_ok chk,M.bind_ok (e1 _),M.bind_ok (e2 _)]
  simp only [List.length_cons] at hl
  have hr:∀ d∈r,∃ γ1,(∀ h,g d γ h=.ok γ1 h)/\(∀ j,k γ1 (h0++j)=.ok (p d) (h0++j))/\(p d=true->∀ j,me γ1 (h0++j)=.ok (f d) (h0++j)):=fun x hx=>hd x (List.mem_cons_of_mem _ hx)
  cases hp:p d with
  | false =>
   rw [if_neg (by decide),z4s src h0 hg r acc (by omega) hr,List.filter_cons,hp]
   rfl
  | true =>
   rw [if_pos rfl,M.bind_ok (e3 hp _)]
   have ap:z09 h0.length (f d) (h0++[.lst acc])=.ok .non (h0++[.lst (acc++[f d])]):=by
    unfold z09 updL
    have g1:(h0++[O.lst acc])[h0.length]?=some (.lst acc):=by simp
    rw [g1]
    dsimp only
    have hs:(acc++[f d]).length≤sizeLine:=by
     rw [List.length_append,List.length_singleton]
     exact Nat.le_trans (show acc.length+1≤1000000 by omega) (by decide)
    rw [if_pos hs]
    simp
   rw [M.bind_ok ap,z4s src h0 hg r (acc++[f d]) (by simp;omega) hr,List.filter_cons,hp]
   simp
theorem z44 {cap:List (Option Nat)}{mi:G->M Src}{g:D->G->M G}{k:G->M Bool}{me:G->M D}{γ:G}{src:Src}{h:AH}(p:D->Bool) (f:D->D) (hi:mi γ h=.ok src h) (hg:∀ j,src.good (h++j)) (hl:src.items.length≤1000000)
 (hd:∀ d∈src.items,∃ γ1,(∀ h,g d (capG cap γ) h=.ok γ1 h)/\(∀ j,k γ1 (h++j)=.ok (p d) (h++j))/\(p d=true->∀ j,me γ1 (h++j)=.ok (f d) (h++j))) :
 x8 cap mi g k me γ h=.ok (.ref h.length) (h++[.lst ((src.items.filter p).map f)]):=by
 have e:=z4s (g:=g) (k:=k) (me:=me) (γ:=capG cap γ) (p:=p) (f:=f) src h hg src.items [] (by simpa using hl) hd
 show (mi γ >>= _) h=_
 rw [M.bind_ok hi]
 rw [M.bind_ok (m:=(fun h=>Res.ok (List.length h) (h++[O.lst []]):M Nat)) (h:=h) rfl]
 rw [M.bind_ok (by simpa using e)]
 rfl
end FT
namespace FT
open PySem PySem.Spec PyProof.Rows L2
theorem z7o {src:Src}{g:D->G->M G}{k:G->M Bool}{me:G->M D}{n0:Nat}{γ:G}(I:Nat->AH->Prop) (good:∀ i h,I i h->src.good h):∀ (items:List D) (n:Nat) (h:AH),
 (∀ i d h,items[i]?=some d->I (n+i) h->W (g d γ) h fun γ1 h1=>W (k γ1) h1 fun t h2=>if t=true then W (me γ1) h2 fun v h3=>W (z09 n0 v) h3 fun _ h4=>I (n+i+1) h4 else I (n+i+1) h2)->I n h ->
 W (z2V src g k me n0 γ items) h fun _ h'=>I (n+items.length) h'
 | [],n,h,_,q=>⟨(),h,by unfold z2V Src.chk;simp [good _ _ q],q⟩
 | d :: r,n,h,z,q=>by
  have more:∀ h2,I (n+0+1) h2->W (z2V src g k me n0 γ r) h2 fun _ h'=>I (n+(d :: r).length) h':=fun h2 q2=>by
   have:=z7o (src:=src) (g:=g) (k:=k) (me:=me) (n0:=n0) (γ:=γ) I good r (n+1) h2 (fun i d h e q=>by
    have:=z (i+1) d h (by simpa using e) (by rw [show n+(i+1)=n+1+i by omega];exact q)
    rw [show n+(i+1)+1=n+1+i+1 by omega] at this
    exact this) (by simpa using q2)
   rw [show n+1+r.length=n+(d :: r).length by simp;omega] at this
   exact this
  unfold z2V
  rw [j9]
  refine W.of (a:=()) (h':=h) (by unfold Src.chk;simp [good _ _ q]) ?_
  rw [j9]
  refine (z 0 d h rfl q).mono fun γ1 h1 q1=>?_
  rw [j9]
  refine q1.mono fun t h2 q2=>?_
  cases t with
  | false=>rw [if_neg (by decide)] at q2 ⊢;exact more h2 q2
  | true =>
   rw [if_pos rfl] at q2 ⊢
   rw [j9]
   refine q2.mono fun v h3 q3=>?_
   rw [j9]
   exact q3.mono fun _ h4 q4=>more h4 q4
theorem z7k {cap:List (Option Nat)}{mi:G->M Src}{g:D->G->M G}{k:G->M Bool}{me:G->M D}{γ:G}{h:AH}{Q:D->AH->Prop}
 (hs:W (mi γ) h fun src h1=>∃ I:Nat->AH->Prop,I 0 (h1++[.lst []])/\(∀ i h,I i h->src.good h) /\
  (∀ i d h,src.items[i]?=some d->I i h->W (g d (capG cap γ)) h fun γ1 h1'=>W (k γ1) h1' fun t h2=>if t=true then W (me γ1) h2 fun v h3=>W (z09 h1.length v) h3 fun _ h4=>I (i+1) h4 else I (i+1) h2) /\
  ∀ h',I src.items.length h'->Q (.ref h1.length) h'):W (x8 cap mi g k me γ) h Q:=by
 unfold x8
 rw [j9]
 refine hs.mono fun src h1 ⟨I,i0,good,st,fin⟩=>?_
 rw [j9]
 refine W.of (a:=h1.length) (h':=h1++[.lst []]) rfl ?_
 rw [j9]
 have:=z7o (src:=src) (g:=g) (k:=k) (me:=me) (n0:=h1.length) (γ:=capG cap γ) I good src.items 0 (h1++[.lst []]) (fun i d h e q=>by
  rw [Nat.zero_add] at q ⊢
  exact st i d h e q) i0
 rw [Nat.zero_add] at this
 refine this.mono fun _ h' q=>?_
 rw [W_pure]
 exact fin h' q
class Grow (I:AH->Prop):Prop where
 app:∀ h j,I h->I (h++j)
section
variable {I:AH->Prop} [Grow I]
end
section
variable {I:AH->Prop} [Grow I] {J J':G->Prop}
end
def Pool (gr sm:List Int) (s c:Int) (r:AH):AH:=.lst (gr.map .int) :: .lst (sm.map .int) :: .lst [.ref 0,.ref 1,.int s,.int c] :: r
def PS (h:AH) (k:Int) (r:AH):Prop:=∃ gr sm s c,h=Pool gr sm s c r/\0≤s/\s<2147483647/\0≤c/\c≤k/\gr.length≤63/\sm.length≤63
theorem PS.up {h:AH}{k k':Int}{r:AH}(p:PS h k r) (hk:k≤k'):PS h k' r:=by
 obtain ⟨gr,sm,s,c,e,h1,h2,h3,h4,h5,h6⟩:=p
 exact ⟨gr,sm,s,c,e,h1,h2,h3,by omega,h5,h6⟩
theorem PS.app {h:AH}{k:Int}{r:AH}(p:PS h k r) (j:AH):PS (h++j) k (r++j):=by
 obtain ⟨gr,sm,s,c,e,q⟩:=p
 exact ⟨gr,sm,s,c,by rw [e];rfl,q⟩
theorem PS.get {h:AH}{k:Int}{r:AH}(p:PS h k r) (n:Nat):h[n+3]?=r[n]?:=by
 obtain ⟨gr,sm,s,c,e,q⟩:=p
 rw [e];rfl
theorem PS.len {h:AH}{k:Int}{r:AH}(p:PS h k r):h.length=r.length+3:=by
 obtain ⟨gr,sm,s,c,e,q⟩:=p
 rw [e];rfl
theorem PS.set {h:AH}{k:Int}{r:AH}(p:PS h k r) (n:Nat) (o:O):PS (h.set (n+3) o) k (r.set n o):=by
 obtain ⟨gr,sm,s,c,e,q⟩:=p
 exact ⟨gr,sm,s,c,by rw [e];rfl,q⟩
theorem z3B {h:AH}{k:Int}{r:AH}{n:Nat}{xs:List D}{Q:List D->AH->Prop}(p:PS h k r) (e:r[n]?=some (.lst xs)) (q:Q xs h):W (getL (n+3)) h Q :=
 ⟨xs,h,by unfold getL;rw [p.get,e],q⟩
theorem z2X {h:AH}{k:Int}{r:AH}{xs:List D}{Q:D->AH->Prop}(p:PS h k r) (hl:xs.length≤1000000) (z:∀ h',PS h' k (r++[.lst xs])->Q (.ref (r.length+3)) h'):W (newL xs) h Q :=
 ⟨.ref (r.length+3),h++[.lst xs],by unfold newL;rw [if_pos (Nat.le_trans hl (by decide)),p.len],z _ (p.app _)⟩
theorem z4p {h:AH}{k:Int}{r:AH}{n:Nat}{xs:List D}{v:D}{Q:D->AH->Prop}(p:PS h k r) (e:r[n]?=some (.lst xs)) (hl:xs.length<1000000) (z:∀ h',PS h' k (r.set n (.lst (xs++[v])))->Q .non h'):W (z09 (n+3) v) h Q :=
 ⟨.non,h.set (n+3) (.lst (xs++[v])),by
  unfold z09 updL
  rw [p.get,e]
  dsimp only
  rw [if_pos (Nat.le_trans (by simp;omega:(xs++[v]).length≤1000000) (by decide))],z _ (p.set _ _)⟩
theorem z05 {r j:AH}{n:Nat}{o:O}(e:r[n]?=some o):(r++j)[n]?=some o:=by
 rw [List.getElem?_append_left (List.getElem?_eq_some_iff.mp e).1,e]
theorem z3m {r:AH}{o:O}:(r++[o])[r.length]?=some o:=by simp
def z5G (x:Str):Prop:=1≤x.length/\x.length≤8/\(∀ c∈x.cps.toList,97≤c/\c≤122) /\
 x∉(["yes","no","not","and","or","step","some","all","next","once","ever","until","unless"]:List Str)
theorem len_str (x:Str):x.length=x.cps.toList.length:=by simp [Str.length]
theorem z5B (a:Str):∀ l:List Str,((l.map D.str).any fun z=>eqF z (.str a))=decide (a∈l)
 | []=>by simp
 | b :: l=>by
  rw [List.map_cons,List.any_cons,z5B a l]
  simp only [eqF]
  rw [Bool.eq_iff_iff]
  simp only [Bool.or_eq_true,beq_iff_eq,decide_eq_true_eq,List.mem_cons]
  constructor
  ·rintro (h | h)
   ·exact .inl h.symm
   ·exact .inr h
  ·rintro (h | h)
   ·exact .inl h.symm
   ·exact .inr h
theorem z3y:∀ l:List Str,(l.map D.str).all z1j=true
 | []=>rfl
 | _ :: l=>by rw [List.map_cons,List.all_cons,z3y l];rfl
def low (x:Str):Prop:=∀ c∈x.cps.toList,97≤c/\c≤122
def abc:Str:="abcdefghijklmnopqrstuvwxyz"
theorem zi7:abc.cps.toList=(List.range 26).map (·+97):=by decide +kernel
theorem zh8:abc.length=26:=by decide +kernel
theorem zr4 {d:Int}(h0:0≤d) (h1:d<26):fIx (.str abc) (.int d)=pure (.str ⟨#[d.toNat+97]⟩):=by
 unfold fIx
 dsimp only
 rw [if_pos (by rw [zh8];decide),zi7]
 obtain ⟨n,rfl⟩:=Int.eq_ofNat_of_zero_le h0
 have hn:n<26:=by omega
 rw [z03 (v:=n+97) (by simp [hn])]
 simp
theorem z4E (x y:Str):(x++y).cps.toList=x.cps.toList++y.cps.toList:=Array.toList_append
theorem len_app (x y:Str):(x++y).length=x.length+y.length:=by rw [len_str,z4E,List.length_append,← len_str,← len_str]
theorem zt4 {x y:Str}(h:x.length+y.length≤1000):fAdd (.str x) (.str y)=pure (.str (x++y)):=by
 show (if x.length+y.length≤sizeLine then _ else _)=_
 rw [if_pos (Nat.le_trans h (by decide))]
theorem z3I (c:Nat):Str.length ⟨#[c]⟩=1:=rfl
theorem z5O {x:Str}{c:Nat}(h:low x) (h1:97≤c) (h2:c≤122):low (x++⟨#[c]⟩):=by
 intro d hd
 rw [z4E] at hd
 rcases List.mem_append.mp hd with q | q
 ·exact h d q
 ·simp at q;omega
theorem z4i {x:Str}{h:AH}{k d:Int}{r:AH}{Q:D->AH->Prop}(h0:0≤d) (h1:d<26) (hx:x.length≤100) (q:Q (.str (x++⟨#[d.toNat+97]⟩)) h):W (fIx (.str abc) (.int d)) h fun a h1=>W (fAdd (.str x) a) h1 Q:=by
 rw [zr4 h0 h1,W_pure,zt4 (by rw [z3I];omega),W_pure]
 exact q
def words:List Str:=["yes","no","not","and","or","step","some","all","next","once","ever","until","unless"]
def cand (x:Str) (l:Int) (i:Nat):Str:=x++⟨#[((l+i) % 26).toNat+97]⟩
theorem z9m {x:Str}{l:Int}(h0:0≤l) {i j:Nat}(hi:i<26) (hj:j<26) (e:cand x l i=cand x l j):i=j:=by
 have e2:(cand x l i).cps.toList=(cand x l j).cps.toList:=by rw [e]
 unfold cand at e2
 rw [z4E,z4E] at e2
 have:=List.append_cancel_left e2
 simp at this
 omega
theorem zk8 {x:Str}{l:Int}(h0:0≤l) {ns:List Str}(hn:ns.length≤7) (h:∀ i:Nat,i<26->cand x l i∈words∨cand x l i∈ns):False:=by
 have nd:((List.range 26).map (cand x l)).Nodup:=by
  rw [List.nodup_iff_pairwise_ne,List.pairwise_map]
  refine List.Pairwise.imp_of_mem ?_ List.nodup_range
  intro a b ha hb hne e
  exact hne (z9m h0 (by simpa using ha) (by simpa using hb) e)
 have sub:((List.range 26).map (cand x l)) ⊆ words++ns:=by
  intro y hy
  obtain ⟨i,hi,rfl⟩:=List.mem_map.mp hy
  exact List.mem_append.mpr (h i (by simpa using hi))
 have:=nd.length_le_of_subset sub
 rw [List.length_map,List.length_range,List.length_append] at this
 have w:words.length=13:=rfl
 omega
theorem z9U {h:AH}{k:Int}{r:AH}{n:Nat}{ns:List Str}{x:Str}{neg:Bool}(p:PS h k r) (e:r[n]?=some (.lst (ns.map .str))):fIn neg (.str x) (.ref (n+3)) h=.ok (.bl (decide (x∈ns) != neg)) h:=by
 have g:getL (n+3) h=.ok (ns.map .str) h:=by unfold getL;rw [p.get,e]
 unfold fIn seqD
 rw [M.bind_ok g,z5B,z3y]
 rfl
theorem ze5 {h:AH}{k:Int}{r:AH}{n:Nat}{xs:List D}{i:Int}{d:D}{Q:D->AH->Prop}(p:PS h k r) (e:r[n]?=some (.lst xs)) (a:atI xs i=some d) (q:Q d h):W (fIx (.ref (n+3)) (.int i)) h Q:=by
 show W (getL (n+3) >>= fun xs=>match atI xs i with | some d=>pure d | none=>bad) h Q
 rw [j9]
 refine z3B p e ?_
 rw [a]
 exact W_pure.mpr q
theorem z9W {h:AH}{k:Int}{r:AH}{n:Nat}{xs:List D}{Q:D->AH->Prop}(p:PS h k r) (e:r[n]?=some (.lst xs)) (q:Q (.int xs.length) h):W (fLen [.ref (n+3)]) h Q:=by
 show W (getL (n+3) >>= fun xs=>pure (.int xs.length)) h Q
 rw [j9]
 refine z3B p e ?_
 exact W_pure.mpr q
theorem zj4:low "":=by
 intro c hc
 have:(Str.ofString "").cps.toList=[]:=by decide +kernel
 rw [this] at hc
 cases hc
theorem zh2:Str.length "" = 0:=by decide +kernel
def NS (ns:List Str):Prop:=ns.Nodup/\∀ x∈ns,z5G x
theorem z4Y:z5G "unborne":=by
 refine ⟨by decide +kernel,by decide +kernel,?_,by decide +kernel⟩
 have:(Str.ofString "unborne").cps.toList=[117,110,98,111,114,110,101]:=by decide +kernel
 rw [this]
 decide
def stD (l:List Nat):List D:=l.map fun (i:Nat)=>.int i
structure MK (l:List Str):Prop where
 len:l.length≤8
 good:∀ x∈l,z5G x
 rise:l.Pairwise fun a b=>a.cps.toList<b.cps.toList
structure MA (st:List (List Nat)) (mk:List (List Str)):Prop where
 l1:1≤st.length
 l2:st.length≤40
 l3:mk.length=st.length
 s1:∀ l∈st,l.Pairwise (·<·)
 s2:∀ l∈st,∀ x∈l,x<st.length
 m1:∀ l∈mk,MK l
def stsD (st:List (List Nat)):List D:=st.map fun l=>.tup (stD l)
def mksD (mk:List (List Str)):List D:=mk.map fun l=>.tup (l.map .str)
def maD (st:List (List Nat)) (mk:List (List Str)):D:=.tup [.tup (stsD st),.tup (mksD mk)]
def bear (x:Str) (mk:List (List Str)) (i:Nat):Bool:=decide (x = "") || decide (x∈(mk[i]?).getD [])
theorem ze8 {mk:List (List Str)}{i:Nat}(hi:i<mk.length):atI (mksD mk) (i:Int)=some (.tup (((mk[i]?).getD []).map .str)):=by
 refine z03 ?_
 unfold mksD
 rw [List.getElem?_map,List.getElem?_eq_getElem hi]
 rfl
theorem z42 (a b:Str):leS a b=true↔a.cps.toList≤b.cps.toList:=by
 unfold leS
 simp [List.not_lt]
theorem z70 {l:List Str}(h:l.Nodup):(z2t l).Pairwise fun a b=>a.cps.toList<b.cps.toList:=by
 have s:(z2t l).Pairwise fun a b=>leS a b=true:=List.pairwise_mergeSort (fun a b c h1 h2=>(z42 a c).mpr (List.le_trans ((z42 a b).mp h1) ((z42 b c).mp h2)))
  (fun a b=>by
   rw [Bool.or_eq_true,z42,z42]
   exact List.le_total _ _) l
 have n:(z2t l).Nodup:=(List.mergeSort_perm l leS).nodup_iff.mpr h
 refine (List.Pairwise.and s n).imp fun {a b} q=>?_
 obtain ⟨q1,q2⟩:=q
 have q3:=(z42 a b).mp q1
 by_cases lt:a.cps.toList<b.cps.toList
 ·exact lt
 ·exact absurd (z8C (List.le_antisymm q3 (List.not_lt.mp lt))) q2
theorem sortS_mem {l:List Str}{x:Str}:x∈z2t l↔x∈l:=(List.mergeSort_perm l leS).mem_iff
theorem z55 (l:List Str):(z2t l).length=l.length:=(List.mergeSort_perm l leS).length_eq
theorem strs_map:∀ l:List Str,z4h (l.map .str)=some l
 | []=>rfl
 | a :: l=>by simp [z4h,strs_map l]
def AM (st:List (List Nat)) (mk:List (List Str)) (n:Nat):Prop:=(∀ l∈st,l.Pairwise (·<·))/\(∀ l∈st,∀ x∈l,x<n)/\∀ l∈mk,MK l
theorem z2J (ns:List Int) (p:D->Bool):((ns.map D.int).filter p).map (fun d=>d)=(ns.filter fun i=>p (.int i)).map D.int:=by
 rw [List.map_id',List.filter_map]
 rfl
theorem zm7:fPow (.int 10) (.int 18)=pure (.int 1000000000000000000):=rfl
theorem Y3 (xs:List D):fLen [.tup xs]=pure (.int xs.length):=rfl
theorem ix_tup {xs:List D}{i:Int}{d:D}(a:atI xs i=some d):fIx (.tup xs) (.int i)=pure d:=by
 have:fIx (.tup xs) (.int i)=(pure xs >>= fun xs=>match atI xs i with | some d=>pure d | none=>bad):=rfl
 rw [this]
 show (match atI xs i with | some d=>pure d | none=>bad)=_
 rw [a]
theorem z5J {l:List Nat}{c:Nat}(hc:c<l.length):atI (stD l) (c:Int)=some (.int ((l[c]?).getD 0:Nat)):=by
 refine z03 ?_
 unfold stD
 rw [List.getElem?_map,List.getElem?_eq_getElem hc]
 rfl
theorem z6y {x y:List D}(h:x.length+y.length≤1000000):fAdd (.tup x) (.tup y)=pure (.tup (x++y)):=by
 show (if !decide (x.length+y.length≤sizeLine) then _ else _)=_
 rw [decide_eq_true (Nat.le_trans h (by decide))]
 rfl
section
variable {P:Program}{w:World}{K:PySem.W.Frag}{mg:Str->Option Value}{base:Heap}
theorem zw7 {x:Str}{st:Stmt}{f:Addr}{fd:FuncData}{N ps:List Str}{k n:Nat}{mb:G->M Out}(F:Fun K x x st f fd) (S:FnScope N ps (Z5 st)) (hn:ps.length=n)
 (body:∀ (cdv:Value) (A:Around) (outer:List Env) (s:Shared) (H:Hp) (E:XK),Room k (A.deeper (envOfC x (Z5 st) s.heap.objs.size f cdv)) ->
  SB (cxOf CX0 P w K mg base N x (Z5 st) f cdv A outer s H E).nox EX0 (j7 st) mb):FnOk P w K mg base CX0 (k+1) f fd ps (spB K (runF N.length mb) n):=by
 refine F.ok S (fun vs H Q E h=>h.1.trans hn.symm) (fun cdv A outer s H vs Q E hr h=>?_)
 obtain ⟨hl,ρ,ds,h,rh,rd,fin⟩:=h
 refine ⟨_,(body cdv A outer s H E hr).h,ρ,z2k N.length ds,h,⟨z3M rd,rh⟩,?_⟩
 refine (Fin.bind fin).mono fun o ρ1 h1 H1 p1 e1 r1 f1=>?_
 cases o with
 | nx γ=>exact fun σ _=>FE.here (d:=.non) (h:=h1) f1 r1 (by simp [RD])
 | rt d=>exact fun v rv=>f1 ρ1 H1 (Pre.refl _) (Ext.refl _ _) r1 v rv
 | bk γ=>exact (show False from f1).elim
 | ct γ=>exact (show False from f1).elim
theorem bindsTo1 {x p:Str}{st:Stmt}{f:Addr}{fd:FuncData}(F:Fun K x x st f fd)
 (h:∀ (kV doc pm:Value) (an:Option Addr) (cdv ct u:Value),bindArgs (PySem.W.fnOf x x (z1Q st) (j7 st) (Z5 st) .none kV doc pm an cdv ct) ⟨[u],[]⟩=pure [(p,u)]):∀ (s:Shared) (u:Value),BindsTo s fd ⟨[u],[]⟩ [(p,u)]:=by
 obtain ⟨oc,od,kV,doc,pm,an,cdv,ct,osl,rfl,lk,hcd⟩:=F.ex
 exact fun s u=>.of_eq (h kV doc pm an cdv ct u)
end
theorem law_walk {l:PySem.W.OpenLaw}{q:Program}{loose:List Str}{XP:(Str->Option Value)->Heap->Prop}{YP:World->Heap->Prop}{d:DefRec}{K:Params->PySem.W.Frag}{m:List D->M D}{p:Str}{lev:Nat}(hn:l.most=some 63) (hdf:d.params.defaults=[]) (hr:Room lev callerA)
 (hY:∀ (w:World) (h:Heap),YP w h->(K w.params).In h)
 (F:∀ (w:World) (mg:Str->Option Value) (fa:Addr) (h:Heap),(K w.params).In h->h.Ns mainGlobals mg->mg d.name=some (.ref fa) ->
  ∃ fd:FuncData,(∀ (s:Shared) (u:Value),BindsTo s fd ⟨[u],[]⟩ [(p,u)])/\∀ base:Heap,(K w.params).In base->base.Ns mainGlobals mg->FnOk l.prog w (K w.params) mg base CX0 lev fa fd [p] (spB (K w.params) m 1))
 (math:∀ ns:List Int,ns.length≤63->∃ h',m [.fl (ns.map .int)] []=.ok (.bl true) h') :
 PySem.W.WalkO q loose XP YP l.row.toRowW d [] (fun f vs=>PySem.call f vs):=by
 refine L2.walk_of (n:=63) (k:=lev) (x:=p) (CX:=fun _=>CX0) (sp:=fun w=>spB (K w.params) m 1) hn (by decide) hdf hr hY F (fun w H a ns hl hO hS=>?_) fun _ _ _ _ _ z=>z
 obtain ⟨h',e⟩:=math ns hl
 have sq:SqLP (K w.params) H a (ns.map V.int):=by
  rcases hS with (h | ⟨o,h⟩) | h
  ·rcases hO a with z | ⟨ob,xs,z⟩<;>rw [h] at z<;>cases z
  ·exact .inl ⟨o,h⟩
  ·exact .inr h
 refine ⟨rfl,[],[.fl (ns.map .int)],[],⟨rfl,fun i j a h=>by simp at h,fun n o a h=>by simp at h⟩,RDs.cons ?_ RDs.nil,?_⟩
 ·simp only [RD]
  exact ⟨a,_,rfl,sq,z4t ns⟩
 ·rw [e]
  exact fun ρ' H' _ _ _ v rv=>by simpa [RD] using rv
mutual
def z01 (n:Nat):D->Bool
 | .ref i=>decide (i<n)
 | .tup xs=>x6 n xs
 | .fl xs=>x6 n xs
 | _=>true
def x6 (n:Nat):List D->Bool
 | []=>true
 | d :: r=>z01 n d && x6 n r
end
def refO (n:Nat):O->Bool
 | .lst xs=>x6 n xs
 | .dK kvs=>x6 n (kvs.map (·.2))
 | .dF kvs=>x6 n (kvs.map (·.2))
 | _=>true
def Kept (h h1:AH):Prop:=∀ (i:Nat) (o:O),i<h.length->h1[i]?=some o->h[i]?=some o∨refO h.length o=true
section
variable {K:PySem.W.Frag}{ρ ρ':List Addr}{H:Hp}
theorem z4D {ρ:List Addr}{n i:Nat}(h:i<n):(ρ.take n)[i]?=ρ[i]?:=by rw [List.getElem?_take,if_pos h]
mutual
theorem RD.cut {n:Nat}:∀ {d:D}{v:V},z01 n d=true->RD K ρ H d v->RD K (ρ.take n) H d v
 | .non,v,_,h=>by simpa [RD] using h
 | .bl b,v,_,h=>by simpa [RD] using h
 | .int b,v,_,h=>by simpa [RD] using h
 | .str b,v,_,h=>by simpa [RD] using h
 | .tup ds,v,c,h=>by
  simp only [RD,z01] at h c ⊢
  obtain ⟨a,xs,h1,h2,h3⟩:=h
  exact ⟨a,xs,h1,h2,RDs.cut c h3⟩
 | .fl ds,v,c,h=>by
  simp only [RD,z01] at h c ⊢
  obtain ⟨a,xs,h1,h2,h3⟩:=h
  exact ⟨a,xs,h1,h2,RDs.cut c h3⟩
 | .ref i,v,c,h=>by
  simp only [RD,z01,decide_eq_true_eq] at h c ⊢
  obtain ⟨a,h1,h2⟩:=h
  exact ⟨a,h1,by rw [z4D c];exact h2⟩
theorem RDs.cut {n:Nat}:∀ {ds:List D}{xs:List V},x6 n ds=true->RDs K ρ H ds xs->RDs K (ρ.take n) H ds xs
 | [],xs,_,h=>by simpa [RDs] using h
 | d :: ds,xs,c,h=>by
  simp only [RDs,x6,Bool.and_eq_true] at h c ⊢
  obtain ⟨x,r,h1,h2,h3⟩:=h
  exact ⟨x,r,h1,RD.cut c.1 h2,RDs.cut c.2 h3⟩
end
mutual
theorem RD.low:∀ {d:D}{v:V},RD K ρ H d v->z01 ρ.length d=true
 | .non,v,h=>rfl
 | .bl b,v,h=>rfl
 | .int b,v,h=>rfl
 | .str b,v,h=>rfl
 | .tup ds,v,h=>by
  simp only [RD,z01] at h ⊢
  obtain ⟨a,xs,h1,h2,h3⟩:=h
  exact RDs.low h3
 | .fl ds,v,h=>by
  simp only [RD,z01] at h ⊢
  obtain ⟨a,xs,h1,h2,h3⟩:=h
  exact RDs.low h3
 | .ref i,v,h=>by
  simp only [RD,z01,decide_eq_true_eq] at h ⊢
  obtain ⟨a,h1,h2⟩:=h
  exact (List.getElem?_eq_some_iff.mp h2).1
theorem RDs.low:∀ {ds:List D}{xs:List V},RDs K ρ H ds xs->x6 ρ.length ds=true
 | [],xs,h=>rfl
 | d :: ds,xs,h=>by
  simp only [RDs,x6,Bool.and_eq_true] at h ⊢
  obtain ⟨x,r,h1,h2,h3⟩:=h
  exact ⟨RD.low h2,RDs.low h3⟩
end
theorem RK.cut {n:Nat}:∀ {kvs:List (Key×D)}{vs:List (Key×V)},x6 n (kvs.map (·.2))=true->RK K ρ H kvs vs->RK K (ρ.take n) H kvs vs
 | _,_,_,.nil=>.nil
 | _,_,c,.cons a b=>by
  simp only [List.map_cons,x6,Bool.and_eq_true] at c
  exact .cons ⟨a.1,a.2.cut c.1⟩ (RK.cut c.2 b)
theorem RK.low:∀ {kvs:List (Key×D)}{vs:List (Key×V)},RK K ρ H kvs vs->x6 ρ.length (kvs.map (·.2))=true
 | _,_,.nil=>rfl
 | _,_,.cons a b=>by
  simp only [List.map_cons,x6,Bool.and_eq_true]
  exact ⟨a.2.low,RK.low b⟩
theorem RO.cut {n:Nat}{o:O}{a:Addr}(c:refO n o=true) (h:RO K ρ H o a):RO K (ρ.take n) H o a:=by
 cases o with
 | lst ds=>obtain ⟨xs,h1,h2⟩:=h;exact ⟨xs,h1,h2.cut c⟩
 | set ks=>exact h
 | dct=>exact h
 | dK kvs=>obtain ⟨vs,h1,h2⟩:=h;exact ⟨vs,h1,h2.cut c⟩
 | dF kvs=>obtain ⟨ob,vs,h1,h2⟩:=h;exact ⟨ob,vs,h1,h2.cut c⟩
 | exc c=>exact h
theorem RO.low {o:O}{a:Addr}(h:RO K ρ H o a):refO ρ.length o=true:=by
 cases o with
 | lst ds=>obtain ⟨xs,h1,h2⟩:=h;exact h2.low
 | set ks=>rfl
 | dct=>rfl
 | dK kvs=>obtain ⟨vs,h1,h2⟩:=h;exact h2.low
 | dF kvs=>obtain ⟨ob,vs,h1,h2⟩:=h;exact h2.low
 | exc c=>rfl
theorem RH.cut {h:AH}{n:Nat}(r:RH K ρ h H) (c:∀ o∈h.take n,refO n o=true):RH K (ρ.take n) (h.take n) H:=by
 refine ⟨by simp [r.len],fun i j a h1 h2=>?_,fun m o a h1 h2=>?_⟩
 ·rw [List.getElem?_take] at h1 h2
  split at h1
  ·split at h2
   ·exact r.nd i j a h1 h2
   ·cases h2
  ·cases h1
 ·have hm:=List.mem_of_getElem? h1
  rw [List.getElem?_take] at h1 h2
  split at h1
  ·rename_i q
   rw [if_pos q] at h2
   exact (r.obj m o a h1 h2).cut (c o hm)
  ·cases h1
theorem RH.cut1 {h:AH}{n i:Nat}{o:O}(r:RH K ρ h H) (c:∀ o∈h.take n,refO n o=true) (hn:n≤h.length) (hi:n≤i) (e:h[i]?=some o) (co:refO n o=true):∃ a,ρ[i]?=some a/\RH K (ρ.take n++[a]) (h.take n++[o]) H:=by
 obtain ⟨a,ea,ra⟩:=r.at e
 have r1:=r.cut c
 have ln:(ρ.take n).length=n:=by rw [List.length_take,r.len];omega
 have lh:(h.take n).length=n:=by rw [List.length_take];omega
 have ne:∀ {m:Nat} {b:Addr},(ρ.take n)[m]?=some b->b≠a:=fun {m b} q z=>by
  have hm:=(List.getElem?_eq_some_iff.mp q).1
  rw [ln] at hm
  rw [z4D hm,z] at q
  have:=r.nd m i a q ea
  omega
 refine ⟨a,ea,by simp [r1.len],fun i j b h1 h2=>?_,fun m u b h1 h2=>?_⟩
 ·rw [List.getElem?_append] at h1 h2
  split at h1<;>split at h2
  ·exact r1.nd i j b h1 h2
  ·rename_i q1 q2
   rw [List.getElem?_singleton] at h2
   split at h2
   ·cases h2;exact absurd rfl (ne h1)
   ·cases h2
  ·rename_i q1 q2
   rw [List.getElem?_singleton] at h1
   split at h1
   ·cases h1;exact absurd rfl (ne h2)
   ·cases h1
  ·rw [List.getElem?_singleton] at h1 h2
   split at h1
   ·split at h2
    ·omega
    ·cases h2
   ·cases h1
 ·rw [List.getElem?_append] at h1 h2
  rw [ln] at h2
  rw [lh] at h1
  split at h1
  ·rename_i q
   rw [if_pos q] at h2
   exact (r1.obj m u b h1 h2).mono (Pre.app _ _) (Ext.refl _ _) rfl
  ·rename_i q
   rw [if_neg q] at h2
   rw [List.getElem?_singleton] at h1 h2
   split at h1
   ·rename_i q0
    rw [if_pos q0] at h2
    cases h1;cases h2
    exact (ra.cut co).mono (Pre.app _ _) (Ext.refl _ _) rfl
   ·cases h1
end
theorem z7g {K:PySem.W.Frag}{ρ:List Addr}{h h1:AH}{H:Hp}(r:RH K ρ h H) (c:Kept h h1):∀ o∈h1.take h.length,refO h.length o=true:=fun o ho=>by
 obtain ⟨i,hi⟩:=List.getElem?_of_mem ho
 rw [List.getElem?_take] at hi
 split at hi
 ·rename_i li
  rcases c i o li hi with q | q
  ·obtain ⟨a,_,ra⟩:=r.at q
   rw [← r.len]
   exact ra.low
  ·exact q
 ·cases hi
theorem z4H (h j:AH):Kept h (h++j):=fun i o li e=>.inl (by rw [List.getElem?_append_left li] at e;exact e)
open Classical in
noncomputable def cln (m:M D):M D:=fun h=>match m h with
 | .ok d h1=>if h.length≤h1.length/\Kept h h1 then
  (if z01 h.length d=true then .ok d (h1.take h.length) else match d with
   | .ref i=>(match h1[i]? with
    | some o=>if refO h.length o=true then .ok (.ref h.length) (h1.take h.length++[o]) else .ok d h1
    | none=>.ok d h1)
   | d=>.ok d h1)
  else .ok d h1
 | .err x h1=>.err x h1
 | .bad=>.bad
theorem FE.cln {K:PySem.W.Frag}{EX:XX}{ρ:List Addr}{h:AH}{H:Hp}{Q:VK}{m:M D}(r:RH K ρ h H) (f:FE K EX ρ H Q (cln m h)):FE K EX ρ H Q (m h):=by
 unfold FT.cln at f
 cases e:m h with
 | bad=>rw [e] at f;exact f
 | err x h1=>rw [e] at f;exact f
 | ok d h1 =>
  rw [e] at f
  dsimp only at f
  split at f
  ·rename_i c
   obtain ⟨hl,c⟩:=c
   have cl:=z7g r c
   have pre:∀ {ρ1:List Addr},Pre ρ ρ1->Pre ρ (ρ1.take h.length):=fun {ρ1} p i a q=>by
    have:=(List.getElem?_eq_some_iff.mp q).1
    rw [r.len] at this
    rw [z4D this]
    exact p i a q
   split at f
   ·rename_i cd
    exact fun ρ1 H1 p1 e1 r1 v rv=>f _ H1 (pre p1) e1 (r1.cut cl) v (rv.cut cd)
   ·rename_i nd
    split at f
    ·rename_i i
     split at f
     ·rename_i o eo
      split at f
      ·rename_i co
       intro ρ1 H1 p1 e1 r1 v rv
       have hi:h.length≤i:=by
        simp only [z01,decide_eq_true_eq] at nd
        omega
       obtain ⟨a,ea,r2⟩:=r1.cut1 cl hl hi eo co
       refine f _ H1 ((pre p1).trans (Pre.app _ _)) e1 r2 v ?_
       simp only [RD] at rv ⊢
       obtain ⟨b,h2,h3⟩:=rv
       rw [ea] at h3;cases h3
       refine ⟨a,h2,?_⟩
       have ln:(ρ1.take h.length).length=h.length:=by rw [List.length_take,r1.len];omega
       rw [List.getElem?_append_right (by omega),ln]
       simp
      ·exact f
     ·exact f
    ·exact f
  ·exact f
noncomputable def clE (m:G->M D):G->M D:=fun γ=>cln (m γ)
theorem z0K {X:Cx}{EX:XX}{e:Expr}{m:G->M D}(h:SE X EX e m):SE X EX e (clE m) :=
 ⟨PE.imp h.h fun σ H Q ⟨ρ,γ,h,rel,fin⟩=>⟨ρ,γ,h,rel,FE.cln rel.h fin⟩⟩
open Classical in
noncomputable def clT (m:G->M Bool):G->M Bool:=fun γ h=>match m γ h with
 | .ok d h1=>if h.length≤h1.length/\Kept h h1 then .ok d (h1.take h.length) else .ok d h1
 | .err x h1=>.err x h1
 | .bad=>.bad
theorem RH.cut2 {K:PySem.W.Frag}{ρ ρ1:List Addr}{h h1:AH}{H H1:Hp}(r:RH K ρ h H) (p1:Pre ρ ρ1) (r1:RH K ρ1 h1 H1) (c:Kept h h1):RH K (ρ1.take h.length) (h1.take h.length) H1/\Pre ρ (ρ1.take h.length):=by
 refine ⟨r1.cut (z7g r c),fun i a q=>?_⟩
 have:=(List.getElem?_eq_some_iff.mp q).1
 rw [r.len] at this
 rw [z4D this]
 exact p1 i a q
theorem z9G {X:Cx}{EX:XX}{e:Expr}{m:G->M Bool}(h:SC X EX e m):SC X EX e (clT m) :=
 ⟨PT.imp h.h fun σ H Q ⟨ρ,γ,h,rel,fin⟩=>⟨ρ,γ,h,rel,by
  unfold clT at fin
  cases e:m γ h with
  | bad=>rw [e] at fin;exact fin
  | err x h1=>rw [e] at fin;exact fin
  | ok d h1 =>
   rw [e] at fin
   dsimp only at fin
   split at fin
   ·rename_i c
    exact fun ρ1 H1 p1 e1 r1=>let ⟨r2,p2⟩:=rel.h.cut2 p1 r1 c.2;fin _ H1 p2 e1 r2
   ·exact fin⟩⟩
theorem Fn.cln {P:Program}{w:World}{K:PySem.W.Frag}{mg:Str->Option Value}{base:Heap}{k:Nat}{x:Str}{n:Nat}{mf:List D->M D}(F:Fn P w K mg base k x n mf):Fn P w K mg base k x n (fun ds=>cln (mf ds)):=by
 obtain ⟨f,fd,ps,h1,h2,h3,h4⟩:=F.ex
 exact ⟨f,fd,ps,h1.imp fun vs H Q E ⟨hl,ρ,ds,h,rh,rd,fin⟩=>⟨hl,ρ,ds,h,rh,rd,FE.cln rh fin⟩,h2,h3,h4⟩
end FT
namespace L2
open PySem PySem.Spec PyProof.Rows PySem.Builtin
theorem z3n:fillsNumberSlot (.type "tuple") "mul" = pure false :=
 PySem.fillsNumberSlot_seq (id:="tuple.__mul__") (r:=some (.builtin "tuple.__rmul__")) PySem.F.slot_tuple_mul.lookup (by decide +kernel) PySem.F.slot_tuple_rmul.lookup (by decide +kernel)
theorem z4M:seqRepeat? (.type "tuple")=pure (some (.builtin "tuple.__mul__")):=by
 unfold seqRepeat?
 rw [PySem.seqSlot_of (T:="tuple") (name:="__mul__") (id:="tuple.__mul__") PySem.F.slot_tuple_mul.lookup (by decide +kernel),PySem.seqSlot_of (T:="tuple") (name:="__rmul__") (id:="tuple.__rmul__") PySem.F.slot_tuple_rmul.lookup (by decide +kernel)]
 rfl
theorem zf9 (a:Int) (t:Tok) (l:Addr) (items:Array Value) (n:Nat) (dd:Option Addr) (sl:Array (Option Value)) :
 Meets (Builtin.«int.__rmul__» ⟨[.int a t,.ref l],[]⟩) (fun _ R s=>s.heap.get? l=some { cls:=.type "tuple",dict:=dd,data:=.seq items n,slots:=sl }/\R (.ok (.ret Value.notImplemented)) s) :=
 .of_wp fun prog w A R s h=>by obtain ⟨hp,g,d,tk,os⟩:=s;obtain ⟨hl,h⟩:=h;wp_walk;exact ⟨_,rfl,h⟩
theorem zn5 (l:Addr) (items:Array Value) (n:Nat) (dd:Option Addr) (sl:Array (Option Value)) (x:Int) (u:Tok) (h1:-(2 ^ 63)≤x) (h2:x<2 ^ 63) (hc:items.isEmpty=true∨x=1) :
 Meets (Builtin.«tuple.__mul__» ⟨[.ref l,.int x u],[]⟩) (fun _ R s=>s.heap.get? l=some { cls:=.type "tuple",dict:=dd,data:=.seq items n,slots:=sl }/\R (.ok (.ret (Value.ref l))) s) :=
 .of_wp fun prog w A R s h=>by
  obtain ⟨hp,g,d,tk,os⟩:=s;obtain ⟨hl,h⟩:=h
  have f1:=PySem.AutoSeq1.idx_int
  have c1:(decide (x < -(2 ^ 63)) || decide (x ≥ 2 ^ 63))=false:=by simp;omega
  have c2:(items.isEmpty || x == 1)=true:=by simpa using hc
  wp_walk using wpAny_loadPart' hl
  refine wpAny_ite_false (by rw [c1];rfl) ?_
  wp_walk using wpAny_loadPart' hl
  exact ⟨_,rfl,h⟩
theorem zq4 (l:Addr) (items:Array Value) (n:Nat) (dd:Option Addr) (sl:Array (Option Value)) (x:Int) (u:Tok) (h1:-(2 ^ 63)≤x) (h2:x<2 ^ 63) (hc:items.isEmpty=false) (hx:x≤0) :
 Meets (Builtin.«tuple.__mul__» ⟨[.ref l,.int x u],[]⟩) (fun _ R s=>s.heap.get? l=some { cls:=.type "tuple",dict:=dd,data:=.seq items n,slots:=sl }/\R (.ok (.ret (Value.ref s.heap.objs.size))) { s with heap:=s.heap.push { cls:=Value.type "tuple",data:=Data.seq #[] },toks:=s.toks }) :=
 .of_wp fun prog w A R s h=>by
  obtain ⟨hp,g,d,tk,os⟩:=s;obtain ⟨hl,h⟩:=h
  have f1:=PySem.AutoSeq1.idx_int
  have c1:(decide (x < -(2 ^ 63)) || decide (x ≥ 2 ^ 63))=false:=by simp;omega
  have c2:(items.isEmpty || x == 1)=false:=by rw [hc];simp;omega
  have c3:(decide (x≤0) || items.isEmpty)=true:=by simp [hx]
  wp_walk using wpAny_loadPart' hl
  refine wpAny_ite_false (by rw [c1];rfl) ?_
  wp_walk using wpAny_loadPart' hl
  refine wpAny_ite_false (by rw [c2];rfl) ?_
  wp_walk using wpAny_loadPart' hl
  exact ⟨_,rfl,h⟩
theorem zp6 (l:Addr) (items:Array Value) (n:Nat) (dd:Option Addr) (sl:Array (Option Value)) (x:Int) (u:Tok) (h1:-(2 ^ 63)≤x) (h2:x<2 ^ 63) (hc:items.isEmpty=false) (hx:1<x) (hz:items.size * x.toNat≤sizeLine) :
 Meets (Builtin.«tuple.__mul__» ⟨[.ref l,.int x u],[]⟩) (fun _ R s=>s.heap.get? l=some { cls:=.type "tuple",dict:=dd,data:=.seq items n,slots:=sl }/\R (.ok (.ret (Value.ref s.heap.objs.size))) { s with heap:=s.heap.push { cls:=Value.type "tuple",data:=Data.seq (List.foldl (fun x1 x2=>x1++x2) #[] (List.replicate x.toNat items)) },toks:=s.toks }) :=
 .of_wp fun prog w A R s h=>by
  obtain ⟨hp,g,d,tk,os⟩:=s;obtain ⟨hl,h⟩:=h
  have f1:=PySem.AutoSeq1.idx_int
  have c1:(decide (x < -(2 ^ 63)) || decide (x ≥ 2 ^ 63))=false:=by simp;omega
  have c2:(items.isEmpty || x == 1)=false:=by rw [hc];simp;omega
  have c3:(decide (x≤0) || items.isEmpty)=false:=by rw [hc];simp;omega
  have ez:(items.size:Int) * x=((items.size * x.toNat:Nat):Int):=by
   rw [Int.natCast_mul,Int.toNat_of_nonneg (by omega)]
  have sl4:(sizeLine:Nat)≤2 ^ 24:=by decide
  have c4:¬ (items.size:Int) * x > (2 ^ 63 - 1) / 8:=by rw [ez];omega
  have c5:Tuple.tupleTooMany ((items.size:Int) * x)=false:=by
   unfold Tuple.tupleTooMany
   rw [ez,decide_eq_false_iff_not]
   omega
  wp_walk using wpAny_loadPart' hl
  refine wpAny_ite_false (by rw [c1];rfl) ?_
  wp_walk using wpAny_loadPart' hl
  refine wpAny_ite_false (by rw [c2];rfl) ?_
  wp_walk using wpAny_loadPart' hl
  refine wpAny_ite_false (by rw [c3];rfl) ?_
  wp_walk using wpAny_loadPart' hl
  rw [if_neg c4]
  wp_walk using wpAny_loadPart' hl
  refine wpAny_ite_false (by rw [c5];rfl) ?_
  wp_walk using wpAny_loadPart' hl
  have c6:¬ (List.foldl (fun x1 x2=>x1++x2) #[] (List.replicate x.toNat items)).size > sizeLine:=by
   have f0:=foldl_rep items.toList x.toNat []
   rw [List.nil_append] at f0
   have:(List.foldl (fun x1 x2=>x1++x2) #[] (List.replicate x.toNat items))=(List.replicate x.toNat items.toList).flatten.toArray:=f0
   rw [this,List.size_toArray,len_rep,Array.length_toList,Nat.mul_comm]
   omega
  refine wpAny_ite_false (decide_eq_false c6) ?_
  wp_walk using wpAny_loadPart' hl
  exact ⟨_,rfl,h⟩
def zl2 (K:PySem.W.Frag):R2:=fun x y H Q=>∃ a k xs,x=.ref a/\y=.int k/\SqT K H a xs/\-(2 ^ 63)≤k/\k<2 ^ 63/\xs.length * k.toNat≤sizeLine /\
 ((xs=[]∨k=1)->Q (.ref a) H)/\(∀ p,H p=none->Q (.ref p) (upd H p (.tup (List.replicate k.toNat xs).flatten)))
theorem zk5 {X:Cx}:OpR X (binaryOp .Mult) (zl2 X.K):=by
 intro pins s σ H x y v u Q I rx ry h
 obtain ⟨a,k,xs,rfl,rfl,ha,h1,h2,hz,q1,q2⟩:=h
 cases rx
 obtain ⟨t,rfl⟩:=ry
 obtain ⟨its,r1,p1,_⟩:=I.tuple ha
 obtain ⟨⟨cls,dd,data,sl⟩,ho,hc,n,hd⟩:=id p1
 simp only at hc hd
 subst hc hd
 have go:∀ (R:Value->Shared->Prop),wpAny (model X.prog X.w) X.A (call (.builtin "tuple.__mul__") [.ref a,.int k t]) R X.xe s->wpAny (model X.prog X.w) X.A (binaryOp .Mult (.ref a) (.int k t)) R X.xe s:=fun R z =>
  wpAny_binaryOp_repeat_ref (T:="tuple") (U:="int") (by decide) ⟨_,ho,rfl⟩ (fun s'=>typeIs_int s' k t) z3n PySem.F.fills_int_mul PySem.F.slot_int_rmul z4M PySem.F.slot_int_index.lookup
   (call_meets PySem.F.slot_int_rmul (typeIs_int s k t) PySem.F.entry_int_rmul (PySem.F.args_int_rmul_2 _ _) (zf9 k t a its.toArray n dd sl) ⟨ho,rfl,⟨_,ho,rfl⟩,z⟩)
 refine go _ ?_
 have ln:its.length=xs.length:=r1.length.symm
 by_cases c:xs=[]∨k=1
 ·refine call_meets PySem.F.slot_tuple_mul ⟨_,ho,rfl⟩ PySem.F.entry_tuple_mul (PySem.F.args_tuple_mul_2 _ _) (zn5 a its.toArray n dd sl k t h1 h2 ?_) ⟨ho,.ref a,H,I,rfl,q1 c⟩
  rcases c with c | c
  ·left
   have:its=[]:=r1.nil_iff.mpr c
   rw [this];rfl
  ·exact .inr c
 ·have ne:its.toArray.isEmpty=false:=by
   cases its with
   | nil=>exact absurd (.inl (r1.nil_iff.mp rfl)) c
   | cons a r=>rfl
  by_cases k0:k≤0
  ·refine call_meets PySem.F.slot_tuple_mul ⟨_,ho,rfl⟩ PySem.F.entry_tuple_mul (PySem.F.args_tuple_mul_2 _ _) (zq4 a its.toArray n dd sl k t h1 h2 ne k0) ⟨ho,?_⟩
   have e0:k.toNat=0:=by omega
   refine ⟨.ref s.heap.objs.size,_,I.laid (t':=s.toks) (o:=.tup (List.replicate k.toNat xs).flatten) (fun b ob q=>Heap.get?_push_of_some _ q) (Nat.le_refl _) ?_,rfl,q2 _ (I.hok.fresh (Nat.le_refl _))⟩
   rw [e0]
   exact ⟨by simp,_,.nil,FT.IsTup0.new _ _⟩
  ·have k2:1<k:=by
    have:k≠1:=fun z=>c (.inr z)
    omega
   refine call_meets PySem.F.slot_tuple_mul ⟨_,ho,rfl⟩ PySem.F.entry_tuple_mul (PySem.F.args_tuple_mul_2 _ _) (zp6 a its.toArray n dd sl k t h1 h2 ne k2 (by rw [List.size_toArray,ln];exact hz)) ⟨ho,?_⟩
   refine ⟨.ref s.heap.objs.size,_,I.laid (t':=s.toks) (o:=.tup (List.replicate k.toNat xs).flatten) (fun b ob q=>Heap.get?_push_of_some _ q) (Nat.le_refl _) ?_,rfl,q2 _ (I.hok.fresh (Nat.le_refl _))⟩
   refine ⟨by rw [len_rep,Nat.mul_comm];exact hz,_,r1.rep k.toNat,?_⟩
   have f0:=foldl_rep its k.toNat []
   rw [List.nil_append] at f0
   have e:(List.foldl (fun x1 x2=>x1++x2) #[] (List.replicate k.toNat its.toArray))=(List.replicate k.toNat its).flatten.toArray:=f0
   rw [e]
   exact FT.IsTup0.new _ _
end L2
namespace FT
open PySem PySem.Spec PyProof.Rows L2
def z4m:D->D->M D
 | .tup x,.int j=>if decide (-(2 ^ 63)≤j) && decide (j<2 ^ 63) && decide (j.toNat * x.length≤sizeLine) then pure (.tup (List.replicate j.toNat x).flatten) else bad
 | x,y=>fMul x y
theorem zj1 {X:Cx}{EX:XX}:BR X.K EX (fun x y H Q=>(rI CMul (fun i j=>.int (i * j)) x y H Q∨rRep x y H Q)∨zl2 X.K x y H Q) z4m:=by
 intro ρ h H x y v u Q r rx ry fin
 unfold z4m at fin
 split at fin
 ·rename_i ds j
  simp only [RD] at rx ry
  obtain ⟨a,xs,rfl,sq,rd⟩:=rx
  subst ry
  split at fin
  ·rename_i hc
   simp only [Bool.and_eq_true,decide_eq_true_eq] at hc
   have hl:=rd.length
   refine .inr ⟨a,j,xs,rfl,rfl,sq,hc.1.1,hc.1.2,by rw [← hl,Nat.mul_comm];exact hc.2,fun c=>?_,fun p hp=>FE.tup fin r (rd.flat j.toNat) hp⟩
   refine FE.here fin r ?_
   simp only [RD]
   refine ⟨a,xs,rfl,sq,?_⟩
   rcases c with c | c
   ·subst c
    have:ds=[]:=by simpa using hl
    subst this
    have:(List.replicate j.toNat ([]:List D)).flatten=[]:=by simp
    rw [this];exact rd
   ·subst c
    have:(List.replicate (1:Int).toNat ds).flatten=ds:=by simp
    rw [this];exact rd
  ·exact fin.elim
 ·exact .inl (zm1 ρ h H x y v u Q r rx ry fin)
theorem z4x {X:Cx}{EX:XX}{a b:Expr}{pos:Pos}{ma mb:G->M D}(ha:SE X EX a ma) (hb:SE X EX b mb):SE X EX (.BinOp a .Mult b pos) (e2 z4m ma mb):=z6L ((op_mul.or zu0).or zk5) zj1 ha hb
theorem z76 {α:Type}{M:Model}{A:Around}{E:Value->Shared->Prop}{Q:α->Shared->Prop}{s:Shared}{K:PySem.W.Frag}{d:Addr}{name:Str}{v:Value}{t:Sem α}{part:Option Value}{k:Obj->Sem α}
 (X:K.In s.heap) (n:PySem.W.nsIn K d name=some (some v)) (e:t=.load d part k) (z:∀ o,nsLook name o=pure (some v)->wpAny M A (k o) Q E s):wpAny M A t Q E s:=by
 unfold PySem.W.nsIn at n
 split at n
 ·rename_i o1 o2 es sz o3 lk
  have hg:=X _ _ lk
  split at n
  ·rename_i e2 fe
   cases n
   rw [e]
   refine wpAny_bind (m:=loadPart d part) (wpAny_loadPart hg (z _ ?_))
   rw [nsLook_eq]
   unfold nsLookByArray
   dsimp only
   rw [← Array.find?_toList,fe]
  ·split at n<;>cases n
 ·cases n
def DefK (K:PySem.W.Frag) (x:Str) (st:Stmt) (dk:Addr):Prop:=∃ (f:Addr) (oc:Value) (od:Option Addr) (doc pm:Value) (an:Option Addr) (cdv ct:Value) (osl:Array (Option Value)),PySem.W.nsIn K mainGlobals x=some (some (.ref f)) /\
 K.lookup f=some ⟨oc,od,.func (PySem.W.fnOf x x (z1Q st) (j7 st) (Z5 st) .none (.ref dk) doc pm an cdv ct),osl⟩/\PySem.W.codeIn K cdv x=true/\PySem.W.keepIn K (.ref f)=true
theorem defK_mk {K:PySem.W.Frag}{x:Str}{st:Stmt}{f dk:Addr}{oc:Value}{od an:Option Addr}{sl:Array (Option Value)}{dc pm cd ct:Value}(a:PySem.W.nsIn K mainGlobals x=some (some (.ref f)))
 (l:K.lookup f=some ⟨oc,od,.func (PySem.W.fnOf x x (z1Q st) (j7 st) (Z5 st) .none (.ref dk) dc pm an cd ct),sl⟩) (c:PySem.W.codeIn K cd x=true) (k:PySem.W.keepIn K (.ref f)=true):DefK K x st dk:=⟨f,oc,od,dc,pm,an,cd,ct,sl,a,l,c,k⟩
structure KD (K:PySem.W.Frag) (dk:Addr) (name:Str) (d:D) (v:V) (u:Value):Prop where
 ns:PySem.W.nsIn K dk name=some (some u)
 rel:RelV v u
 rd:∀ ρ H,RD K ρ H d v
theorem kd_tup {K:PySem.W.Frag}{dk:Addr}{x:Str}{a:Addr}{ds:List D}{its:Array Value}{n:Nat}{sl:Array (Option Value)}(h:PySem.W.nsIn K dk x=some (some (.ref a))) (hk:K.lookup a=some ⟨.type "tuple",none,.seq its n,sl⟩)
 (hr:z8q ds its.toList=true) (hz:its.size≤sizeLine):KD K dk x (.tup ds) (.ref a) (.ref a):=by
 refine ⟨h,rfl,fun ρ H=>?_⟩
 obtain ⟨h1,h2⟩:=z4u (K:=K) (ρ:=ρ) (H:=H) hr
 simp only [RD]
 exact ⟨a,_,rfl,.inr ⟨_,its,n,hk,⟨rfl,rfl⟩,rfl,hz,h1⟩,h2⟩
structure FnR (P:Program) (w:World) (K:PySem.W.Frag) (mg:Str->Option Value) (base:Heap) (k:Nat) (x:Str) (st:Stmt) (dk:Addr) (ps:List Str) (mf:List D->M D):Prop where
 ex:∃ (f:Addr) (doc pm:Value) (an:Option Addr) (cdv ct:Value),FnOk P w K mg base CX0 k f (PySem.W.fnOf x x (z1Q st) (j7 st) (Z5 st) .none (.ref dk) doc pm an cdv ct) ps (spB K mf ps.length)/\PySem.W.keepIn K (.ref f)=true/\mg x=some (.ref f)
theorem FnR.cln {P:Program}{w:World}{K:PySem.W.Frag}{mg:Str->Option Value}{base:Heap}{k:Nat}{x:Str}{st:Stmt}{dk:Addr}{ps:List Str}{mf:List D->M D}(F:FnR P w K mg base k x st dk ps mf):FnR P w K mg base k x st dk ps (fun ds=>FT.cln (mf ds)):=by
 obtain ⟨f,doc,pm,an,cdv,ct,h1,h2,h3⟩:=F.ex
 exact ⟨f,doc,pm,an,cdv,ct,h1.imp fun vs H Q E ⟨hl,ρ,ds,h,rh,rd,fin⟩=>⟨hl,ρ,ds,h,rh,rd,FE.cln rh fin⟩,h2,h3⟩
theorem z9L {P:Program}{w:World}{K:PySem.W.Frag}{mg:Str->Option Value}{base:Heap}{x:Str}{st:Stmt}{dk:Addr}{N ps:List Str}{k:Nat}{mb:G->M Out}(T:DefK K x st dk) (mx:∀ v,PySem.W.nsIn K mainGlobals x=some (some v)->mg x=some v) (S:FnScope N ps (Z5 st))
 (body:∀ (f:Addr) (cdv:Value) (A:Around) (outer:List Env) (s:Shared) (H:Hp) (E:XK),PySem.W.codeIn K cdv x=true->Room k (A.deeper (envOfC x (Z5 st) s.heap.objs.size f cdv)) ->
  SB (cxOf CX0 P w K mg base N x (Z5 st) f cdv A outer s H E).nox EX0 (j7 st) mb):FnR P w K mg base (k+1) x st dk ps (runF N.length mb):=by
 obtain ⟨f,oc,od,doc,pm,an,cdv,ct,osl,hf,lk,hcd,kp⟩:=T
 refine ⟨f,doc,pm,an,cdv,ct,?_,kp,mx _ hf⟩
 refine zk6 lk hcd S (fun vs H Q E h=>h.1) fun A outer s H vs Q E hr h=>?_
 obtain ⟨hl,ρ,ds,h,rh,rd,fin⟩:=h
 refine ⟨_,(body f cdv A outer s H E hcd hr).h.nox,ρ,z2k N.length ds,h,⟨z3M rd,rh⟩,?_⟩
 refine (Fin.bind fin).mono fun o ρ1 h1 H1 p1 e1 r1 f1=>?_
 cases o with
 | nx γ=>exact fun σ _=>FE.here (d:=.non) (h:=h1) f1 r1 (by simp [RD])
 | rt d=>exact fun v rv=>f1 ρ1 H1 (Pre.refl _) (Ext.refl _ _) r1 v rv
 | bk γ=>exact (show False from f1).elim
 | ct γ=>exact (show False from f1).elim
structure FnP (P:Program) (w:World) (K:PySem.W.Frag) (mg:Str->Option Value) (base:Heap) (k:Nat) (x:Str) (n:Nat) (ks:List Str) (d1 d2:List D) (mf:List D->M D):Prop where
 ex:∃ f fd ps g gV v1 v2,FnOk P w K mg base CX0 k f fd ps (spB K mf ps.length)/\KBinds K fd ps ks g gV/\PySem.W.keepIn K (.ref f)=true/\mg x=some (.ref f)/\(∀ vs zs:List V,vs.length=n->zs.length=ks.length->gV vs zs=vs++(v1++zs++v2)/\(gV vs zs).length=ps.length) /\
  ∀ ρ H,RDs K ρ H d1 v1/\RDs K ρ H d2 v2
theorem FnR.pat {P:Program}{w:World}{K:PySem.W.Frag}{mg:Str->Option Value}{base:Heap}{k:Nat}{x:Str}{st:Stmt}{dk:Addr}{ps:List Str}{mf:List D->M D}(F:FnR P w K mg base k x st dk ps mf) (n:Nat) (ks:List Str) {d1 d2:List D}{v1 v2:List V}{u1 u2:List Value}
 (r1:Vals v1 u1) (r2:Vals v2 u2) (e1:∀ ρ H,RDs K ρ H d1 v1) (e2:∀ ρ H,RDs K ρ H d2 v2) (hp:0<ps.length) (hl:n+(u1.length+ks.length+u2.length)=ps.length)
 (hB:∀ (doc pm:Value) (an:Option Addr) (cdv ct:Value) (s:Shared) (us ws:List Value),K.In s.heap->us.length=n->ws.length=ks.length->BindsTo s (PySem.W.fnOf x x (z1Q st) (j7 st) (Z5 st) .none (.ref dk) doc pm an cdv ct) ⟨us,ks.zip ws⟩ (ps.zip (us++(u1++ws++u2)))):FnP P w K mg base k x n ks d1 d2 mf:=by
 obtain ⟨f,doc,pm,an,cdv,ct,h1,h2,h3⟩:=F.ex
 refine ⟨f,_,ps,fun us ws=>if us.length=n/\ws.length=ks.length then us++(u1++ws++u2) else [],fun us ws=>if us.length=n/\ws.length=ks.length then us++(v1++ws++v2) else [],v1,v2,h1,⟨fun s us ws X q=>?_,fun {vs us zs ws} a b=>?_⟩,h2,h3,fun vs zs a b=>?_,fun ρ H=>⟨e1 ρ H,e2 ρ H⟩⟩
 ·split at q
  ·rename_i c
   rw [if_pos c]
   exact hB doc pm an cdv ct s us ws X c.1 c.2
  ·rw [List.length_nil] at q
   omega
 ·rw [a.length,b.length]
  split
  ·exact a.append ((r1.append b).append r2)
  ·exact .nil
 ·dsimp only
  rw [if_pos ⟨a,b⟩]
  refine ⟨rfl,?_⟩
  simp only [List.length_append,r1.length,r2.length]
  omega
structure SK (X:Cx) (EX:XX) (kws:List Keyword) (m:G->M (List D)):Prop where
 h:PK X kws (tL X.K EX m)
theorem PK.imp {X:Cx}{e:List Keyword}{t t':TA}(h:PK X e t) (f:∀ σ H Q,t' σ H Q->t σ H Q):PK X e t':=fun pos pins s σ H Q I z=>h pos pins s σ H Q I (f σ H Q z)
section
variable {X:Cx}{a e:Expr}{es:List Expr}{kws:List Keyword}{pos p kpos:Pos}{mr mk:G->M (List D)}{ma:G->M D}{nm:Option Str}{EX:XX}
theorem z6c:SK X EX [] aNil:=⟨PK.imp zo9 fun σ H Q ⟨ρ,γ,h,rel,fin⟩=>fin ρ H (Pre.refl _) (Ext.refl _ _) rel.h [] RDs.nil⟩
theorem z5p (ha:SE X EX e ma) (hr:SK X EX kws mr):SK X EX (⟨nm,e,kpos⟩ :: kws) (z9 ma mr) :=
 ⟨PK.imp (zb9 ha.h hr.h) fun σ H Q ⟨ρ,γ,h,rel,fin⟩=>⟨ρ,γ,h,rel,(Fin.bind fin).mono fun x ρ1 h1 H1 p1 e1 r1 f1 v rv=>⟨ρ1,γ,h1,⟨rel.g.mono p1 e1,r1⟩,(Fin.bind f1).mono fun xs ρ2 h2 H2 p2 e2 r2 f2 vs rvs =>
  f2 ρ2 H2 (Pre.refl _) (Ext.refl _ _) r2 (v :: vs) (RDs.cons (rv.mono p2 e2) rvs)⟩⟩⟩
def eFnP (n q:Nat) (d1 d2:List D) (mf:List D->M D) (mr mk:G->M (List D)):G->M D:=fun γ=>do
 let xs ← mr γ
 let zs ← mk γ
 if xs.length=n/\zs.length=q then mf (xs++(d1++zs++d2)) else bad
theorem z3s {k n q:Nat}{x:Str}{ks:List Str}{d1 d2:List D}{mf:List D->M D}(F:FnP X.prog X.w X.K X.mg X.base k x n ks d1 d2 mf) (hr:Room k X.A) (hg:Gl X x) (ha:SA X EX0 (a :: es) mr) (hk:SK X EX0 kws mk)
 (hall:(backToKw pos (keywordEach kws X.env)).all (·.1.isSome)=true:=by rfl) (hks:(backToKw pos (keywordEach kws X.env)).filterMap (·.1)=ks:=by rfl)
 (hdb:(x == ("__debug__":Str))=false:=by decide) (he:starEach (a :: es) X.env=(false,eval a X.env) :: starEach es X.env:=by rfl)
 (hpl:((backTo pos (starEach (a :: es) X.env)).any (·.1) || (backToKw pos (keywordEach kws X.env)).any (·.1.isNone))=false:=by rfl) (hq:ks.length=q:=by rfl):SE X EX0 (.Call (.Name x p) (a :: es) kws pos) (eFnP n q d1 d2 mf mr mk):=by
 subst hq
 constructor
 obtain ⟨f,fd,ps,g,gV,v1,v2,h1,h2,h3,h4,h5,h6⟩:=F.ex
 refine PE.imp (z98 h1 hr hg h4 h3 h2 zr7 ha.h hk.h hall hks hdb he hpl) fun σ H Q ⟨ρ,γ,h,rel,fin⟩=>⟨ρ,γ,h,rel,(Fin.bind fin).mono fun xs ρ1 h1 H1 p1 e1 r1 f1 vs rvs=>⟨ρ1,γ,h1,⟨rel.g.mono p1 e1,r1⟩,(Fin.bind f1).mono fun zs ρ2 h2 H2 p2 e2 r2 f2 us rus=>?_⟩⟩
 show spB X.K mf ps.length (gV vs us) H2 Q E0
 by_cases c:xs.length=n/\zs.length=ks.length
 ·rw [if_pos c] at f2
  have l1:=rvs.length
  have l2:=rus.length
  obtain ⟨q1,q2⟩:=h5 vs us (by omega) (by omega)
  refine ⟨q2,ρ2,_,h2,r2,?_,f2⟩
  rw [q1]
  exact (rvs.mono p2 e2).append (((h6 ρ2 H2).1.append rus).append (h6 ρ2 H2).2)
 ·rw [if_neg c] at f2;exact (show False from f2).elim
end
theorem z36 {K:PySem.W.Frag}:∀ ρ H,RDs K ρ H [] []:=fun _ _=>RDs.nil
theorem z8G {K:PySem.W.Frag}{dk:Addr}{x:Str}{d:D}{v:V}{u:Value}(h:KD K dk x d v u):∀ ρ H,RDs K ρ H [d] [v]:=fun ρ H=>RDs.cons (h.rd ρ H) RDs.nil
end FT
namespace L2
open PySem PySem.Spec PyProof.Rows
open PySem.AutoSeq1 (wpAny_loadPart')
section
variable {prog:Program}{w:World}{A:Around}{E:Value->Shared->Prop}{s:Shared}
theorem z47 {Q:List Value->Shared->Prop}{r:Addr}{a b c:Int}{t u v:Tok}{n:Nat}(hh:A.handled=none) (hr:IsRange s.heap r a b c t u v) (hsmall:Builtin.Range.small a b c=true)
 (hn:Builtin.Range.rangeSize a b c=n) (hlen:n≤2 ^ 24)
 (hQ:∀ h' tk (acc:Array Value),(∀ b o,s.heap.get? b=some o->h'.get? b=some o)->ItemsOf (fun i v=>∃ t,v=.int (a+i * c) t) acc n->Q acc.toList { s with heap:=h',toks:=tk }):wpAny (model prog w) A (collect (.ref r)) Q E s:=by
 unfold collect
 refine wpAny_bind (wpAny_runValue (codeAny_builtin PySem.F.entry_proto_collect ?_))
 rw [Around.under_plainId PySem.F.plain_proto_collect _]
 show wpAny _ A.in1 (newList [] >>= fun l=>again (.builtin "list.__iadd__" ⟨[l,.ref r],[]⟩)) _ _ s
 refine wpAny_bind (wpAny_newObj_type ?_)
 refine wpAny_pure ⟨plainId_quiet PySem.F.plain_list_iadd _,codeAny_builtin PySem.F.entry_list_iadd ?_⟩
 rw [Around.under_plainId PySem.F.plain_list_iadd _]
 show wpAny _ A.in1 (Builtin.List.listExtendWith (.ref s.heap.objs.size) (.ref r) (.ref s.heap.objs.size)) _ _ _
 have hS:(s.heap.push { cls:=.type "list",data:=.seq ([]:List Value).toArray }).get? s.heap.objs.size=some { cls:=.type "list",data:=.seq #[] }:=Heap.get?_push_size _ rfl
 refine wpAny_mono (wpAny_extend_range (A:=A) (R:=fun rs s'=>rs=.ok (.ret (.ref s.heap.objs.size))/\∃ h' tk acc' c',s'={ s with heap:=h',toks:=tk }/\(∀ b o,s.heap.get? b=some o->h'.get? b=some o)/\h'.get? s.heap.objs.size=some { cls:=.type "list",dict:=none,data:=.seq acc' c',slots:=#[] }/\ItemsOf (fun i v=>∃ t,v=.int (a+i * c) t) acc' n)
  hh (Heap.get?_push_of_some _ hr) hsmall hn hlen s.heap.objs.size (.ref s.heap.objs.size) _ hS fun h' tk acc' c' hk hS' hacc=>⟨rfl,h',tk,acc',c',rfl,fun b o e=>hk b o (Nat.ne_of_lt (Heap.lt_size e)) (Heap.get?_push_of_some _ e),hS',hacc⟩) (fun fin s' h=>?_) (fun e s' h=>?_)
 ·have fin':∀ s',(∃ h' tk acc' c',s'={ s with heap:=h',toks:=tk }/\(∀ b o,s.heap.get? b=some o->h'.get? b=some o)/\h'.get? s.heap.objs.size=some { cls:=.type "list",dict:=none,data:=.seq acc' c',slots:=#[] }/\ItemsOf (fun i v=>∃ t,v=.int (a+i * c) t) acc' n)->wpAny (model prog w) A (match Value.ref s.heap.objs.size with
   | Value.ref a=>do
    match (← load a).data with
     | Data.seq xs _=>pure xs.toList
     | _=>unsupported "internal:collect"
   | _=>unsupported "internal:collect") Q E s':=fun s' ⟨h',tk,acc',c',e,k,hS',hacc⟩=>by
   subst e
   show wpAny _ A (load s.heap.objs.size >>= _) _ _ _
   refine wpAny_bind (wpAny_load hS' ?_)
   exact wpAny_pure (hQ h' tk acc' k hacc)
  cases fin with
  | done f =>
   obtain ⟨e,h⟩:=h
   cases e
   exact fin' s' h
  | again c'=>exact ⟨h.1,codeAny_mono h.2 fun rs s'' hr=>by obtain ⟨rfl,h⟩:=hr;exact fin' s'' h⟩
 ·exact absurd h.1 (by simp)
end
theorem z39 (r:Addr) (a b c:Int) (t u v:Tok) (n:Nat) (hsmall:Builtin.Range.small a b c=true) (hn:Builtin.Range.rangeSize a b c=n) (hlen:n≤2 ^ 24) :
 Meets (Builtin.«tuple.__new__» ⟨[.type "tuple",.ref r],[]⟩)
  (fun A R s=>A.handled=none/\IsRange s.heap r a b c t u v/\∀ (h':Heap) (tk:Nat) (acc:Array Value),(∀ b o',s.heap.get? b=some o'->h'.get? b=some o')->ItemsOf (fun i v=>∃ t,v=.int (a+i * c) t) acc n->R (.ok (.ret (.ref h'.objs.size))) { s with heap:=h'.push { cls:=.type "tuple",data:=.seq acc },toks:=tk }) :=
 .of_wp fun prog w A R s h=>by
  obtain ⟨hp,g,d,tk,os⟩:=s;obtain ⟨hh,hr,h⟩:=h
  have hsub:=sub_tuple_self
  have hinit:=init_tuple_lookup
  have hmh:=madeHere_tuple
  have hT:Shared.TypeIs ⟨hp,g,d,tk,os⟩ (.ref r) "range":=⟨_,hr,rfl⟩
  have hh1:A.in1.handled=none:=hh
  wp_walk using wpAny_loadPart' hr,wpAny_typeOf hT,z47 hh1 hr hsmall hn hlen
  intro h' tk' acc hk hacc
  show wpAny _ _ (Builtin.Tuple.tupleExact acc.toList.toArray >>= fun v=>ret v) _ _ _
  unfold Builtin.Tuple.tupleExact
  refine wpAny_bind (wpAny_newObj_type ?_ (show acc.toList.toArray.size≤sizeLine by simp only [Array.toArray_toList];rw [hacc.1,sizeLine_eq];omega))
  refine wpAny_pure ⟨_,rfl,?_⟩
  have e:acc.toList.toArray=acc:=by simp
  rw [e]
  exact h h' tk' acc hk hacc
theorem z3o {prog:Program}{w:World}{A:Around}{E:Value->Shared->Prop}{s:Shared}{Q:Value->Shared->Prop}{r:Addr}{a b c:Int}{t u v:Tok}{n:Nat}(hh:A.handled=none) (hr:IsRange s.heap r a b c t u v) (hsmall:Builtin.Range.small a b c=true)
 (hn:Builtin.Range.rangeSize a b c=n) (hlen:n≤2 ^ 24)
 (h:∀ (h':Heap) (tk:Nat) (acc:Array Value),(∀ b o',s.heap.get? b=some o'->h'.get? b=some o')->ItemsOf (fun i v=>∃ t,v=.int (a+i * c) t) acc n->Q (.ref h'.objs.size) { s with heap:=h'.push { cls:=.type "tuple",data:=.seq acc },toks:=tk }) :
 wpAny (model prog w) A (call (.type "tuple") [.ref r]) Q E s :=
 callType_new PySem.F.called_tuple (by decide) (PySem.F.typeCall_tuple_1 _) (PySem.F.newCall_tuple_1 _) (fun obj=>PySem.F.args_object_init_2 obj _) PySem.F.entry_tuple_new
  (z39 r a b c t u v n hsmall hn hlen) ⟨hh,hr,fun h' tk acc hk hacc=>⟨⟨_,Heap.get?_push_size _ rfl,rfl⟩,h h' tk acc hk hacc⟩⟩
def rngO (p:Addr) (n:Int):HO:=.ext fun h=>∃ t u v,IsRange h p 0 n 1 t u v
theorem zq1 {P:Program}{w:World}{H:Hp}{h:Heap}{p:Addr}{n:Int}{t u v:Tok}(e:IsRange h p 0 n 1 t u v):ObjOk P w H h p (rngO p n) :=
 ⟨⟨t,u,v,e⟩,⟨_,e⟩,fun h1 h2 ⟨t,u,v,e⟩ k=>⟨t,u,v,k _ e⟩⟩
def z5q (n:Nat):List V:=(List.range n).map fun (i:Nat)=>V.int i
theorem z6P {acc:Array Value}{n:Nat}(h:ItemsOf (fun i v=>∃ t,v=Value.int (0+i * 1) t) acc n):Vals (z5q n) acc.toList:=by
 obtain ⟨hs,hi⟩:=h
 have:∀ (xs:List Value) (k:Nat),(∀ j v,xs[j]?=some v->∃ t,v=Value.int (0+((k+j:Nat):Int) * 1) t)->Vals ((List.range' k xs.length).map fun (i:Nat)=>V.int i) xs:=by
  intro xs
  induction xs with
  | nil=>intro k _;exact .nil
  | cons x r ih =>
   intro k hk
   rw [List.length_cons,List.range'_succ,List.map_cons]
   refine .cons ?_ (ih (k+1) fun j v e=>?_)
   ·obtain ⟨t,rfl⟩:=hk 0 x rfl
    exact ⟨t,by simp⟩
   ·obtain ⟨t,rfl⟩:=hk (j+1) v (by simpa using e)
    exact ⟨t,by congr 3;omega⟩
 have q:=this acc.toList 0 (fun j v e=>by
  obtain ⟨t,rfl⟩:=hi j v (by simpa using e)
  exact ⟨t,by simp⟩)
 unfold z5q
 rw [List.range_eq_range',← hs]
 simpa using q
section
variable {X:Cx}
theorem z9n:z3d X (.type "range") (fun xs H Q=>∃ j,xs=[.int j]/\∀ p,H p=none->Q (.ref p) (upd H p (rngO p j))):=by
 intro pins s σ H xs us Q I r h
 obtain ⟨j,rfl,q⟩:=h
 obtain ⟨u,rfl,ru⟩:=vals1 r
 obtain ⟨t,rfl⟩:=ru
 refine call_range_1 ⟨.ref s.heap.objs.size,_,I.laid (o:=rngO s.heap.objs.size j) (fun b ob q=>Heap.get?_push_of_some _ q) (Nat.le_refl _) (zq1 (Heap.get?_push_size _ rfl)),rfl,q _ (I.hok.fresh (Nat.le_refl _))⟩
theorem zq2 {pins:List (Addr×Obj)}{σ:St}{H:Hp}{s:Shared}{p:Addr}{j:Int}(I:Inv X pins σ H s) (e:H p=some (rngO p j)):∃ t u v,IsRange s.heap p 0 j 1 t u v:=(I.hok p _ e).1
theorem zj9 {j:Int}(h1:-(2 ^ 62)≤j) (h2:j<2 ^ 62):Builtin.Range.small 0 j 1=true:=small_one (by omega) (by omega) h1 h2
theorem zw5 (j:Int):Builtin.Range.rangeSize 0 j 1=(j.toNat:Int):=by rw [rangeSize_one];split<;>omega
theorem z85 (hc:X.calm=true):z3d X (.type "tuple") (fun xs H Q=>∃ p j,xs=[.ref p]/\H p=some (rngO p j)/\-(2 ^ 62)≤j/\j<2 ^ 62/\j.toNat≤sizeLine/\∀ l,H l=none->Q (.ref l) (upd H l (.tup (z5q j.toNat)))):=by
 intro pins s σ H xs us Q I r h
 obtain ⟨p,j,rfl,e,h1,h2,hl,q⟩:=h
 obtain ⟨u,rfl,ru⟩:=vals1 r
 cases ru
 obtain ⟨t,u,v,hr⟩:=zq2 I e
 have l4:(sizeLine:Nat)≤2 ^ 24:=by decide
 refine z3o (n:=j.toNat) (I.ok.hd hc) hr (zj9 h1 h2) (zw5 j) (by omega) fun h' tk acc kp hacc=>?_
 have hv:=z6P hacc
 have I1:Inv X pins σ H { s with heap:=h',toks:=tk }:=I.kept kp
 refine ⟨.ref h'.objs.size,_,I1.laid (t':=tk) (o:=.tup (z5q j.toNat)) (fun b ob z=>Heap.get?_push_of_some _ z) (Nat.le_refl _) ⟨by unfold z5q;simpa using hl,acc.toList,hv,?_⟩,rfl,q _ (I1.hok.fresh (Nat.le_refl _))⟩
 have:acc.toList.toArray=acc:=by simp
 rw [this]
 exact FT.IsTup0.new _ _
end
end L2
namespace FT
open PySem PySem.Spec PyProof.Rows L2
def eRng (tup:Bool) (ma:G->M D):G->M D:=fun γ=>do
 let x ← ma γ
 match x with
 | .int j=>if decide (-(2 ^ 62)≤j) && decide (j<2 ^ 62) && decide (j.toNat≤sizeLine) then (if tup then pure (.tup (z0j j.toNat)) else newL (z0j j.toNat)) else bad
 | _=>bad
theorem z7b {K:PySem.W.Frag}{ρ:List Addr}{H:Hp}{ι:Type}{f:ι->D}{g:ι->V}:∀ (l:List ι),(∀ i,RD K ρ H (f i) (g i))->RDs K ρ H (l.map f) (l.map g)
 | [],_=>RDs.nil
 | x :: r,h=>RDs.cons (h x) (z7b r h)
theorem z7P {K:PySem.W.Frag}{ρ:List Addr}{H:Hp}(n:Nat):RDs K ρ H (z0j n) (z5q n):=by
 unfold z0j z5q
 exact z7b _ fun i=>by simp [RD]
section
variable {X:Cx}{EX:XX}{a:Expr}{p p2 pos pos2:Pos}{ma:G->M D}
theorem zd0 (hc:X.calm=true) (hg:Gl X "tuple") (hm:X.mg "tuple" = none) (hg2:Gl X "range") (hm2:X.mg "range" = none) (ha:SE X EX a ma) (he:starEach [a] X.env=[(false,eval a X.env)]:=by rfl)
 (he2:starEach [.Call (.Name "range" p2) [a] [] pos2] X.env=[(false,eval (.Call (.Name "range" p2) [a] [] pos2) X.env)]:=by rfl):SE X EX (.Call (.Name "tuple" p) [.Call (.Name "range" p2) [a] [] pos2] [] pos) (eRng true ma) :=
 ⟨PE.imp (z2u (z85 hc) hg hm (by decide +kernel) (z2q (z2u z9n hg2 hm2 (by decide +kernel) (z2q ha.h z3A he) (by decide) (by decide) he rfl) z3A he2) (by decide) (by decide) he2 rfl) fun σ H Q ⟨ρ,γ,h,rel,fin⟩=>⟨ρ,γ,h,rel,(Fin.bind fin).mono fun x ρ1 h1 H1 p1 e1 r1 f1 v rv=>by
  cases x<;>first | exact (show False from f1).elim | skip
  rename_i j
  simp only [RD] at rv
  subst rv
  dsimp only at f1
  split at f1
  ·rename_i c
   simp only [Bool.and_eq_true,decide_eq_true_eq] at c
   rw [if_pos rfl] at f1
   refine ⟨j,rfl,fun q hq=>⟨q,j,rfl,z0I,c.1.1,c.1.2,c.2,fun l hl=>?_⟩⟩
   exact FE.tup (Fin.up (Pre.refl _) (Ext.upd (.inl hq)) f1) (r1.other hq) (z7P _) hl
  ·exact f1.elim⟩⟩
end
inductive Vw where
 | flat (d:D) | tup (xs:List D) | lst (xs:List D) | no
def vw (h:AH):D->Vw
 | .tup xs=>.tup xs
 | .fl xs=>.lst xs
 | .ref i=>match h[i]? with
  | some (.lst xs)=>.lst xs
  | _=>.no
 | d=>.flat d
def eqZ (f:D->D->Option Bool):List D->List D->Option Bool
 | [],[]=>some true
 | x :: xs,y :: ys=>match f x y,eqZ f xs ys with
  | some a,some b=>some (a && b)
  | _,_=>none
 | _,_=>some false
def eqN:Nat->AH->D->D->Option Bool
 | 0,_,_,_=>none
 | n+1,h,x,y=>match vw h x,vw h y with
  | .flat a,.flat b=>some (eqF a b)
  | .tup xs,.tup ys=>eqZ (eqN n h) xs ys
  | .lst xs,.lst ys=>eqZ (eqN n h) xs ys
  | .no,_=>none
  | _,.no=>none
  | _,_=>some false
def eqE (f:D->D->Option Bool) (xs ys:List D) (j:Nat):Bool:=(f (xs.getD j .non) (ys.getD j .non)).getD false
theorem z4y {f:D->D->Option Bool}:∀ {xs ys:List D}{b:Bool},eqZ f xs ys=some b ->
 (∀ j x y,xs[j]?=some x->ys[j]?=some y->f x y=some (eqE f xs ys j))/\b=((List.range (min xs.length ys.length)).all (eqE f xs ys) && xs.length == ys.length)
 | [],[],b,h=>by
  unfold eqZ at h;cases h
  exact ⟨fun j x y e=>by simp at e,by simp⟩
 | [],y :: ys,b,h=>by
  unfold eqZ at h;cases h
  exact ⟨fun j x y e=>by simp at e,by simp⟩
 | x :: xs,[],b,h=>by
  unfold eqZ at h;cases h
  exact ⟨fun j x y _ e=>by simp at e,by simp⟩
 | x :: xs,y :: ys,b,h=>by
  unfold eqZ at h
  split at h
  ·rename_i a c e1 e2
   cases h
   obtain ⟨q1,q2⟩:=z4y e2
   refine ⟨fun j p q ep eq=>?_,?_⟩
   ·cases j with
    | zero=>simp at ep eq;subst ep;subst eq;unfold eqE;simp [e1]
    | succ j=>simpa [eqE] using q1 j p q (by simpa using ep) (by simpa using eq)
   ·rw [q2]
    have:min (x :: xs).length (y :: ys).length=min xs.length ys.length+1:=by simp
    rw [this,List.range_succ_eq_map,List.all_cons,List.all_map,← Bool.and_assoc]
    congr 1
    ·unfold eqE
     simp [e1,Function.comp_def]
    ·simp
  ·cases h
section
variable {K:PySem.W.Frag}{ρ:List Addr}{h:AH}{H:Hp}
theorem z2v {d a:D}(e:vw h d=.flat a):a=d/\z1j d=true:=by
 cases d<;>simp [vw] at e<;>first | (subst e;exact ⟨rfl,rfl⟩) | skip
 split at e<;>cases e
theorem z3k {d:D}{xs:List D}{v:V}(e:vw h d=.tup xs) (r:RD K ρ H d v):∃ a vs,v=.ref a/\SqT K H a vs/\RDs K ρ H xs vs:=by
 cases d<;>simp [vw] at e
 ·subst e;simpa [RD] using r
 ·split at e<;>cases e
theorem z3h {d:D}{xs:List D}{v:V}(rh:RH K ρ h H) (e:vw h d=.lst xs) (r:RD K ρ H d v):∃ a vs,v=.ref a/\SqL K H a vs/\RDs K ρ H xs vs:=by
 cases d<;>simp [vw] at e
 ·subst e
  simp only [RD] at r
  obtain ⟨a,vs,h1,h2,h3⟩:=r
  exact ⟨a,vs,h1,h2.sq,h3⟩
 ·split at e
  ·rename_i i xs' ei
   cases e
   simp only [RD] at r
   obtain ⟨a,h1,h2⟩:=r
   obtain ⟨a',h3,vs,h4,h5⟩:=rh.at ei
   rw [h2] at h3;cases h3
   exact ⟨a,vs,h1,SqL.of h4,h5⟩
  ·cases e
end
section
variable {X:Cx}{pins:List (Addr×Obj)}{σ:L2.St}{ρ:List Addr}{h:AH}{H:Hp}{s:Shared}
theorem z46 {K:PySem.W.Frag}{a:Addr}:∀ {d:D},z1j d=true->RD K ρ H d (.ref a)->False
 | .non,_,r=>by simp [RD] at r
 | .bl _,_,r=>by simp [RD] at r
 | .int _,_,r=>by simp [RD] at r
 | .str _,_,r=>by simp [RD] at r
 | .tup _,f,_=>by cases f
 | .fl _,f,_=>by cases f
 | .ref _,f,_=>by cases f
theorem z9w:∀ {d:D},z1j d=true->eqF d d=true
 | .non,_=>rfl
 | .bl _,_=>by simp [eqF]
 | .int _,_=>by simp [eqF]
 | .str _,_=>by simp [eqF]
 | .tup _,f=>by cases f
 | .fl _,f=>by cases f
 | .ref _,f=>by cases f
def flV:D->V
 | .bl b=>.bl b
 | .int i=>.int i
 | .str x=>.str x
 | _=>.non
theorem z3T {K:PySem.W.Frag}:∀ {d:D}{v:V},z1j d=true->RD K ρ H d v->v=flV d
 | .non,_,_,r=>by simp only [RD] at r;exact r
 | .bl _,_,_,r=>by simp only [RD] at r;exact r
 | .int _,_,_,r=>by simp only [RD] at r;exact r
 | .str _,_,_,r=>by simp only [RD] at r;exact r
 | .tup _,_,f,_=>by cases f
 | .fl _,_,f,_=>by cases f
 | .ref _,_,f,_=>by cases f
theorem zc7:∀ {a b:D},z1j a=true->z1j b=true->flV a=flV b->a=b
 | .non,.non,_,_,_=>rfl
 | .bl _,.bl _,_,_,e=>by cases e;rfl
 | .int _,.int _,_,_,e=>by cases e;rfl
 | .str _,.str _,_,_,e=>by cases e;rfl
 | .non,.bl _,_,_,e=>by cases e
 | .non,.int _,_,_,e=>by cases e
 | .non,.str _,_,_,e=>by cases e
 | .bl _,.non,_,_,e=>by cases e
 | .bl _,.int _,_,_,e=>by cases e
 | .bl _,.str _,_,_,e=>by cases e
 | .int _,.non,_,_,e=>by cases e
 | .int _,.bl _,_,_,e=>by cases e
 | .int _,.str _,_,_,e=>by cases e
 | .str _,.non,_,_,e=>by cases e
 | .str _,.bl _,_,_,e=>by cases e
 | .str _,.int _,_,_,e=>by cases e
 | .tup _,_,f,_,_=>by cases f
 | .fl _,_,f,_,_=>by cases f
 | .ref _,_,f,_,_=>by cases f
 | _,.tup _,_,f,_=>by cases f
 | _,.fl _,_,f,_=>by cases f
 | _,.ref _,_,f,_=>by cases f
theorem list_inj {a:Addr}{xs ys:List V}(I:Inv X pins σ H s) (h1:SqL X.K H a xs) (h2:SqL X.K H a ys):xs=ys:=by
 obtain ⟨its,r,⟨o,n,e,_,_,d⟩,_⟩:=I.list h1
 obtain ⟨its',r',⟨o',n',e',_,_,d'⟩,_⟩:=I.list h2
 rw [e] at e';cases e'
 rw [d] at d'
 injection d' with d1 _
 have:its=its':=by simpa using congrArg Array.toList d1
 subst this
 exact r.inj r'
theorem z5Q (I:Inv X pins σ H s) (rh:RH X.K ρ h H):∀ (n:Nat) {d1 d2:D}{v:V}{b:Bool},RD X.K ρ H d1 v->RD X.K ρ H d2 v->eqN n h d1 d2=some b->b=true
 | 0,d1,d2,v,b,_,_,e=>by cases e
 | n+1,d1,d2,v,b,r1,r2,e=>by
  have elems:∀ {xs ys:List D} {vs:List V},RDs X.K ρ H xs vs->RDs X.K ρ H ys vs->eqZ (eqN n h) xs ys=some b->b=true:=fun {xs ys vs} q1 q2 z=>by
   obtain ⟨z1,z2⟩:=z4y z
   have l1:=q1.length
   have l2:=q2.length
   rw [z2,Bool.and_eq_true,List.all_eq_true]
   refine ⟨fun j hj=>?_,by simp;omega⟩
   have hj':j<xs.length:=by simp at hj;omega
   have e1:xs[j]?=some xs[j]:=List.getElem?_eq_getElem hj'
   have e2:ys[j]?=some ys[j]:=List.getElem?_eq_getElem (by omega)
   obtain ⟨w1,a1,a2⟩:=q1.get e1
   obtain ⟨w2,b1,b2⟩:=q2.get e2
   rw [a1] at b1;cases b1
   exact z5Q I rh n a2 b2 (z1 j _ _ e1 e2)
  unfold eqN at e
  have nl:∀ {a:Addr} {vs ws:List V},SqT X.K H a vs->SqL X.K H a ws->False:=fun {a vs ws} t1 t2=>by
   obtain ⟨its,_,p1,_⟩:=I.tuple t1
   obtain ⟨its2,_,p2,_⟩:=I.list t2
   exact SeqAt.ne_of_list_tuple p2.isList (show s.heap.IsTuple a its.toArray from p1) rfl
  cases e1:vw h d1 with
  | no=>rw [e1] at e;cases e2:vw h d2<;>rw [e2] at e<;>cases e
  | flat a =>
   rw [e1] at e
   obtain ⟨rfl,f1⟩:=z2v e1
   cases e2:vw h d2 with
   | no=>rw [e2] at e;cases e
   | flat c =>
    rw [e2] at e
    obtain ⟨rfl,f2⟩:=z2v e2
    cases e
    have:=zc7 f1 f2 ((z3T f1 r1).symm.trans (z3T f2 r2))
    subst this
    exact z9w f1
   | tup ys=>obtain ⟨a',vs,rfl,_,_⟩:=z3k e2 r2;exact (z46 f1 r1).elim
   | lst ys=>obtain ⟨a',vs,rfl,_,_⟩:=z3h rh e2 r2;exact (z46 f1 r1).elim
  | tup xs =>
   rw [e1] at e
   obtain ⟨a,vs,rfl,t1,q1⟩:=z3k e1 r1
   cases e2:vw h d2 with
   | no=>rw [e2] at e;cases e
   | flat c=>obtain ⟨rfl,f2⟩:=z2v e2;exact (z46 f2 r2).elim
   | tup ys =>
    rw [e2] at e
    obtain ⟨a',ws,ea,t2,q2⟩:=z3k e2 r2
    cases ea
    have:=I.tuple_inj t1 t2
    subst this
    exact elems q1 q2 e
   | lst ys =>
    obtain ⟨a',ws,ea,t2,q2⟩:=z3h rh e2 r2
    cases ea
    exact (nl t1 t2).elim
  | lst xs =>
   rw [e1] at e
   obtain ⟨a,vs,rfl,t1,q1⟩:=z3h rh e1 r1
   cases e2:vw h d2 with
   | no=>rw [e2] at e;cases e
   | flat c=>obtain ⟨rfl,f2⟩:=z2v e2;exact (z46 f2 r2).elim
   | lst ys =>
    rw [e2] at e
    obtain ⟨a',ws,ea,t2,q2⟩:=z3h rh e2 r2
    cases ea
    have:=list_inj I t1 t2
    subst this
    exact elems q1 q2 e
   | tup ys =>
    obtain ⟨a',ws,ea,t2,q2⟩:=z3k e2 r2
    cases ea
    exact (nl t2 t1).elim
open SeqAt in
theorem mixT {A:Around}{u:Value}{d:D}{v:V}{K:PySem.W.Frag}{a:Addr}{its:Array Value}(f:z1j d=true) (r:RD K ρ H d v) (ru:RelV v u) (p:s.heap.IsTuple a its) (hu:A.units<cLine):EqAt A s u (.ref a) false/\EqAt A s (.ref a) u false/\RcAt A s u (.ref a) false/\RcAt A s (.ref a) u false/\RcNeAt A s u (.ref a) true/\RcNeAt A s (.ref a) u true:=by
 have:=z3T f r
 subst this
 cases d with
 | non=>cases ru;exact ⟨.none_tuple p hu,.tuple_none p hu,.none_tuple p hu,.tuple_none p hu,.none_tuple p hu,.tuple_none p hu⟩
 | bl b=>cases ru;exact ⟨.bool_tuple b p hu,.tuple_bool b p hu,.bool_tuple b p hu,.tuple_bool b p hu,.bool_tuple b p hu,.tuple_bool b p hu⟩
 | int i=>obtain ⟨t,rfl⟩:=ru;exact ⟨.int_tuple i t p hu,.tuple_int i t p hu,.int_tuple i t p hu,.tuple_int i t p hu,.int_tuple i t p hu,.tuple_int i t p hu⟩
 | str x=>obtain ⟨t,rfl⟩:=ru;exact ⟨.str_tuple x t p hu,.tuple_str x t p hu,.str_tuple x t p hu,.tuple_str x t p hu,.str_tuple x t p hu,.tuple_str x t p hu⟩
 | tup _=>cases f
 | fl _=>cases f
 | ref _=>cases f
open SeqAt in
theorem mixL {A:Around}{u:Value}{d:D}{v:V}{K:PySem.W.Frag}{a:Addr}{its:Array Value}(f:z1j d=true) (r:RD K ρ H d v) (ru:RelV v u) (p:s.heap.IsList a its) (hu:A.units<cLine):EqAt A s u (.ref a) false/\EqAt A s (.ref a) u false/\RcAt A s u (.ref a) false/\RcAt A s (.ref a) u false/\RcNeAt A s u (.ref a) true/\RcNeAt A s (.ref a) u true:=by
 have:=z3T f r
 subst this
 cases d with
 | non=>cases ru;exact ⟨.none_list p hu,.list_none p hu,.none_list p hu,.list_none p hu,.none_list p hu,.list_none p hu⟩
 | bl b=>cases ru;exact ⟨.bool_list b p hu,.list_bool b p hu,.bool_list b p hu,.list_bool b p hu,.bool_list b p hu,.list_bool b p hu⟩
 | int i=>obtain ⟨t,rfl⟩:=ru;exact ⟨.int_list i t p hu,.list_int i t p hu,.int_list i t p hu,.list_int i t p hu,.int_list i t p hu,.list_int i t p hu⟩
 | str x=>obtain ⟨t,rfl⟩:=ru;exact ⟨.str_list x t p hu,.list_str x t p hu,.str_list x t p hu,.list_str x t p hu,.str_list x t p hu,.list_str x t p hu⟩
 | tup _=>cases f
 | fl _=>cases f
 | ref _=>cases f
open SeqAt in
theorem zw9 {A:Around}{u1 u2:Value}:∀ (d1 d2:D),z1j d1=true->z1j d2=true->RelV (flV d1) u1->RelV (flV d2) u2->EqAt A s u1 u2 (eqF d1 d2)/\RcAt A s u1 u2 (eqF d1 d2)/\RcNeAt A s u1 u2 (!(eqF d1 d2))
 | .non,.non,_,_,r1,r2=>by cases r1;cases r2;exact ⟨EqAt.same _,RcAt.none_none,RcNeAt.none_none⟩
 | .non,(.bl b),_,_,r1,r2=>by cases r1;cases r2;exact ⟨EqAt.none_bool b,RcAt.none_bool b,RcNeAt.none_bool b⟩
 | .non,(.int b),_,_,r1,r2=>by cases r1;obtain ⟨t2,rfl⟩:=r2;exact ⟨EqAt.none_int b t2,RcAt.none_int b t2,RcNeAt.none_int b t2⟩
 | .non,(.str b),_,_,r1,r2=>by cases r1;obtain ⟨t2,rfl⟩:=r2;exact ⟨EqAt.none_str b t2,RcAt.none_str b t2,RcNeAt.none_str b t2⟩
 | (.bl a),.non,_,_,r1,r2=>by cases r1;cases r2;exact ⟨EqAt.bool_none a,RcAt.bool_none a,RcNeAt.bool_none a⟩
 | (.bl a),(.bl b),_,_,r1,r2=>by cases r1;cases r2;exact ⟨EqAt.bool_bool a b,RcAt.bool_bool a b,RcNeAt.bool_bool a b⟩
 | (.bl a),(.int b),_,_,r1,r2=>by cases r1;obtain ⟨t2,rfl⟩:=r2;exact ⟨EqAt.bool_int a b t2,RcAt.bool_int a b t2,RcNeAt.bool_int a b t2⟩
 | (.bl a),(.str b),_,_,r1,r2=>by cases r1;obtain ⟨t2,rfl⟩:=r2;exact ⟨EqAt.bool_str a b t2,RcAt.bool_str a b t2,RcNeAt.bool_str a b t2⟩
 | (.int a),.non,_,_,r1,r2=>by obtain ⟨t1,rfl⟩:=r1;cases r2;exact ⟨EqAt.int_none a t1,RcAt.int_none a t1,RcNeAt.int_none a t1⟩
 | (.int a),(.bl b),_,_,r1,r2=>by obtain ⟨t1,rfl⟩:=r1;cases r2;exact ⟨EqAt.int_bool a t1 b,RcAt.int_bool a t1 b,RcNeAt.int_bool a t1 b⟩
 | (.int a),(.int b),_,_,r1,r2=>by obtain ⟨t1,rfl⟩:=r1;obtain ⟨t2,rfl⟩:=r2;exact ⟨EqAt.int_int a t1 b t2,RcAt.int_int a t1 b t2,RcNeAt.int_int a t1 b t2⟩
 | (.int a),(.str b),_,_,r1,r2=>by obtain ⟨t1,rfl⟩:=r1;obtain ⟨t2,rfl⟩:=r2;exact ⟨EqAt.int_str a t1 b t2,RcAt.int_str a t1 b t2,RcNeAt.int_str a t1 b t2⟩
 | (.str a),.non,_,_,r1,r2=>by obtain ⟨t1,rfl⟩:=r1;cases r2;exact ⟨EqAt.str_none a t1,RcAt.str_none a t1,RcNeAt.str_none a t1⟩
 | (.str a),(.bl b),_,_,r1,r2=>by obtain ⟨t1,rfl⟩:=r1;cases r2;exact ⟨EqAt.str_bool a t1 b,RcAt.str_bool a t1 b,RcNeAt.str_bool a t1 b⟩
 | (.str a),(.int b),_,_,r1,r2=>by obtain ⟨t1,rfl⟩:=r1;obtain ⟨t2,rfl⟩:=r2;exact ⟨EqAt.str_int a t1 b t2,RcAt.str_int a t1 b t2,RcNeAt.str_int a t1 b t2⟩
 | (.str a),(.str b),_,_,r1,r2=>by obtain ⟨t1,rfl⟩:=r1;obtain ⟨t2,rfl⟩:=r2;exact ⟨EqAt.str_str a t1 b t2,RcAt.str_str a t1 b t2,RcNeAt.str_str a t1 b t2⟩
 | .tup _,_,f,_,_,_=>by cases f
 | .fl _,_,f,_,_,_=>by cases f
 | .ref _,_,f,_,_,_=>by cases f
 | _,.tup _,_,f,_,_=>by cases f
 | _,.fl _,_,f,_,_=>by cases f
 | _,.ref _,_,f,_,_=>by cases f
open SeqAt in
theorem deq (I:Inv X pins σ H s) (rh:RH X.K ρ h H):∀ (n:Nat) {A:Around}{d1 d2:D}{v1 v2:V}{u1 u2:Value}{b:Bool},A.units+n<cLine->RD X.K ρ H d1 v1->RD X.K ρ H d2 v2->RelV v1 u1->RelV v2 u2->eqN n h d1 d2=some b->EqAt A s u1 u2 b/\RcAt A s u1 u2 b/\RcNeAt A s u1 u2 (!b)
 | 0,A,d1,d2,v1,v2,u1,u2,b,_,_,_,_,_,e=>by cases e
 | n+1,A,d1,d2,v1,v2,u1,u2,b,hA,r1,r2,w1,w2,e=>by
  have hu:A.units<cLine:=by omega
  have e0:=e
  unfold eqN at e
  have elems:∀ {xs ys:List D} {vs ws:List V} {its its2:List Value},RDs X.K ρ H xs vs->RDs X.K ρ H ys ws->Vals vs its->Vals ws its2->eqZ (eqN n h) xs ys=some b ->
   (∀ j (h1:j<its.toArray.size) (h2:j<its2.toArray.size),EqAt A.in1 s its.toArray[j] its2.toArray[j] (eqE (eqN n h) xs ys j))/\b=((List.range (min its.toArray.size its2.toArray.size)).all (eqE (eqN n h) xs ys) && its.toArray.size == its2.toArray.size):=fun {xs ys vs ws its its2} q1 q2 a1 a2 z=>by
   obtain ⟨z1,z2⟩:=z4y z
   have l1:=q1.length
   have l2:=q2.length
   have l3:=a1.length
   have l4:=a2.length
   refine ⟨fun j h1 h2=>?_,by rw [z2,List.size_toArray,List.size_toArray,← l3,← l4,← l1,← l2]⟩
   have j1:j<xs.length:=by rw [List.size_toArray] at h1;omega
   have j2:j<ys.length:=by rw [List.size_toArray] at h2;omega
   have e1:xs[j]?=some xs[j]:=List.getElem?_eq_getElem j1
   have e2:ys[j]?=some ys[j]:=List.getElem?_eq_getElem j2
   obtain ⟨x1,b1,c1⟩:=q1.get e1
   obtain ⟨x2,b2,c2⟩:=q2.get e2
   obtain ⟨y1,b3,c3⟩:=a1.get b1
   obtain ⟨y2,b4,c4⟩:=a2.get b2
   have g1:its.toArray[j]=y1:=by
    have:=List.getElem?_eq_getElem (l:=its) (i:=j) (by simpa using h1)
    rw [b3] at this
    simpa using (Option.some.inj this).symm
   have g2:its2.toArray[j]=y2:=by
    have:=List.getElem?_eq_getElem (l:=its2) (i:=j) (by simpa using h2)
    rw [b4] at this
    simpa using (Option.some.inj this).symm
   rw [g1,g2]
   exact (deq I rh n (A:=A.in1) (show A.units+1+n<cLine by omega) c1 c2 c3 c4 (z1 j _ _ e1 e2)).1
  have same:∀ {a a':Addr},v1=.ref a->v2=.ref a'->a=a'->b=true:=fun {a a'} x y z=>by
   subst z
   rw [x] at r1
   rw [y] at r2
   exact z5Q I rh (n+1) r1 r2 e0
  cases e1:vw h d1 with
  | no=>rw [e1] at e;cases e2:vw h d2<;>rw [e2] at e<;>cases e
  | flat a =>
   rw [e1] at e
   obtain ⟨rfl,f1⟩:=z2v e1
   cases e2:vw h d2 with
   | no=>rw [e2] at e;cases e
   | flat c =>
    rw [e2] at e
    obtain ⟨rfl,f2⟩:=z2v e2
    cases e
    rw [z3T f1 r1] at w1
    rw [z3T f2 r2] at w2
    exact zw9 a c f1 f2 w1 w2
   | tup ys =>
    rw [e2] at e
    cases e
    obtain ⟨a',vs,rfl,t2,_⟩:=z3k e2 r2
    cases w2
    obtain ⟨its,_,p,_⟩:=I.tuple t2
    obtain ⟨m1,_,m3,_,m5,_⟩:=mixT (s:=s) f1 r1 w1 (show s.heap.IsTuple a' its.toArray from p) hu
    exact ⟨m1,m3,m5⟩
   | lst ys =>
    rw [e2] at e
    cases e
    obtain ⟨a',vs,rfl,t2,_⟩:=z3h rh e2 r2
    cases w2
    obtain ⟨its,_,p,_⟩:=I.list t2
    obtain ⟨m1,_,m3,_,m5,_⟩:=mixL (s:=s) f1 r1 w1 p.isList hu
    exact ⟨m1,m3,m5⟩
  | tup xs =>
   rw [e1] at e
   obtain ⟨a,vs,rfl,t1,q1⟩:=z3k e1 r1
   cases w1
   obtain ⟨its,x1,p1,_⟩:=I.tuple t1
   have p1:s.heap.IsTuple a its.toArray:=p1
   cases e2:vw h d2 with
   | no=>rw [e2] at e;cases e
   | flat c =>
    rw [e2] at e
    cases e
    obtain ⟨rfl,f2⟩:=z2v e2
    obtain ⟨_,m2,_,m4,_,m6⟩:=mixT (s:=s) f2 r2 w2 p1 hu
    exact ⟨m2,m4,m6⟩
   | tup ys =>
    rw [e2] at e
    obtain ⟨a',ws,rfl,t2,q2⟩:=z3k e2 r2
    cases w2
    obtain ⟨its2,x2,p2,_⟩:=I.tuple t2
    have p2:s.heap.IsTuple a' its2.toArray:=p2
    obtain ⟨g1,g2⟩:=elems q1 q2 x1 x2 e
    have rc:=RcAt.tuples p1 p2 hu g1
    have rn:=RcNeAt.tuples p1 p2 hu g1
    rw [← g2] at rc rn
    refine ⟨?_,rc,rn⟩
    by_cases ea:a=a'
    ·rw [same rfl rfl ea]
     subst ea
     exact EqAt.same _
    ·exact EqAt.of_refs ea rc
   | lst ys =>
    rw [e2] at e
    cases e
    obtain ⟨a',ws,rfl,t2,q2⟩:=z3h rh e2 r2
    cases w2
    obtain ⟨its2,x2,p2,_⟩:=I.list t2
    exact ⟨EqAt.tuple_list p1 p2.isList hu,RcAt.tuple_list p1 p2.isList hu,RcNeAt.tuple_list p1 p2.isList hu⟩
  | lst xs =>
   rw [e1] at e
   obtain ⟨a,vs,rfl,t1,q1⟩:=z3h rh e1 r1
   cases w1
   obtain ⟨its,x1,p1,_⟩:=I.list t1
   cases e2:vw h d2 with
   | no=>rw [e2] at e;cases e
   | flat c =>
    rw [e2] at e
    cases e
    obtain ⟨rfl,f2⟩:=z2v e2
    obtain ⟨_,m2,_,m4,_,m6⟩:=mixL (s:=s) f2 r2 w2 p1.isList hu
    exact ⟨m2,m4,m6⟩
   | tup ys =>
    rw [e2] at e
    cases e
    obtain ⟨a',ws,rfl,t2,q2⟩:=z3k e2 r2
    cases w2
    obtain ⟨its2,x2,p2,_⟩:=I.tuple t2
    exact ⟨EqAt.list_tuple p1.isList p2 hu,RcAt.list_tuple p1.isList p2 hu,RcNeAt.list_tuple p1.isList p2 hu⟩
   | lst ys =>
    rw [e2] at e
    obtain ⟨a',ws,rfl,t2,q2⟩:=z3h rh e2 r2
    cases w2
    obtain ⟨its2,x2,p2,_⟩:=I.list t2
    obtain ⟨g1,g2⟩:=elems q1 q2 x1 x2 e
    have both:RcAt A s (.ref a) (.ref a') b/\RcNeAt A s (.ref a) (.ref a') (!b):=by
     by_cases hz:its.toArray.size=its2.toArray.size
     ·have:b=(List.range its.toArray.size).all (eqE (eqN n h) xs ys):=by rw [g2,← hz,Nat.min_self];simp
      rw [this]
      exact ⟨RcAt.lists p1.isList p2.isList hz hu g1,RcNeAt.lists p1.isList p2.isList hz hu g1⟩
     ·have:b=false:=by
       rw [g2,Bool.and_eq_false_iff]
       right
       simpa using hz
      rw [this]
      exact ⟨RcAt.lists_lengths p1.isList p2.isList (by simpa using hz) hu,RcNeAt.lists_lengths p1.isList p2.isList (by simpa using hz) hu⟩
    refine ⟨?_,both⟩
    by_cases ea:a=a'
    ·rw [same rfl rfl ea]
     subst ea
     exact EqAt.same _
    ·exact EqAt.of_refs ea both.1
end
def fEqX (neg:Bool):D->D->M D:=fun x y h=>match eqN 24 h x y with
 | some b=>.ok (.bl (b != neg)) h
 | none=>.bad
def inZ (h:AH) (x:D):List D->Option Bool
 | []=>some false
 | y :: ys=>match eqN 24 h y x,inZ h x ys with
  | some a,some b=>some (a || b)
  | _,_=>none
def fInX (neg:Bool):D->D->M D:=fun x y=>do
 let ys ← seqD y
 fun h=>match inZ h x ys with
  | some b=>.ok (.bl (b != neg)) h
  | none=>.bad
theorem z6G {h:AH}{x:D}:∀ {ys:List D}{b:Bool},inZ h x ys=some b->(∀ y∈ys,∃ a,eqN 24 h y x=some a)/\(b=true↔∃ y∈ys,eqN 24 h y x=some true)
 | [],b,e=>by unfold inZ at e;cases e;exact ⟨fun y hy=>(by simp at hy),by simp⟩
 | y :: ys,b,e=>by
  unfold inZ at e
  split at e
  ·rename_i a c e1 e2
   cases e
   obtain ⟨q1,q2⟩:=z6G e2
   refine ⟨fun z hz=>?_,?_⟩
   ·rcases List.mem_cons.mp hz with q | q
    ·subst q;exact ⟨_,e1⟩
    ·exact q1 z q
   ·rw [Bool.or_eq_true,q2]
    constructor
    ·rintro (q | ⟨z,hz,q⟩)
     ·exact ⟨y,by simp,by rw [e1,q]⟩
     ·exact ⟨z,by simp [hz],q⟩
    ·rintro ⟨z,hz,q⟩
     rcases List.mem_cons.mp hz with w | w
     ·subst w;rw [e1] at q;exact .inl (Option.some.inj q)
     ·exact .inr ⟨z,w,q⟩
  ·cases e
def rEqX (K:PySem.W.Frag) (neg:Bool):R2:=fun x y H Q=>∃ ρ h d1 d2 b,RH K ρ h H/\RD K ρ H d1 x/\RD K ρ H d2 y/\eqN 24 h d1 d2=some b/\Q (.bl (b != neg)) H
def rInX (K:PySem.W.Frag) (neg:Bool):R2:=fun x y H Q=>∃ ρ h d ds p xs b,RH K ρ h H/\RD K ρ H d x/\y=.ref p/\(SqL K H p xs∨SqT K H p xs)/\RDs K ρ H ds xs/\inZ h d ds=some b/\Q (.bl (b != neg)) H
section
variable {X:Cx}{EX:XX}
theorem zw0 (hu:X.A.units+30<cLine):OpR X (compareOp .Eq) (rEqX X.K false):=by
 intro pins s σ H x y v u Q I rx ry h
 obtain ⟨ρ,h,d1,d2,b,rh,r1,r2,e,q⟩:=h
 rw [Bool.bne_false] at q
 exact (deq I rh 24 (A:=X.A) (by omega) r1 r2 rx ry e).2.1 X.prog X.w X.xe (EP X pins σ Q) ⟨.bl b,H,I,rfl,q⟩
theorem zv4 (hu:X.A.units+30<cLine):OpR X (compareOp .NotEq) (rEqX X.K true):=by
 intro pins s σ H x y v u Q I rx ry h
 obtain ⟨ρ,h,d1,d2,b,rh,r1,r2,e,q⟩:=h
 rw [Bool.bne_true] at q
 exact (deq I rh 24 (A:=X.A) (by omega) r1 r2 rx ry e).2.2 X.prog X.w X.xe (EP X pins σ Q) ⟨.bl (!b),H,I,rfl,q⟩
open Classical in
theorem z62 {pins:List (Addr×Obj)}{σ:L2.St}{ρ:List Addr}{h:AH}{H:Hp}{s:Shared}{d:D}{ds:List D}{x:V}{v:Value}{xs:List V}{its:List Value}{b:Bool}(hu:X.A.units+30<cLine) (I:Inv X pins σ H s) (rh:RH X.K ρ h H) (rx:RD X.K ρ H d x) (wx:RelV x v) (rs:RDs X.K ρ H ds xs) (ws:Vals xs its) (e:inZ h d ds=some b) :
 ∃ f:Value->Bool,(∀ y∈its,SeqAt.EqAt X.A.in1 s y v (f y))/\its.any f=b:=by
 obtain ⟨q1,q2⟩:=z6G e
 have ex:∀ y∈its,∃ a z w,z∈ds/\RD X.K ρ H z w/\RelV w y/\eqN 24 h z d=some a:=fun y hy=>by
  obtain ⟨j,hj⟩:=List.getElem?_of_mem hy
  have lj:=(List.getElem?_eq_some_iff.mp hj).1
  have a1:xs[j]?=some (xs[j]'(by rw [ws.length];exact lj)):=List.getElem?_eq_getElem _
  obtain ⟨y',c1,a2⟩:=ws.get a1
  rw [hj] at c1
  cases c1
  obtain ⟨z,b1,b2⟩:=rs.getV a1
  have zm:=List.mem_of_getElem? b1
  obtain ⟨a,c⟩:=q1 z zm
  exact ⟨a,z,_,zm,b2,a2,c⟩
 have key:∀ y∈its,∀ a,(∃ z w,z∈ds/\RD X.K ρ H z w/\RelV w y/\eqN 24 h z d=some a)->SeqAt.EqAt X.A.in1 s y v a:=fun y hy a ⟨z,w,zm,r1,r2,c⟩ =>
  (deq I rh 24 (A:=X.A.in1) (show X.A.units+1+24<cLine by omega) r1 rx r2 wx c).1
 refine ⟨fun y=>decide (∃ z w,z∈ds/\RD X.K ρ H z w/\RelV w y/\eqN 24 h z d=some true),fun y hy=>?_,?_⟩
 ·by_cases c:∃ z w,z∈ds/\RD X.K ρ H z w/\RelV w y/\eqN 24 h z d=some true
  ·dsimp only
   rw [decide_eq_true c]
   exact key y hy true c
  ·dsimp only
   rw [decide_eq_false c]
   obtain ⟨a,z,w,g⟩:=ex y hy
   cases a with
   | false=>exact key y hy false ⟨z,w,g⟩
   | true=>exact absurd ⟨z,w,g⟩ c
 ·rw [Bool.eq_iff_iff,q2,List.any_eq_true]
  constructor
  ·rintro ⟨y,hy,c⟩
   obtain ⟨z,w,zm,_,_,c⟩:=of_decide_eq_true c
   exact ⟨z,zm,c⟩
  ·rintro ⟨z,zm,c⟩
   obtain ⟨j,hj⟩:=List.getElem?_of_mem zm
   obtain ⟨w,a1,a2⟩:=rs.get hj
   obtain ⟨y,b1,b2⟩:=ws.get a1
   exact ⟨y,List.mem_of_getElem? b1,decide_eq_true ⟨z,w,zm,a2,b2,c⟩⟩
theorem zn4 (hu:X.A.units+30<cLine):OpR X (compareOp .In) (rInX X.K false):=by
 intro pins s σ H x y v u Q I rx ry h
 obtain ⟨ρ,h,d,ds,p,xs,b,rh,r1,rfl,sq,rs,e,q⟩:=h
 cases ry
 rw [Bool.bne_false] at q
 rcases sq with sq | sq
 ·obtain ⟨its,ws,pl,_⟩:=I.list sq
  obtain ⟨f,f1,f2⟩:=z62 hu I rh r1 rx rs ws e
  refine SeqAt.in_listAt f pl.isList (fun y hy=>f1 y (by simpa using hy)) ⟨.bl b,H,I,?_,q⟩
  rw [show its.toArray.any f=its.any f by simp,f2];rfl
 ·obtain ⟨its,ws,pl,_⟩:=I.tuple sq
  obtain ⟨f,f1,f2⟩:=z62 hu I rh r1 rx rs ws e
  refine SeqAt.in_tupleAt f pl (fun y hy=>f1 y (by simpa using hy)) ⟨.bl b,H,I,?_,q⟩
  rw [show its.toArray.any f=its.any f by simp,f2];rfl
theorem z9Y {neg:Bool}:BR X.K EX (rEqX X.K neg) (fEqX neg):=by
 intro ρ h H x y v u Q r rx ry fin
 unfold fEqX at fin
 cases e:eqN 24 h x y with
 | none=>rw [e] at fin;exact fin.elim
 | some b=>rw [e] at fin;exact ⟨ρ,h,x,y,b,r,rx,ry,e,FE.here fin r (by simp [RD])⟩
theorem zm9 {neg:Bool}:BR X.K EX (rInX X.K neg) (fInX neg):=by
 intro ρ h H x y v u Q r rx ry fin
 have f1:=Fin.bind fin
 cases e:seqD y h with
 | bad=>rw [e] at f1;exact f1.elim
 | err z hz=>exact (z3C e).elim
 | ok ys h1 =>
  obtain ⟨rfl,q,xs,rfl,hs,hd⟩:=z35 r ry e
  rw [e] at f1
  have f2:=f1 ρ H (Pre.refl _) (Ext.refl _ _) r
  dsimp only at f2
  cases e2:inZ h1 x ys with
  | none=>rw [e2] at f2;exact f2.elim
  | some b=>rw [e2] at f2;exact ⟨ρ,h1,x,ys,q,xs,b,r,rx,rfl,hs,hd,e2,FE.here f2 r (by simp [RD])⟩
theorem z0i (hu:X.A.units+30<cLine):CO X EX .Eq (fEqX false):=⟨_,zw0 hu,z9Y⟩
theorem z6d (hu:X.A.units+30<cLine):CO X EX .NotEq (fEqX true):=⟨_,zv4 hu,z9Y⟩
theorem z9R (hu:X.A.units+30<cLine):CO X EX .In (fInX false):=⟨_,zn4 hu,zm9⟩
theorem hu30 {A:Around}{k:Nat}(hr:Room k A):A.units+30<cLine:=Nat.lt_of_le_of_lt (Nat.add_le_add_left (by decide:30≤64) _) hr.units
end
variable {α β:Type}
theorem Z8 (a:α) (f:α->M β):((Pure.pure a:M α) >>= f)=f a:=by funext h;rfl
theorem bindB (f:α->M β):((bad:M α) >>= f)=bad:=by funext h;rfl
theorem W_eq {m:M α}{v:α}{h:AH}{Q:α->AH->Prop}(e:m=pure v) (q:Q v h):W m h Q:=by rw [e,W_pure];exact q
theorem zs8 {xs:List D}{h:AH}{Q:D->AH->Prop}(hl:xs.length≤1000000) (q:Q (.ref h.length) (h++[.lst xs])):W (newL xs) h Q :=
 ⟨_,_,by unfold newL;rw [if_pos (Nat.le_trans hl (by decide))],q⟩
mutual
theorem z3r {m n:Nat}(h:m≤n):∀ {d:D},z01 m d=true->z01 n d=true
 | .non,_=>rfl
 | .bl _,_=>rfl
 | .int _,_=>rfl
 | .str _,_=>rfl
 | .tup ds,c=>by simp only [z01] at c ⊢;exact z2p h c
 | .fl ds,c=>by simp only [z01] at c ⊢;exact z2p h c
 | .ref i,c=>by simp only [z01,decide_eq_true_eq] at c ⊢;omega
theorem z2p {m n:Nat}(h:m≤n):∀ {d:List D},x6 m d=true->x6 n d=true
 | [],_=>rfl
 | d :: r,c=>by simp only [x6,Bool.and_eq_true] at c ⊢;exact ⟨z3r h c.1,z2p h c.2⟩
end
theorem z3P {n:Nat}:∀ {xs:List D},(∀ x∈xs,z01 n x=true)->x6 n xs=true
 | [],_=>rfl
 | x :: r,h=>by simp only [x6,Bool.and_eq_true];exact ⟨h x (by simp),z3P fun y hy=>h y (by simp [hy])⟩
theorem z14 {n:Nat}{ι:Type}{f:ι->D}{l:List ι}(h:∀ a,z01 n (f a)=true):x6 n (l.map f)=true:=z3P fun x hx=>by
 obtain ⟨a,_,rfl⟩:=List.mem_map.mp hx
 exact h a
theorem z4K {m:M D}{h:AH}{d:D}{j:AH}(e:m h=.ok d (h++j)) (c:z01 h.length d=true):cln m h=.ok d h:=by
 unfold cln
 rw [e]
 dsimp only
 rw [if_pos ⟨by simp,z4H _ _⟩,if_pos c]
 simp
theorem z5v {m:M D}{h:AH}{i:Nat}{xs:List D}{j:AH}(e:m h=.ok (.ref i) (h++j)) (hi:h.length≤i) (ei:(h++j)[i]?=some (.lst xs)) (c:x6 h.length xs=true):cln m h=.ok (.ref h.length) (h++[.lst xs]):=by
 unfold cln
 rw [e]
 dsimp only
 rw [if_pos ⟨by simp,z4H _ _⟩,if_neg (by simp only [z01,decide_eq_true_eq];omega),ei]
 dsimp only
 rw [if_pos (show refO h.length (.lst xs)=true from c)]
 simp
theorem v3 (d:D):cln (pure d)=pure d:=funext fun h=>by
 unfold cln
 rw [pureM]
 dsimp only
 rw [if_pos ⟨Nat.le_refl _,fun _ _ _ e=>.inl e⟩]
 split
 ·simp
 ·rename_i nd
  split
  ·rename_i i
   simp only [z01,decide_eq_true_eq] at nd
   rw [List.getElem?_eq_none (by omega)]
  ·rfl
theorem z5m {m:M D}{v:D}(c:z01 0 v=true) (z:∀ h,W m h fun a h'=>a=v/\∃ j,h'=h++j):cln m=pure v:=funext fun h=>by
 obtain ⟨a,h',e,rfl,j,rfl⟩:=z h
 exact z4K e (z3r (Nat.zero_le _) c)
theorem z9Z {m:M D}{xs:List D}(c:x6 0 xs=true) (hl:xs.length≤1000000) (z:∀ h,W m h fun a h'=>∃ i j,a=.ref i/\h'=h++j/\h.length≤i/\h'[i]?=some (.lst xs)):cln m=newL xs:=funext fun h=>by
 obtain ⟨a,h',e,i,j,rfl,rfl,hi,ei⟩:=z h
 rw [z5v e hi ei (z2p (Nat.zero_le _) c)]
 unfold newL
 rw [if_pos (Nat.le_trans hl (by decide))]
theorem z9v {m:G->M D}{γ:G}{v:D}(c:z01 0 v=true) (z:∀ h,W (m γ) h fun a h'=>a=v/\∃ j,h'=h++j):clE m γ=pure v:=z5m c z
theorem z9E {m:G->M Bool}{γ:G}{h:AH}{d:Bool}{j:AH}(e:m γ h=.ok d (h++j)):clT m γ h=.ok d h:=by
 unfold clT
 rw [e]
 dsimp only
 rw [if_pos ⟨by simp,z4H _ _⟩]
 simp
theorem z6e {cap:List (Option Nat)}{mi:G->M Src}{g:D->G->M G}{k:G->M Bool}{me:G->M D}{γ:G}{src:Src}{h:AH}(p:D->Bool) (f:D->D) (hi:mi γ h=.ok src h) (hg:∀ j,src.good (h++j)) (hl:src.items.length≤1000000)
 (hd:∀ d∈src.items,∃ γ1,g d (capG cap γ)=pure γ1/\k γ1=pure (p d)/\(p d=true->me γ1=pure (f d))):x8 cap mi g k me γ h=newL ((src.items.filter p).map f) h:=by
 rw [z44 p f hi hg hl fun d m=>let ⟨γ1,e1,e2,e3⟩:=hd d m;⟨γ1,fun h=>by rw [e1];rfl,fun j=>by rw [e2];rfl,fun q j=>by rw [e3 q];rfl⟩]
 unfold newL
 rw [if_pos]
 refine Nat.le_trans ?_ (show 1000000≤sizeLine by decide)
 rw [List.length_map]
 exact Nat.le_trans (List.length_filter_le _ _) hl
theorem z2n {cap:List (Option Nat)}{mi:G->M Src}{g:D->G->M G}{k:G->M Bool}{me:G->M D}{γ:G}{items:List D}(p:D->Bool) (f:D->D) (hi:mi γ=pure (.con items)) (hl:items.length≤1000000)
 (hd:∀ d∈items,∃ γ1,g d (capG cap γ)=pure γ1/\k γ1=pure (p d)/\(p d=true->me γ1=pure (f d))):x8 cap mi g k me γ=newL ((items.filter p).map f) :=
 funext fun h=>z6e (src:=.con items) p f (by rw [hi];rfl) (fun _=>trivial) hl hd
theorem zi4 {m:G->M D}{γ:G}{xs:List D}{f:List D->M D}{v:D}(e:m γ=newL xs) (hl:xs.length≤1000000) (c:z01 0 v=true) (q:∀ n h,h[n]?=some (.lst xs)->f [.ref n] h=.ok v h):clE (j3 f (z9 m aNil)) γ=pure v:=z9v c fun h=>by
 simp only [j9,W_pure,z1F,z1e,z4Z,z0r,z1O,sAsg,z1h,sRet,sIf,FT.e2,FT.e3,eVar,gN,gIx,eFn,z9,aNil,j3,eTup,eLst,eM1,eM0,eMS,z4A,eIsi,z4J,z3e,z4v,z2s,q5,z0b,cVal,cNot,cAnd,cOr,eAnd,eOr,eNot,eIf,z0e,z0d,J9,List.getElem?_cons_succ,List.getElem?_cons_zero,List.set_cons_succ,List.set_cons_zero,List.length_cons,List.length_nil,Nat.reduceAdd,if_true,if_false,Bool.not_true,Bool.not_false,ite_true,ite_false,reduceIte,Bool.false_eq_true,reduceCtorEq,z1W,z1J,z4S,z4f,z2R,z57,z2E,e]
 refine zs8 hl ?_
 exact W.of (q _ _ (by simp)) ⟨rfl,_,rfl⟩
theorem z7w:∀ bs:List Bool,blsD (bs.map .bl)=some bs
 | []=>rfl
 | b :: r=>by simp [blsD,z7w r]
theorem zp0 {m:G->M D}{γ:G}{bs:List Bool}(any:Bool) (e:m γ=newL (bs.map .bl)) (hl:bs.length≤1000000):clE (j3 (fAll any) (z9 m aNil)) γ=pure (.bl (if any then bs.any id else bs.all id)) :=
 zi4 e (by simpa using hl) rfl fun n h q=>by unfold fAll getL;simp [q,z7w]
theorem z2Q {cap:List (Option Nat)}{mi:G->M Src}{g:D->G->M G}{k:G->M Bool}{me:G->M D}{γ:G}{items:List D}(any:Bool) (p:D->Bool) (f:D->Bool) (hi:mi γ=pure (.con items)) (hl:items.length≤1000000)
 (hd:∀ d∈items,∃ γ1,g d (capG cap γ)=pure γ1/\k γ1=pure (p d)/\(p d=true->me γ1=pure (.bl (f d)))):clE (j3 (fAll any) (z9 (x8 cap mi g k me) aNil)) γ=pure (.bl (if any then (items.filter p).any f else (items.filter p).all f)):=by
 rw [zp0 (bs:=(items.filter p).map f) any (by rw [z2n p (fun d=>.bl (f d)) hi hl hd,List.map_map];rfl) (by rw [List.length_map];exact Nat.le_trans (List.length_filter_le _ _) hl)]
 cases any<;>simp [Function.comp_def]
theorem filter_tt {l:List α}:l.filter (fun _=>true)=l:=by induction l<;>simp_all
theorem z0t {n:Nat}{mb:G->M Out}{ds:List D}{d:D}(e:mb (z2k n ds)=pure (.rt d)):runF n mb ds=pure d:=by unfold runF;rw [e];rfl
theorem ix0 {a:D}{r:List D}:fIx (.tup (a :: r)) (.int 0)=pure a:=ix_tup (by simp [atI,ixN])
theorem ix1 {a b:D}{r:List D}:fIx (.tup (a :: b :: r)) (.int 1)=pure b:=ix_tup (z03 (j:=1) rfl)
theorem ix2 {a b c:D}{r:List D}:fIx (.tup (a :: b :: c :: r)) (.int 2)=pure c:=ix_tup (z03 (j:=2) rfl)
theorem ixl2 {a b:D}:fIx (.tup [a,b]) (.int (-1))=pure b:=ix_tup rfl
theorem ixl3 {a b c:D}:fIx (.tup [a,b,c]) (.int (-1))=pure c:=ix_tup rfl
theorem z0C {x y:Str}{b:Bool}:fEq b (.str x) (.str y)=pure (.bl (decide (x=y) != b)):=rfl
theorem z4a:((2:Nat)≤sizeLine)=True:=by simp [sizeLine]
theorem z4n:((3:Nat)≤sizeLine)=True:=by simp [sizeLine]
end FT
namespace FT
open PySem PySem.Spec PyProof.Rows L2
def nx (st:List (List Nat)) (a:Nat):List Nat:=(st[a]?).getD []
theorem z1y (st:List (List Nat)):(stsD st).length=st.length:=by unfold stsD;simp
theorem zt0 {st:List (List Nat)}{a:Nat}(ha:a<st.length):atI (stsD st) (a:Int)=some (.tup (stD (nx st a))):=by
 refine z03 ?_
 unfold stsD nx
 rw [List.getElem?_map,List.getElem?_eq_getElem ha]
 rfl
theorem z2L {st:List (List Nat)}{mk:List (List Str)}:fIx (maD st mk) (.int 0)=pure (.tup (stsD st)):=ix_tup rfl
theorem z6q {st:List (List Nat)}{a:Nat}(ha:a<st.length):fIx (.tup (stsD st)) (.int a)=pure (.tup (stD (nx st a))):=ix_tup (zt0 ha)
theorem z7r:∀ l:List Nat,(stD l).all z1j=true
 | []=>rfl
 | _ :: l=>z7r l
theorem za3 (x:Nat):∀ l:List Nat,((stD l).any fun z=>eqF z (.int x))=decide (x∈l)
 | []=>by simp [stD]
 | b :: l=>by
  rw [show stD (b :: l)=.int b :: stD l from rfl,List.any_cons,za3 x l]
  simp only [eqF]
  rw [Bool.eq_iff_iff]
  simp only [Bool.or_eq_true,beq_iff_eq,decide_eq_true_eq,List.mem_cons]
  constructor
  ·rintro (h | h)
   ·left;omega
   ·exact .inr h
  ·rintro (h | h)
   ·left;omega
   ·exact .inr h
theorem z73 {x:Nat}{l:List Nat}{neg:Bool}:fIn neg (.int x) (.tup (stD l))=pure (.bl (decide (x∈l) != neg)):=by
 unfold fIn seqD
 show (if z1j (.int x) && (stD l).all z1j then _ else _)=_
 rw [z7r,za3]
 rfl
theorem Y2 (l:List Nat):(stD l).length=l.length:=by unfold stD;simp
def zN (l:List Nat):List Int:=l.map fun (i:Nat)=>(i:Int)
theorem z6E:∀ l:List Nat,z3J (stD l)=some (zN l)
 | []=>rfl
 | a :: l=>by
  show (z3J (stD l)).map _=_
  rw [z6E l]
  rfl
theorem z7T {S:List Nat}{n:Nat}(nd:S.Nodup) (hm:∀ x∈S,x<n):S.length≤n:=by
 have:=nd.length_le_of_subset (l₂:=List.range n) (fun x hx=>List.mem_range.mpr (hm x hx))
 rwa [List.length_range] at this
theorem z4e (l:List Nat) (x:Nat):stD l++[.int x]=stD (l++[x]):=by unfold stD;simp
theorem z6m {l:List Nat}{i:Nat}{d:D}(h:(stD l)[i]?=some d):∃ b:Nat,d=.int b/\l[i]?=some b:=by
 unfold stD at h
 rw [List.getElem?_map] at h
 obtain ⟨b,e1,e2⟩:=Option.map_eq_some_iff.mp h
 exact ⟨b,e2.symm,e1⟩
theorem z4F {cap:List (Option Nat)}{mi:G->M Src}{g:D->G->M G}{k:G->M Bool}{me:G->M D}{γ:G}{src:Src}{h h1:AH}(p:D->Bool) (f:D->D) (hi:mi γ h=.ok src h1) (hg:∀ j,src.good (h1++j)) (hl:src.items.length≤1000000)
 (hd:∀ d∈src.items,∃ γ1,g d (capG cap γ)=pure γ1/\k γ1=pure (p d)/\(p d=true->me γ1=pure (f d))):x8 cap mi g k me γ h=newL ((src.items.filter p).map f) h1:=by
 rw [← z6e (mi:=fun _=>pure src) (cap:=cap) (γ:=γ) p f rfl hg hl hd]
 unfold x8
 rw [M.bind_ok hi]
 rfl
section
variable {ma:G->M D}{g:D->G->M G}{k:G->M Bool}{ms mr mt:G->M Out}{γ γ':G}{h h1:AH}{d:D}{b:Bool}{Q:Out->AH->Prop}
theorem z1R (d:D) (γ':G) (e:ma γ=pure d) (eg:g d γ=pure γ') (z:W (mt γ') h Q):W (Z2 (sAsg ma g) mt γ) h Q:=by
 rw [w_cons];unfold sAsg;rw [e,Z8,eg,Z8,W_pure];exact z
theorem z0p (d:D) (γ':G) (e:ma γ h=.ok d h1) (eg:g d γ=pure γ') (z:W (mt γ') h1 Q):W (Z2 (sAsg ma g) mt γ) h Q:=by
 rw [w_cons];unfold sAsg;rw [j9];refine W.of e ?_;rw [eg,Z8,W_pure];exact z
theorem z3Z {i:Nat}(z:W (ma γ) h fun d h1=>W (mt (γ.set i (some d))) h1 Q):W (Z2 (sAsg ma (gN i)) mt γ) h Q:=by
 rw [w_cons];unfold sAsg gN;rw [j9];refine z.mono fun d h1 q=>?_;rw [Z8,W_pure];exact q
theorem q_if (b:Bool) (e:k γ=pure b) (z:W (Z2 (if b=true then ms else mr) mt γ) h Q):W (Z2 (sIf k ms mr) mt γ) h Q:=by
 rw [w_cons] at z ⊢;unfold sIf;rw [e,Z8]
 cases b<;>exact z
theorem zd6 (b:Bool) (e:k γ h=.ok b h) (z:W (Z2 (if b=true then ms else mr) mt γ) h Q):W (Z2 (sIf k ms mr) mt γ) h Q:=by
 rw [w_cons] at z ⊢;unfold sIf;rw [j9];refine W.of e ?_
 cases b<;>exact z
theorem z5u (d:D) (e:ma γ=pure d) (z:Q (.rt d) h):W (Z2 (sRet ma) mt γ) h Q:=by
 rw [w_cons];unfold sRet;rw [e,Z8,W_pure];exact z
theorem Y9 (d:D) (e:ma γ h=.ok d h1) (z:Q (.rt d) h1):W (Z2 (sRet ma) mt γ) h Q:=by
 rw [w_cons];unfold sRet;rw [j9];refine W.of e ?_;rw [W_pure];exact z
theorem z9H (z:W (ma γ) h fun d h1=>Q (.rt d) h1):W (Z2 (sRet ma) mt γ) h Q:=by
 rw [w_cons];unfold sRet;rw [j9];refine z.mono fun d h1 q=>?_;rw [W_pure];exact q
theorem z7I (z:W (ma γ) h fun d h1=>W (mt γ) h1 Q):W (Z2 (z1h ma) mt γ) h Q:=by
 rw [w_cons];unfold z1h;rw [j9];refine z.mono fun d h1 q=>?_;rw [W_pure];exact q
theorem z0m (z:W (mt γ) h Q):W (Z2 bNil mt γ) h Q:=by rw [w_cons,z4Z];exact z
theorem z1a {Q:Out->AH->Prop}(z:Q (.nx γ) h):W (bNil γ) h Q:=by rw [z4Z];exact z
theorem zb1 {mb:G->M D}(e:ma γ=pure (.bl true)):eAnd ma mb γ=mb γ:=by unfold eAnd;rw [e];rfl
theorem zA4 {mb:G->M D}(e:ma γ=pure (.bl true)):eOr ma mb γ=pure (.bl true):=by unfold eOr;rw [e];rfl
theorem zz9 {mb:G->M D}(e:ma γ=pure (.bl false)):eOr ma mb γ=mb γ:=by unfold eOr;rw [e];rfl
theorem zj8 {l:G->M Bool}(e:k γ h=.ok true h):cAnd k l γ h=l γ h:=by unfold cAnd;rw [M.bind_ok e];rfl
theorem zc9 {l:G->M Bool}(e:k γ h=.ok false h):cAnd k l γ h=.ok false h:=by unfold cAnd;rw [M.bind_ok e];rfl
theorem zt9 {l:G->M Bool}(e:k γ h=.ok true h):cOr k l γ h=.ok true h:=by unfold cOr;rw [M.bind_ok e];rfl
theorem zu4 {l:G->M Bool}(e:k γ h=.ok false h):cOr k l γ h=l γ h:=by unfold cOr;rw [M.bind_ok e];rfl
theorem z87 (d:D) (γ':G) (e:ma γ=pure d) (eg:g d γ=pure γ'):Z2 (sAsg ma g) mt γ=mt γ':=by
 unfold Z2 sAsg;rw [e,Z8,eg,Z8,Z8]
theorem z2W (d:D) (e:ma γ=pure d):Z2 (sRet ma) mt γ=pure (.rt d):=by
 unfold Z2 sRet;rw [e,Z8,Z8]
theorem p_if (b:Bool) (e:k γ=pure b):Z2 (sIf k ms mr) mt γ=Z2 (if b=true then ms else mr) mt γ:=by
 unfold Z2 sIf;rw [e,Z8];cases b<;>rfl
theorem z3b:Z2 bNil mt γ=mt γ:=by unfold Z2 bNil;rw [Z8]
theorem zu8 {ms1 ms2:G->M Out}:Z2 (Z2 ms1 ms2) mt γ=Z2 ms1 (Z2 ms2 mt) γ:=by
 funext h
 unfold Z2
 simp only [bindM]
 cases ms1 γ h with
 | ok o h1=>cases o<;>rfl
 | err x h1=>rfl
 | bad=>rfl
theorem z0T {ms1 ms2:G->M Out}(z:W (Z2 ms1 (Z2 ms2 mt) γ) h Q):W (Z2 (Z2 ms1 ms2) mt γ) h Q:=by
 rw [w_cons] at z ⊢
 rw [w_cons]
 refine z.mono fun o h1 q=>?_
 cases o with
 | nx γ=>exact w_cons.mp q
 | rt d=>exact q
 | bk d=>exact q
 | ct d=>exact q
end
theorem z4C {mc:G->M D}{γ:G}{h h1:AH}{xs:List D}{neg:Bool}(e:mc γ h=newL xs h1) (hl:xs.length≤1000000):e2 (fEqX neg) mc (eLst aNil) γ h=.ok (.bl (xs.isEmpty != neg)) (h1++[.lst xs]++[.lst []]):=by
 have e':mc γ h=.ok (.ref h1.length) (h1++[.lst xs]):=by rw [e];unfold newL;rw [if_pos (Nat.le_trans hl (by decide))]
 show (mc γ >>= _) h=_
 rw [M.bind_ok e']
 have e2':eLst aNil γ (h1++[.lst xs])=.ok (.ref (h1++[O.lst xs]).length) (h1++[.lst xs]++[.lst []]):=by
  unfold eLst aNil newL
  simp
 rw [M.bind_ok e2']
 have v1:vw (h1++[O.lst xs]++[O.lst []]) (.ref h1.length)=.lst xs:=by unfold vw;simp
 have v2:vw (h1++[O.lst xs]++[O.lst []]) (.ref (h1++[O.lst xs]).length)=.lst []:=by unfold vw;simp
 unfold fEqX eqN
 rw [v1,v2]
 cases xs<;>rfl
theorem zj5 {mc:G->M D}{γ:G}{h j:AH}{xs:List D}{neg:Bool}(e:mc γ h=newL xs (h++j)) (hl:xs.length≤1000000):clT (fun γ=>do let d ← e2 (fEqX neg) mc (eLst aNil) γ;asB d) γ h=.ok (xs.isEmpty != neg) h :=
 z9E (j:=j++([.lst xs]++[.lst []])) (by rw [M.bind_ok (z4C e hl)];simp [asB])
theorem z2N {x:Str}{l:List Str}{neg:Bool}:fIn neg (.str x) (.tup (l.map .str))=pure (.bl (decide (x∈l) != neg)):=by
 unfold fIn seqD
 show (if z1j (.str x) && (l.map D.str).all z1j then _ else _)=_
 rw [z3y,z5B]
 rfl
theorem z3x (xs:List D) (n:Nat):cutD xs none (some (n:Int))=xs.take n:=by
 unfold cutD
 rw [HT.sIx_none,HT.sIx_nat]
 simp [List.take_take]
theorem z4O (xs:List D) (n:Nat):cutD xs (some (n:Int)) none=xs.drop n:=by
 unfold cutD
 rw [HT.sIx_none,HT.sIx_nat]
 by_cases h:n≤xs.length
 ·rw [show min n xs.length=n by omega,List.take_of_length_le (by simp)]
 ·rw [show min n xs.length=xs.length by omega]
  simp
  omega
theorem sl_tup {x:List D}{lo hi:Option Int}:fSl (.tup x) lo hi=pure (.tup (cutD x lo hi)):=rfl
def rnD (p r:List Nat):D:=.tup [.tup (stD p),.tup (stD r)]
def sAt (p r:List Nat) (n:Nat):Nat:=if n<p.length then (p[n]?).getD 0 else (r[(n - p.length) % r.length]?).getD 0
theorem z7s {p r:List Nat}{n:Nat}(hr:0<r.length) (h:¬ n<p.length):((n:Int) - p.length) % r.length=((n - p.length) % r.length:Nat):=by
 rw [Int.natCast_emod];congr 1;omega
theorem zv7 (p r:List Nat):stD p++stD r=stD (p++r):=by unfold stD;simp
theorem z59 {d:D}{l:List Nat}(h:d∈stD l):∃ x,x∈l/\d=.int (x:Nat):=by
 obtain ⟨x,hx,rfl⟩:=List.mem_map.mp h
 exact ⟨x,hx,rfl⟩
def numD:D->Nat
 | .int i=>i.toNat
 | _=>0
theorem ze7 (l:List Nat) (f:Nat->Bool):(stD l).any (fun d=>f (numD d))=l.any f:=by unfold stD;rw [List.any_map];rfl
theorem zv1 {p r:List Nat}{n:Nat}(h:n<p.length+r.length):(p++r)[n]?=some (sAt p r n):=by
 unfold sAt
 by_cases h1:n<p.length
 ·rw [if_pos h1,List.getElem?_append_left h1,List.getElem?_eq_getElem h1];rfl
 ·rw [if_neg h1,List.getElem?_append_right (by omega),Nat.mod_eq_of_lt (by omega),List.getElem?_eq_getElem (by omega)];rfl
theorem zd5 (l:List Nat) (f:Nat->Bool):((stD l).filter (fun d=>f (numD d))).map (fun d=>d)=stD (l.filter f):=by
 unfold stD
 rw [List.filter_map,List.map_id']
 rfl
def CL (r:AH):Prop:=True
theorem CL.app {r j:AH}(a:CL r) (b:CL j):CL (r++j):=trivial
theorem CL.one {xs:List D}(h:x6 3 xs=true):CL [.lst xs]:=trivial
theorem CL.put {r:AH}{xs:List D}(a:CL r) (h:x6 3 xs=true):CL (r++[.lst xs]):=a.app (.one h)
theorem z37 {n:Nat}(l:List Str):x6 n (l.map .str)=true:=z14 fun _=>rfl
theorem z5g {n:Nat}(l:List Int):x6 n (l.map .int)=true:=z14 fun _=>rfl
theorem z2h {n:Nat}(l:List Nat):x6 n (stD l)=true:=z14 fun _=>rfl
theorem zb0 {n:Nat}(l:List Nat):z01 n (.tup (stD l))=true:=by simp only [z01];exact z2h l
theorem z9O {n:Nat}(p r:List Nat):z01 n (rnD p r)=true:=by unfold rnD;simp only [z01,x6,Bool.and_true,Bool.and_eq_true];exact ⟨z2h p,z2h r⟩
theorem z8c {gr sm:List Int}{s c:Int}{r j:AH}:(Pool gr sm s c (r++j)).take (r.length+3)=Pool gr sm s c r:=by
 unfold Pool
 simp
theorem z7W {gr sm gr' sm':List Int}{s c s' c':Int}{r j:AH}:Kept (Pool gr sm s c r) (Pool gr' sm' s' c' (r++j)):=fun i o li e=>by
 have l3:(Pool gr sm s c r).length=r.length+3:=rfl
 rw [l3] at li ⊢
 match i,e with
 | 0,e=>cases e;exact .inr (z5g _)
 | 1,e=>cases e;exact .inr (z5g _)
 | 2,e=>cases e;exact .inr (by simp [refO,x6,z01])
 | i+3,e =>
  left
  have e:(r++j)[i]?=some o:=e
  rw [List.getElem?_append_left (by omega)] at e
  exact e
theorem z5P {h h1:AH}{k k':Int}{r j:AH}(p:PS h k r) (q:CL r) (p1:PS h1 k' (r++j)):(h.length≤h1.length/\Kept h h1)/\PS (h1.take h.length) k' r:=by
 have l:=p.len
 have l1:=p1.len
 obtain ⟨gr,sm,s,c,rfl,g⟩:=p1
 obtain ⟨gr0,sm0,s0,c0,rfl,g0⟩:=p
 refine ⟨⟨by rw [List.length_append] at l1;omega,z7W⟩,?_⟩
 rw [show (Pool gr0 sm0 s0 c0 r).length=r.length+3 from rfl,z8c]
 exact ⟨gr,sm,s,c,rfl,g⟩
theorem z5j {m:M D}{h:AH}{k:Int}{r:AH}{Q:D->AH->Prop}(p:PS h k r) (q:CL r) (z:W m h fun d h1=>∃ k' j,PS h1 k' (r++j)/\z01 3 d=true/\∀ h2,PS h2 k' r->Q d h2):W (cln m) h Q:=by
 obtain ⟨d,h1,e,k',j,p1,rd,f⟩:=z
 obtain ⟨c1,c2⟩:=z5P p q p1
 refine ⟨d,h1.take h.length,?_,f _ c2⟩
 unfold cln
 rw [e]
 dsimp only
 rw [if_pos c1,if_pos (z3r (by rw [p.len];omega) rd)]
theorem za2 {m:M D}{h:AH}{k:Int}{r:AH}{Q:D->AH->Prop}(p:PS h k r) (q:CL r) (z:W m h fun d h1=>∃ k' j i xs,d=.ref (i+3)/\PS h1 k' (r++j)/\r.length≤i/\(r++j)[i]?=some (.lst xs)/\x6 3 xs=true/\∀ h2,PS h2 k' (r++[.lst xs])->Q (.ref (r.length+3)) h2):W (cln m) h Q:=by
 obtain ⟨d,h1,e,k',j,i,xs,rfl,p1,hi,ei,rd,f⟩:=z
 obtain ⟨c1,c2⟩:=z5P p q p1
 have l:=p.len
 refine ⟨.ref (r.length+3),h1.take h.length++[.lst xs],?_,f _ (c2.app _)⟩
 unfold cln
 rw [e]
 dsimp only
 rw [if_pos c1,if_neg (by simp only [z01,decide_eq_true_eq];omega),p1.get,ei]
 dsimp only
 rw [if_pos (show refO h.length (.lst xs)=true from z2p (by omega) rd),l]
theorem zh3 {m:G->M D}{γ:G}{h:AH}{k:Int}{r:AH}{Q:D->AH->Prop}(p:PS h k r) (q:CL r) (z:W (m γ) h fun d h1=>∃ k' j,PS h1 k' (r++j)/\z01 3 d=true/\∀ h2,PS h2 k' r->Q d h2):W (clE m γ) h Q:=z5j p q z
section
variable {h:AH}{k:Int}{r l:AH}{i:Nat}{xs:List D}{v:D}
theorem at_E:(r++l)[r.length+i]?=l[i]?:=by rw [List.getElem?_append_right (by omega)];congr 1;omega
theorem zB5 {o:O}:(r++l).set (r.length+i) o=r++l.set i o:=by
 rw [List.set_append_right _ _ (by omega)]
 congr 2
 omega
theorem z5R {Q:List D->AH->Prop}(p:PS h k (r++l)) (e:l[i]?=some (.lst xs)) (q:Q xs h):W (getL (r.length+i+3)) h Q:=z3B p (by rw [at_E];exact e) q
theorem z7u {Q:D->AH->Prop}(p:PS h k (r++l)) (hl:xs.length≤1000000) (z:∀ h',PS h' k (r++(l++[.lst xs]))->Q (.ref (r.length+l.length+3)) h'):W (newL xs) h Q :=
 z2X p hl fun h' p'=>by rw [List.append_assoc] at p';have:=z h' p';rwa [List.length_append]
theorem z7C {Q:D->AH->Prop}(p:PS h k (r++l)) (e:l[i]?=some (.lst xs)) (hl:xs.length<1000000) (z:∀ h',PS h' k (r++l.set i (.lst (xs++[v])))->Q .non h'):W (z09 (r.length+i+3) v) h Q :=
 z4p p (by rw [at_E];exact e) hl fun h' p'=>z h' (by rw [zB5] at p';exact p')
theorem zr1 {j:Int}{d:D}{Q:D->AH->Prop}(p:PS h k (r++l)) (e:l[i]?=some (.lst xs)) (a:atI xs j=some d) (q:Q d h):W (fIx (.ref (r.length+i+3)) (.int j)) h Q:=ze5 p (by rw [at_E];exact e) a q
theorem z9X {Q:D->AH->Prop}(p:PS h k (r++l)) (e:l[i]?=some (.lst xs)) (q:Q (.int xs.length) h):W (fLen [.ref (r.length+i+3)]) h Q:=z9W p (by rw [at_E];exact e) q
theorem z3j {Q:D->AH->Prop}(p:PS h k (r++l)) (e:l[i]?=some (.lst xs)) (q:Q (.tup xs) h):W (z0w [.ref (r.length+i+3)]) h Q:=by
 have ft:∀ i:Nat,z0w [.ref i]=(do let x ← getL i;pure (.tup x)):=fun _=>rfl
 rw [ft,j9]
 refine z5R p e ?_
 rw [W_pure]
 exact q
theorem z8F {Q:Nat->AH->Prop}(p:PS h k (r++l)) (e:l[i]?=some (.lst xs)) (q:Q (r.length+i+3) h):W (z38 (.ref (r.length+i+3))) h Q:=by
 rw [z4A]
 exact z5R p e q
theorem zt2 {j:Nat}{ys:List D}{Q:D->AH->Prop}(p:PS h k (r++l)) (e:l[i]?=some (.lst xs)) (e2:(r++l)[j]?=some (.lst ys)) (hl:xs.length+ys.length≤1000000) (z:∀ h',PS h' k (r++(l++[.lst (xs++ys)]))->Q (.ref (r.length+l.length+3)) h'):W (fAdd (.ref (r.length+i+3)) (.ref (j+3))) h Q:=by
 show W (getL _ >>= fun x=>getL _ >>= fun y=>newL (x++y)) h Q
 rw [j9]
 refine z5R p e ?_
 rw [j9]
 refine z3B p e2 ?_
 exact z7u p (by simpa using hl) z
end
theorem z2j {ma:G->M D}{mt:G->M Out}{γ:G}{h:AH}{i:Nat}{Q:Out->AH->Prop}(J:D->AH->Prop) (z:W (ma γ) h J) (f:∀ d h1,J d h1->W (mt (γ.set i (some d))) h1 Q):W (Z2 (sAsg ma (gN i)) mt γ) h Q:=z3Z (z.mono f)
theorem z7l {ma:G->M D}{mt:G->M Out}{γ:G}{h:AH}{Q:Out->AH->Prop}(J:D->AH->Prop) (z:W (ma γ) h J) (f:∀ d h1,J d h1->Q (.rt d) h1):W (Z2 (sRet ma) mt γ) h Q:=z9H (z.mono f)
theorem z7F {me:G->M D}{mt:G->M Out}{γ:G}{h:AH}{k:Int}{r l:AH}{a i:Nat}{xs:List D}{Q:Out->AH->Prop}(ea:γ[a]?=some (some (.ref (r.length+i+3)))) (p:PS h k (r++l)) (e:l[i]?=some (.lst xs)) (hl:xs.length<1000000) (J:D->Int->Prop)
 (z:W (me γ) h fun v h1=>∃ k',PS h1 k' (r++l)/\J v k') (f:∀ v k' h2,J v k'->PS h2 k' (r++l.set i (.lst (xs++[v])))->W (mt γ) h2 Q):W (Z2 (z1h (eM1 z09 (eVar a) me)) mt γ) h Q:=by
 refine z7I ?_
 unfold eM1
 rw [j9]
 refine W_eq (v:=.ref (r.length+i+3)) (by unfold eVar;rw [ea]) ?_
 rw [j9]
 refine z8F p e ?_
 rw [j9]
 refine z.mono fun v h1 ⟨k',p1,j⟩=>?_
 exact z7C p1 e hl fun h2 p2=>f v k' h2 j p2
theorem z6A {cap:List (Option Nat)}{mi:G->M Src}{g:D->G->M G}{kk:G->M Bool}{me:G->M D}{γ:G}{h:AH}{r l:AH}{Q:D->AH->Prop}(J:Nat->List D->Int->Prop)
 (hs:W (mi γ) h fun src h1=>∃ k,PS h1 k (r++l)/\J 0 [] k/\(∀ h k xs,PS h k (r++(l++[.lst xs]))->src.good h) /\
  (∀ i d h k xs,src.items[i]?=some d->J i xs k->PS h k (r++(l++[.lst xs]))->W (g d (capG cap γ)) h fun γ1 h1'=>W (kk γ1) h1' fun t h2=>if t=true then W (me γ1) h2 fun v h3=>∃ k',PS h3 k' (r++(l++[.lst xs]))/\xs.length<1000000/\J (i+1) (xs++[v]) k' else ∃ k',PS h2 k' (r++(l++[.lst xs]))/\J (i+1) xs k') /\
  ∀ h' xs k,J src.items.length xs k->PS h' k (r++(l++[.lst xs]))->Q (.ref (r.length+l.length+3)) h'):W (x8 cap mi g kk me γ) h Q:=by
 refine z7k ?_
 refine hs.mono fun src h1 ⟨k,p1,j0,good,st,fin⟩=>?_
 have l1:h1.length=r.length+l.length+3:=by rw [p1.len,List.length_append]
 refine ⟨fun i h'=>∃ xs k,J i xs k/\PS h' k (r++(l++[.lst xs])),⟨[],k,j0,by rw [← List.append_assoc];exact p1.app _⟩,fun i h' ⟨xs,k,_,p⟩=>good h' k xs p,?_,?_⟩
 ·rintro i d h2 hd ⟨xs,k,jx,p2⟩
  refine (st i d h2 k xs hd jx p2).mono fun γ1 h3 w3=>w3.mono fun t h4 w4=>?_
  cases t with
  | false=>rw [if_neg (by decide)] at w4 ⊢;obtain ⟨k',p4,j4⟩:=w4;exact ⟨xs,k',j4,p4⟩
  | true =>
   rw [if_pos rfl] at w4 ⊢
   refine w4.mono fun v h5 ⟨k',p5,lx,j5⟩=>?_
   rw [l1,show r.length+l.length+3=r.length+l.length+3 from rfl]
   refine z7C (i:=l.length) p5 (by simp) lx fun h6 p6=>?_
   refine ⟨_,k',j5,?_⟩
   rw [List.set_append_right _ _ (Nat.le_refl _),Nat.sub_self] at p6
   exact p6
 ·rintro h2 ⟨xs,k,jx,p2⟩
  rw [l1]
  exact fin h2 xs k jx p2
end FT
namespace L2
open PySem PySem.Spec PyProof.Rows
section
variable {κ:Type} [DecidableEq κ]
def valV (kvs:List (κ×V)) (k:κ):Option V:=(kvs.find? fun kv=>decide (kv.1=k)).map (·.2)
def putK (kvs:List (κ×V)) (k:κ) (v:V):List (κ×V) :=
 if (kvs.any fun kv=>decide (kv.1=k))=true then kvs.map (fun kv=>if kv.1=k then (kv.1,v) else kv) else kvs++[(k,v)]
theorem z63 {p:κ×V}{r:List (κ×V)}{k:κ}(e:p.1=k):valV (p :: r) k=some p.2:=by simp [valV,List.find?_cons,e]
theorem z6F {p:κ×V}{r:List (κ×V)}{k:κ}(e:¬ p.1=k):valV (p :: r) k=valV r k:=by simp [valV,List.find?_cons,e]
theorem z6v (k:κ):∀ kvs:List (κ×V),(kvs.any fun kv=>decide (kv.1=k))=(valV kvs k).isSome
 | []=>rfl
 | p :: r=>by
  rw [List.any_cons]
  by_cases e:p.1=k
  ·simp only [z63 e,decide_eq_true e,Bool.true_or,Option.isSome_some]
  ·rw [z6F e,decide_eq_false e,Bool.false_or];exact z6v k r
theorem z2P (kvs:List (κ×V)) (k:κ) (v:V):(putK kvs k v).length≤kvs.length+1:=by
 unfold putK
 split
 ·rw [List.length_map];omega
 ·rw [List.length_append,List.length_cons,List.length_nil];omega
theorem RelO.isSome_eq {o:Option V}{u:Option Value}(r:RelO o u):o.isSome=u.isSome:=by
 cases o with
 | none=>cases u with
  | none=>rfl
  | some _=>exact (show False from r).elim
 | some _=>cases u with
  | none=>exact (show False from r).elim
  | some _=>rfl
theorem KV.any {kvs:List (κ×V)}{vs:List (κ×Value)}(r:KV kvs vs) (k:κ):(kvs.any fun kv=>decide (kv.1=k))=vs.any fun kv=>decide (kv.1=k):=by
 unfold KV at r
 induction r with
 | nil=>rfl
 | cons h t ih=>rw [List.any_cons,List.any_cons,ih,h.1]
theorem KV.repl {kvs:List (κ×V)}{vs:List (κ×Value)}(r:KV kvs vs) (k:κ) {y:V}{u:Value}(ry:RelV y u) :
 KV (kvs.map fun kv=>if kv.1=k then (kv.1,y) else kv) (vs.map fun kv=>if kv.1=k then (kv.1,u) else kv):=by
 unfold KV at r ⊢
 induction r with
 | nil=>exact .nil
 | @cons p q ps qs h t ih =>
  rw [List.map_cons,List.map_cons]
  refine .cons ?_ ih
  obtain ⟨h1,h2⟩:=h
  by_cases e:p.1=k
  ·rw [if_pos e,if_pos (h1.symm.trans e)];exact ⟨h1,ry⟩
  ·rw [if_neg e,if_neg (fun z=>e (h1.trans z))];exact ⟨h1,h2⟩
theorem KV.put {kvs:List (κ×V)}{vs:List (κ×Value)}(r:KV kvs vs) (k:κ) {y:V}{u:Value}(ry:RelV y u):KV (putK kvs k y) (stored vs k u):=by
 unfold putK stored
 rw [r.any k]
 by_cases e:(vs.any fun kv=>decide (kv.1=k))=true
 ·rw [if_pos e,if_pos e];exact r.repl k ry
 ·rw [if_neg e,if_neg e];exact Paired.snoc r ⟨rfl,ry⟩
theorem KV.length {kvs:List (κ×V)}{vs:List (κ×Value)}(r:KV kvs vs):kvs.length=vs.length:=Paired.length r
end
theorem zc2 {P:Program}{w:World}{k:Key}{u:Value}(r:RelV (kV k) u):(z0S P w).is k u=true:=by
 cases k with
 | inl i=>obtain ⟨t,e⟩:=(show ∃ t,u=Value.int i t from r);subst e;exact z5N P w i t
 | inr x=>obtain ⟨t,e⟩:=(show ∃ t,u=Value.str x t from r);subst e;exact z5A P w x t
theorem z50 {P:Program}{w:World}:∀ {ks:List Key}{us:List Value},Vals (ks.map kV) us->ItemsAre (z0S P w) ks us
 | [],_,r=>by rw [List.map_nil] at r;cases r;exact .nil
 | k :: ks,_,r=>by
  rw [List.map_cons] at r
  cases r with
  | cons h t=>exact .cons (zc2 h) (z50 t)
abbrev KT (H:Hp):List (List Key×V)->List (List Key×Addr×Value)->Prop:=Paired fun p q=>p.1=q.1/\H q.2.1=some (.tup (p.1.map kV))/\RelV p.2 q.2.2
theorem KT.val {H:Hp}{kvs:List (List Key×V)}{xs:List (List Key×Addr×Value)}(r:KT H kvs xs) (k:List Key):RelO (valV kvs k) ((atKey xs k).map (·.2)):=by
 induction r with
 | nil=>exact True.intro
 | @cons p q ps qs h t ih =>
  obtain ⟨h1,_,h2⟩:=h
  by_cases e:p.1=k
  ·have e':q.1=k:=h1.symm.trans e
   have b:atKey (q :: qs) k=some q.2:=by simp [atKey,List.find?_cons,e']
   rw [z63 e,b];exact h2
  ·have e':¬ q.1=k:=fun z=>e (h1.trans z)
   have b:atKey (q :: qs) k=atKey qs k:=by simp [atKey,List.find?_cons,e']
   rw [z6F e,b];exact ih
theorem KT.repl {H:Hp}{kvs:List (List Key×V)}{xs:List (List Key×Addr×Value)}(r:KT H kvs xs) (k:List Key) {y:V}{u:Value}(ry:RelV y u) :
 KT H (kvs.map fun kv=>if kv.1=k then (kv.1,y) else kv) (xs.map (putAt k u)):=by
 induction r with
 | nil=>exact .nil
 | @cons p q ps qs h t ih =>
  rw [List.map_cons,List.map_cons]
  refine .cons ?_ ih
  obtain ⟨h1,h2,h3⟩:=h
  unfold putAt
  by_cases e:p.1=k
  ·rw [if_pos e,if_pos (h1.symm.trans e)];exact ⟨h1,h2,ry⟩
  ·rw [if_neg e,if_neg (fun z=>e (h1.trans z))];exact ⟨h1,h2,h3⟩
theorem KT.put {H:Hp}{kvs:List (List Key×V)}{xs:List (List Key×Addr×Value)}(r:KT H kvs xs) (k:List Key) {b:Addr}{y:V}{u:Value}(hb:H b=some (.tup (k.map kV))) (ry:RelV y u) :
 KT H (putK kvs k y) (storedH xs k b u):=by
 have e:(kvs.any fun kv=>decide (kv.1=k))=(atKey xs k).isSome:=by
  rw [z6v,(r.val k).isSome_eq,Option.isSome_map]
 unfold putK storedH
 rw [e]
 by_cases q:(atKey xs k).isSome=true
 ·rw [if_pos q,if_pos q];exact r.repl k ry
 ·rw [if_neg q,if_neg q];exact Paired.snoc r ⟨rfl,hb,ry⟩
theorem KT.keeps {H H':Hp}{kvs:List (List Key×V)}{xs:List (List Key×Addr×Value)}(r:KT H kvs xs) (ht:∀ b ys,H b=some (.tup ys)->H' b=some (.tup ys)):KT H' kvs xs :=
 Paired.mapP r fun _ _ z=>⟨z.1,ht _ _ z.2.1,z.2.2⟩
section
variable {P:Program}{w:World}{H:Hp}{h:Heap}{a:Addr}
theorem zv8 {u:HO}(ok:HOk P w H h) (e:Rd H a u):ObjOk P w H h a u:=e.ok ok
theorem zx0 {kvs:List (Key×V)}(ok:HOk P w H h) (e:Rd H a (.dK kvs)):kvs.length≤sizeLine/\(a == sysModules)=false/\∃ vs,KV kvs vs/\h.DictOf (z0S P w) a vs :=
 show ObjOk P w H h a (.dK kvs) from zv8 ok e
theorem zg5 {kvs:List (Key×V)}(ok:HOk P w H h) (e:H a=some (.dK kvs)):kvs.length≤sizeLine/\(a == sysModules)=false/\∃ vs,KV kvs vs/\h.DictOf (z0S P w) a vs:=zx0 ok (.inl e)
theorem za7 {ks:List Key}(ok:HOk P w H h) (e:H a=some (.tup (ks.map kV))):(tupleKind (z0S P w)).is h ks a:=by
 obtain ⟨_,its,r,o,h1,h2,n,h3⟩:=(show ObjOk P w H h a (.tup (ks.map kV)) from ok a _ e)
 exact ⟨o,its.toArray,n,h1,h2.1,h3,by simpa using z50 r⟩
theorem zy1 {kvs:List (List Key×V)}(ok:HOk P w H h) (e:Rd H a (.dT kvs)):kvs.length≤sizeLine/\(a == sysModules)=false /\
 ∃ xs,KT H kvs xs/\h.DictOfH (tupleKind (z0S P w)) a xs:=by
 obtain ⟨z,y,xs,r,o,es,ep,h1,h2,h3,h4,h5⟩:=(show ObjOk P w H h a (.dT kvs) from zv8 ok e)
 refine ⟨z,y,xs,r,o,es,ep,h1,h2,h3,h4,fun x hx=>?_,h5⟩
 have all:∀ {l:List (List Key×V)} {m:List (List Key×Addr×Value)},KT H l m->∀ x∈m,(tupleKind (z0S P w)).is h x.1 x.2.1:=by
  intro l m q
  induction q with
  | nil=>intro x hx;exact nomatch hx
  | @cons p q ps qs hq t ih =>
   intro x hx
   rcases List.mem_cons.mp hx with e | hx
   ·subst e
    exact za7 ok (by rw [← hq.1];exact hq.2.1)
   ·exact ih x hx
 exact all r x hx
theorem zw8 {kvs:List (List Key×V)}(ok:HOk P w H h) (e:H a=some (.dT kvs)):kvs.length≤sizeLine/\(a == sysModules)=false /\
 ∃ xs,KT H kvs xs/\h.DictOfH (tupleKind (z0S P w)) a xs:=zy1 ok (.inl e)
end
def DPut (H:Hp) (a:Addr) (y v:V) (H':Hp):Prop :=
 (∃ kvs k,H a=some (.dK kvs)/\y=kV k/\kvs.length<sizeLine/\H'=upd H a (.dK (putK kvs k v))) ∨
 ∃ kvs k b,H a=some (.dT kvs)/\y=.ref b/\H b=some (.tup (k.map kV))/\kvs.length<sizeLine/\H'=upd H a (.dT (putK kvs k v))
theorem DPut.k {H:Hp}{a:Addr}{kvs:List (Key×V)}{k:Key}{v:V}(e:H a=some (.dK kvs)) (hl:kvs.length<sizeLine):DPut H a (kV k) v (upd H a (.dK (putK kvs k v))):=.inl ⟨kvs,k,e,rfl,hl,rfl⟩
section
variable {X:Cx}{pins:List (Addr×Obj)}{σ:St}{H:Hp}{s:Shared}{a:Addr}{y v:V}{u r:Value}{o:Option V}{A:Around}{E:Value->Shared->Prop}
theorem Inv.big (I:Inv X pins σ H s):sysModules<s.heap.objs.size:=by
 have h:mainGlobals<s.heap.objs.size:=(I.mod.glob.keeps I.bk).lt
 exact Nat.lt_trans (by decide) h
theorem z5w {h':Heap}{t':Nat}{ob:HO}(I:Inv X pins σ H s) (mu:Mut (H a)) (hs:Heap.SameBut a s.heap h') (he:∃ q,h'.get? a=some q) (new:ObjOk X.prog X.w (upd H a ob) h' a ob) :
 Inv X pins σ (upd H a ob) { s with heap:=h',toks:=t' } :=
 I.write (x:=a) (e:=a) mu (.inl rfl) (fun b q hb z=>(hs.2 b hb).trans z) he new
theorem z9I {P:Program}{w:World}{H':Hp}{h':Heap}{kvs:List (Key×V)}{vs:List (Key×Value)}(z:kvs.length≤sizeLine) (hd:(a == sysModules)=false) (rel:KV kvs vs) (dd:h'.DictOf (z0S P w) a vs) :
 ObjOk P w H' h' a (.dK kvs):=⟨z,hd,vs,rel,dd⟩
theorem z8m {H':Hp}{Q:Unit->Shared->Prop}(hu:A.units+1<cLine) (I:Inv X pins σ H s) (g:DPut H a y v H') (ry:RelV y u) (rv:RelV v r) (h:∀ s',Inv X pins σ H' s'->Q () s') :
 wpAny (model X.prog X.w) A (setItem (.ref a) u r) Q E s:=by
 rcases g with ⟨kvs,k,e,ey,l,eH⟩ | ⟨kvs,k,b,e,ey,eb,l,eH⟩
 ·subst ey eH
  obtain ⟨z,hd,vs,rel,dd⟩:=zg5 I.hok e
  have hz:vs.length≤sizeLine:=by rw [← rel.length];exact z
  have hl:(putK kvs k v).length≤sizeLine:=by have:=z2P kvs k v;omega
  refine wpAny_setItem_pairs (hsz:=hz) (zc2 ry) dd fun h' dd' hs=>h _ ?_
  have he:∃ q,h'.get? a=some q:=let ⟨q,_,_,hq,_⟩:=dd';⟨q,hq⟩
  exact z5w I (by rw [e];exact True.intro) hs he (z9I hl hd (rel.put k rv) dd')
 ·subst ey eH
  cases (show u=Value.ref b from ry)
  obtain ⟨z,hd,xs,rel,dd⟩:=zw8 I.hok e
  have hz:xs.length≤sizeLine:=by rw [← Paired.length rel];exact z
  have hl:(putK kvs k v).length≤sizeLine:=by have:=z2P kvs k v;omega
  refine wpAny_setItem_heap (hsz:=hz) (tupleKind_room_in1 hu) (za7 I.hok eb) dd fun h' dd' hs=>h _ ?_
  obtain ⟨q,es,ep,hq,h2,h3,h4,_,h5⟩:=dd'
  refine z5w I (by rw [e];exact True.intro) hs ⟨q,hq⟩ ⟨hl,hd,_,(rel.put k eb rv).keeps fun c ys ec=>?_,q,es,ep,hq,h2,h3,h4,h5⟩
  rw [z06 (zA9 ec e (fun z=>nomatch z))]
  exact ec
end
section
variable {X:Cx}{pins:List (Addr×Obj)}{σ:St}{H:Hp}{s:Shared}{a:Addr}{kvs:List (Key×V)}{k:Key}{u:Value}{A:Around}{E:Value->Shared->Prop}
end
section
variable {X:Cx}{o i e value:Expr}{pos pos' tpos:Pos}{td ty tv:TE}
end
theorem z67 {P:Program}{w:World}{H:Hp}(h:Heap) (hb:sysModules<h.objs.size):ObjOk P w H (h.push { cls:=.type "dict",data:=.dict #[] }) h.objs.size (.dK []) :=
 ⟨Nat.zero_le _,beq_eq_false_iff_ne.mpr (Ne.symm (Nat.ne_of_lt hb)),[],.nil,Heap.DictOf.new h⟩
def zl5:TE:=fun _ H Q=>∀ p,H p=none->Q (.ref p) (upd H p (.dK []))
section
variable {X:Cx}{pos:Pos}
theorem z8Y:PE X (.Dict [] [] pos) zl5:=fun pins s σ H Q I h =>
 wpAny_Dict_empty ⟨.ref s.heap.objs.size,_,I.laid (a:=s.heap.objs.size) (o:=.dK []) (t':=s.toks) (fun _ _ q=>Heap.get?_push_of_some _ q) (Nat.le_refl _) (z67 s.heap I.big),rfl,h _ (I.hok.fresh (Nat.le_refl _))⟩
end
section
variable {X:Cx}{pins:List (Addr×Obj)}{σ:St}{H:Hp}{s:Shared}{a:Addr}{y d:V}{u r:Value}{o:Option V}{A:Around}{E:Value->Shared->Prop}
end
section
variable {X:Cx}{o e f:Expr}{apos cpos:Pos}{td ty tx:TE}
end
end L2
namespace FT
open PySem PySem.Spec PyProof.Rows L2
def ptD (kvs:List (Key×D)) (k:Key) (v:D):List (Key×D) :=
 if (kvs.any fun kv=>decide (kv.1=k))=true then kvs.map (fun kv=>if kv.1=k then (kv.1,v) else kv) else kvs++[(k,v)]
section
variable {K:PySem.W.Frag}{ρ:List Addr}{H:Hp}
theorem RK.len:∀ {kvs:List (Key×D)}{vs:List (Key×V)},RK K ρ H kvs vs->kvs.length=vs.length
 | _,_,.nil=>rfl
 | _,_,.cons _ b=>by simp [RK.len b]
theorem RK.any (k:Key):∀ {kvs:List (Key×D)}{vs:List (Key×V)},RK K ρ H kvs vs->(kvs.any fun kv=>decide (kv.1=k))=vs.any fun kv=>decide (kv.1=k)
 | _,_,.nil=>rfl
 | _,_,.cons a b=>by rw [List.any_cons,List.any_cons,RK.any k b,a.1]
theorem RK.rep (k:Key) {d:D}{v:V}(r:RD K ρ H d v):∀ {kvs:List (Key×D)}{vs:List (Key×V)},RK K ρ H kvs vs->RK K ρ H (kvs.map (fun kv=>if kv.1=k then (kv.1,d) else kv)) (vs.map (fun kv=>if kv.1=k then (kv.1,v) else kv))
 | _,_,.nil=>.nil
 | p :: kvs,q :: vs,.cons a b=>by
  rw [List.map_cons,List.map_cons]
  refine .cons ?_ (RK.rep k r b)
  by_cases e:p.1=k
  ·rw [if_pos e,if_pos (a.1.symm.trans e)];exact ⟨a.1,r⟩
  ·rw [if_neg e,if_neg (fun z=>e (a.1.trans z))];exact a
theorem RK.snoc {k:Key}{d:D}{v:V}(r:RD K ρ H d v):∀ {kvs:List (Key×D)}{vs:List (Key×V)},RK K ρ H kvs vs->RK K ρ H (kvs++[(k,d)]) (vs++[(k,v)])
 | _,_,.nil=>.cons ⟨rfl,r⟩ .nil
 | _,_,.cons a b=>.cons a (RK.snoc r b)
theorem RK.put (k:Key) {d:D}{v:V}(r:RD K ρ H d v) {kvs:List (Key×D)}{vs:List (Key×V)}(q:RK K ρ H kvs vs):RK K ρ H (ptD kvs k d) (L2.putK vs k v):=by
 unfold ptD L2.putK
 rw [q.any k]
 split
 ·exact q.rep k r
 ·exact q.snoc r
theorem zn0 {d:D}{k:Key}{v:V}(e:keyD d=some k) (r:RD K ρ H d v):v=kV k:=by
 cases d<;>simp only [keyD] at e<;>first | (cases e;simp only [RD] at r;exact r) | cases e
end
def newK (kvs:List (Key×D)):M D:=fun h=>if kvs.length≤sizeLine then .ok (.ref h.length) (h++[.dK kvs]) else .bad
def z6Y:D->D->D->M Unit:=fun o i v=>match o with
 | .ref n=>(match keyD i with
  | some k=>fun h=>match h[n]? with
   | some (.dK kvs)=>if kvs.length<sizeLine then .ok () (h.set n (.dK (ptD kvs k v))) else .bad
   | _=>.bad
  | none=>bad)
 | _=>bad
def gDx (mo mi:G->M D):D->G->M G:=fun v γ=>do
 let o ← mo γ
 let i ← mi γ
 let _ ← z6Y o i v
 pure γ
section
variable {X:Cx}{EX:XX}{a o i e f:Expr}{pos apos cpos:Pos}{mo mi ma mb:G->M D}
theorem zr5:SE X EX (.Dict [] [] pos) (fun _=>newK []) :=
 ⟨PE.imp z8Y fun σ H Q ⟨ρ,γ,h,rel,fin⟩ p hp=>by
  unfold newK at fin
  dsimp only at fin
  rw [if_pos (show ([]:List (Key×D)).length≤sizeLine from Nat.zero_le _)] at fin
  refine fin (ρ++[p]) _ (Pre.app _ _) (Ext.upd (.inl hp)) (rel.h.pushO hp ⟨[],z0I,.nil⟩) _ ?_
  simp only [RD]
  refine ⟨p,rfl,?_⟩
  rw [← rel.h.len];simp⟩
def zx5:V->V->V->Hp->(Hp->Prop)->Prop:=fun o i v H Q=>∃ ad H',o=.ref ad/\DPut H ad i v H'/\Q H'
theorem set_dict (hu:X.A.units+1<cLine):PSet X zx5:=by
 intro pins s σ H o i v ov iv u Q I ro ri rv h
 obtain ⟨ad,H',rfl,g,q⟩:=h
 cases ro
 exact z8m hu I g ri rv fun s' I'=>⟨H',I',q⟩
theorem zz3 (hu:X.A.units+1<cLine) (ho:SE X EX o mo) (hi:SE X EX i mi)
 (ha:∀ v,assign (.Subscript o i pos) X.env v=(do
  let ov ← holding [v] (eval o X.env)
  let iv ← holding [v,ov] (eval i X.env)
  standAt pos
  holding [v,ov,iv] (setItem ov iv v)
  release [v,ov,iv] []):=by intro _;rfl):SG X EX (.Subscript o i pos) (gDx mo mi) :=
 ⟨PG.imp (z9S ho.h hi.h (set_dict hu) ha) fun v σ H Q ⟨ρ,γ,h,d,rel,rd,fin⟩=>⟨ρ,γ,h,rel,(Fin.bind fin).mono fun od ρ1 h1 H1 p1 e1 r1 f1 ov ro=>⟨ρ1,γ,h1,⟨rel.g.mono p1 e1,r1⟩,(Fin.bind f1).mono fun id ρ2 h2 H2 p2 e2 r2 f2 iv ri=>by
  have f3:=Fin.bind f2
  cases od<;>first | exact (show False from f3).elim | skip
  rename_i n
  unfold z6Y at f3
  dsimp only at f3
  cases ek:keyD id with
  | none=>rw [ek] at f3;exact f3.elim
  | some k =>
   rw [ek] at f3
   have:=zn0 ek ri
   subst this
   simp only [RD] at ro
   obtain ⟨q,rfl,hq⟩:=ro
   have hq2:=p2 n q hq
   dsimp only at f3
   cases e4:h2[n]? with
   | none=>rw [e4] at f3;exact f3.elim
   | some ob =>
    cases ob with
    | lst xs=>rw [e4] at f3;exact f3.elim
    | set ks=>rw [e4] at f3;exact f3.elim
    | dct=>rw [e4] at f3;exact f3.elim
    | exc c=>rw [e4] at f3;exact f3.elim
    | dF c=>rw [e4] at f3;exact f3.elim
    | dK kvs =>
     rw [e4] at f3
     dsimp only at f3
     split at f3
     ·rename_i hl
      obtain ⟨a1,n1,vs,o1,d1⟩:=r2.at e4
      rw [hq2] at n1;cases n1
      have rv:=(rd.mono p1 e1).mono p2 e2
      refine ⟨q,_,rfl,DPut.k o1 (by rw [← d1.len];exact hl),?_⟩
      have ext:Ext X.K H2 (upd H2 q (.dK (L2.putK vs k v))):=Ext.upd (.inr ⟨_,o1,trivial⟩)
      have r3:RH X.K ρ2 (h2.set n (.dK (ptD kvs k d))) (upd H2 q (.dK (L2.putK vs k v))):=r2.setO e4 hq2 ⟨_,z0I,(d1.put k rv).mono (Pre.refl _) ext⟩
      exact f3 ρ2 _ (Pre.refl _) ext r3 ρ2 _ (Pre.refl _) (Ext.refl _ _) r3 σ (((rel.g.mono p1 e1).mono p2 e2).mono (Pre.refl _) ext)
     ·exact f3.elim⟩⟩⟩
end
section
variable {X:Cx}{EX:XX}{e tg:Expr}
end
theorem W_of {α:Type}{m:M α}{h h1:AH}{v:α}{Q:α->AH->Prop}(e:m h=.ok v h1) (q:Q v h1):W m h Q:=⟨_,_,e,q⟩
def kvN (l:List Nat):List (Key×D):=l.map fun (i:Nat)=>(.inl (i:Int),.bl true)
theorem ze9 (l:List Nat):(kvN l).length=l.length:=by unfold kvN;simp
theorem z7p (l:List Nat) (x:Nat):((kvN l).any fun kv=>decide (kv.1=.inl (x:Int)))=decide (x∈l):=by
 induction l with
 | nil=>rfl
 | cons a l ih =>
  have:kvN (a :: l)=(.inl (a:Int),.bl true) :: kvN l:=rfl
  rw [this,List.any_cons,ih]
  by_cases e:a=x
  ·subst e;simp
  ·have h1:¬ (Sum.inl (a:Int):Key)=.inl (x:Int):=fun z=>e (by injection z with z;exact_mod_cast z)
   simp [h1,show ¬ x=a from fun z=>e z.symm]
theorem zc4 (l:List Nat) {x:Nat}(h:x∉l):ptD (kvN l) (.inl (x:Int)) (.bl true)=kvN (l++[x]):=by
 unfold ptD
 rw [z7p,decide_eq_false h]
 simp [kvN]
theorem zf1 {l:List Nat}(h:l.Pairwise (·<·)):l.Nodup:=h.imp fun h=>Nat.ne_of_lt h
section
variable {ma me:G->M D}{mt:G->M Out}{γ:G}{h:AH}{a b i:Nat}{xs:List D}{v:D}{Q:Out->AH->Prop}
theorem zc6 (e:h[i]?=some (.lst xs)):z38 (.ref i) h=.ok i h:=by unfold z38;dsimp only;rw [e]
theorem z5Y (e:h[i]?=some (.lst xs)) (hl:xs.length<1000000):z09 i v h=.ok .non (h.set i (.lst (xs++[v]))):=by
 unfold z09 updL
 rw [e]
 dsimp only
 rw [if_pos (by simp [sizeLine];omega)]
theorem z0l {f:List D->M D}{d:D}{h1:AH}{r:Res D}(e:me γ h=.ok d h1) (e2:f [d] h1=r):j3 f (z9 me aNil) γ h=r:=by
 have:z9 me aNil γ h=.ok [d] h1:=by
  show (me γ >>= fun x=>(do let r ← aNil γ;pure (x :: r):M (List D))) h=_
  rw [M.bind_ok e];rfl
 show (z9 me aNil γ >>= f) h=_
 rw [M.bind_ok this];exact e2
theorem z8P (e:h[i]?=some (.lst xs)):z0w [.ref i] h=.ok (.tup xs) h:=by
 have ft:z0w [.ref i]=(do let x ← getL i;pure (.tup x)):=rfl
 have g:getL i h=.ok xs h:=by unfold getL;rw [e]
 rw [ft,M.bind_ok g];rfl
theorem z54 (e:h[i]?=some (.lst xs)):fLen [.ref i] h=.ok (.int xs.length) h:=by
 have ft:fLen [.ref i]=(do let x ← getL i;pure (.int x.length)):=rfl
 have g:getL i h=.ok xs h:=by unfold getL;rw [e]
 rw [ft,M.bind_ok g];rfl
theorem ix_h {t:Int}{d:D}(e:h[i]?=some (.lst xs)) (a:atI xs t=some d):fIx (.ref i) (.int t) h=.ok d h:=by
 have ft:fIx (.ref i) (.int t)=(do let xs ← getL i;match atI xs t with | some d=>pure d | none=>bad):=rfl
 have g:getL i h=.ok xs h:=by unfold getL;rw [e]
 rw [ft,M.bind_ok g,a];rfl
theorem zj7 {ss:List Str}(e:h[i]?=some (.lst (ss.map .str))) (hl:ss.length<64):z2S [.ref i] h=.ok (.ref h.length) (h++[.lst ((z2t ss).map .str)]):=by
 have fs:z2S [.ref i]=(do
  let xs ← getL i
  if xs.length<64 then (match z4h xs with
   | some ss=>newL ((z2t ss).map .str)
   | none=>(match z3J xs with
    | some ns=>newL ((sortI ns).map .int)
    | none=>bad)) else bad):=rfl
 have g:getL i h=.ok (ss.map .str) h:=by unfold getL;rw [e]
 rw [fs,M.bind_ok g,if_pos (by simpa using hl),strs_map]
 dsimp only
 unfold newL
 rw [if_pos (by rw [List.length_map,z55];unfold sizeLine;omega)]
theorem cb_h {b:Bool}{h1:AH}(e:me γ h=.ok (.bl b) h1):(fun γ=>(do let d ← me γ;asB d:M Bool)) γ h=.ok b h1:=by
 dsimp only
 rw [M.bind_ok e];rfl
end
theorem z83 {n:Nat}{h:AH}(a b:Nat):eqN (n+1) h (.int a) (.int b)=some (decide (a=b)):=by
 show some ((a:Int) == (b:Int))=_
 congr 1
 rw [Bool.eq_iff_iff,beq_iff_eq,decide_eq_true_eq]
 exact Int.ofNat_inj
theorem z4P {neg:Bool}{h:AH}{x y:D}{b:Bool}(e:eqN 24 h x y=some b):fEqX neg x y h=.ok (.bl (b != neg)) h:=by
 unfold fEqX;rw [e]
section
variable {ma mb:G->M D}{γ:G}{h h1 h2:AH}
theorem e2_h {f:D->D->M D}{x y:D}{r:Res D}(e1:ma γ h=.ok x h1) (e2':mb γ h1=.ok y h2) (e3:f x y h2=r):e2 f ma mb γ h=r:=by
 show (ma γ >>= fun x=>(mb γ >>= fun y=>f x y)) h=_
 rw [M.bind_ok e1,M.bind_ok e2',e3]
theorem fn_h {n:Nat}{f:List D->M D}{mr:G->M (List D)}{ds:List D}{r:Res D}(e:mr γ h=.ok ds h1) (hn:ds.length=n) (e2:f ds h1=r):eFn n f mr γ h=r:=by
 show (mr γ >>= fun xs=>if xs.length=n then f xs else bad) h=_
 rw [M.bind_ok e,if_pos hn,e2]
theorem ac_h {mr:G->M (List D)}{d:D}{ds:List D}(e:ma γ h=.ok d h1) (e2:mr γ h1=.ok ds h2):z9 ma mr γ h=.ok (d :: ds) h2:=by
 show (ma γ >>= fun x=>(mr γ >>= fun r=>(pure (x :: r):M (List D)))) h=_
 rw [M.bind_ok e,M.bind_ok e2];rfl
end
end FT
set_option maxHeartbeats 1600000
namespace FT
open PySem PySem.Spec PyProof.Rows L2
section
variable {prog:Program}{w:World}{A:Around}{E:Value->Shared->Prop}{s:Shared}
theorem z5M:∀ {vs:List Value}{ns:List Int},IntsAre vs ns->∀ i (h1:i<vs.length) (h2:i<ns.length),∃ t,vs[i]=.int ns[i] t
 | _,_,.nil,i,h1,_=>by simp at h1
 | _,_,.cons n t r,0,_,_=>⟨t,rfl⟩
 | _,_,.cons n t r,i+1,h1,h2=>by simpa using z5M r i (by simpa using h1) (by simpa using h2)
end
def maxI (ns:List Int):Int:=ns.getD (argBest (fun i j=>decide (ns.getD i 0 > ns.getD j 0)) (ns.length - 1)) 0
theorem z9A {ns:List Int}(h:0<ns.length):maxI ns∈ns:=by
 obtain ⟨a,_⟩:=argBest_gt (fun i=>ns.getD i 0) (ns.length - 1)
 unfold maxI
 generalize argBest (fun i j=>decide (ns.getD i 0 > ns.getD j 0)) (ns.length - 1)=j at a ⊢
 have hj:j<ns.length:=by omega
 rw [List.getD_eq_getElem?_getD,List.getElem?_eq_getElem hj]
 exact List.getElem_mem hj
section
variable {X:Cx}{EX:XX}{a o:Expr}{pos apos cpos p:Pos}{mo ma:G->M D}{mr:G->M (List D)}
theorem z7J (hc:X.calm=true):z3d X (.builtin "max") (fun xs H Q=>∃ (a:Addr) (ns:List Int),xs=[.ref a]/\SqT X.K H a (ns.map V.int)/\0<ns.length/\Q (.int (maxI ns)) H):=by
 intro pins s σ H xs us Q I rv h
 obtain ⟨a,ns,rfl,hq,hn,q⟩:=h
 obtain ⟨u,rfl,ru⟩:=vals1 rv
 cases ru
 obtain ⟨its,r,pl,hz⟩:=I.tuple hq
 have pT:s.heap.IsTuple a its.toArray:=pl
 have hi:=intsAre_of r
 have hlen:=hi.length
 have lt:a<s.heap.objs.size:=by obtain ⟨o,e,_⟩:=pl;exact Heap.lt_size e
 refine call_max_walk (wpAny_pyIter_tuple pT ?_)
 refine ⟨s.heap.objs.size,[s.heap.objs.size,a],[s.heap.objs.size],its.toArray.size,_,_,fun i j=>decide (ns.getD i 0 > ns.getD j 0),rfl,Walks.tuple (A:=X.A.in1) (I.ok.hd hc) s.heap.objs.size a (Nat.ne_of_lt lt) its.toArray,⟨⟨_,Heap.get?_push_size _ rfl,rfl,rfl⟩,pT.push _⟩,fun b hb=>?_,by simpa [hlen] using hn,CmpOf.ints_gt (fun i=>ns.getD i 0) fun i v hv=>?_,fun v h' tk hP hk=>?_⟩
 ·show b<(s.heap.push _).objs.size
  rw [Heap.size_push]
  simp at hb
  rcases hb with rfl | rfl
  ·exact Nat.lt_succ_self _
  ·exact Nat.lt_succ_of_lt lt
 ·have hv':its[i]?=some v:=by simpa using hv
  obtain ⟨h1,e1⟩:=List.getElem?_eq_some_iff.mp hv'
  obtain ⟨t,e2⟩:=z5M hi i h1 (by omega)
  refine ⟨t,?_⟩
  rw [List.getD_eq_getElem?_getD,List.getElem?_eq_getElem (by omega),Option.getD_some,← e2,e1]
 ·have hP':its[argBest (fun i j=>decide (ns.getD i 0 > ns.getD j 0)) (its.toArray.size - 1)]?=some v:=by simpa using hP
  rw [List.size_toArray,hlen] at hP'
  obtain ⟨h1,e1⟩:=List.getElem?_eq_some_iff.mp hP'
  obtain ⟨t,e2⟩:=z5M hi _ h1 (by omega)
  refine ⟨.int (maxI ns),H,I.kept (t':=tk) fun c o e=>hk c o (fun z=>?_) (Heap.get?_push_of_some _ e),⟨t,?_⟩,q⟩
  ·have:c=s.heap.objs.size:=by simpa using z
   subst this
   exact absurd (Heap.lt_size e) (Nat.lt_irrefl _)
  ·rw [← e1,e2]
   congr 1
   unfold maxI
   rw [List.getD_eq_getElem?_getD,List.getElem?_eq_getElem (by omega),Option.getD_some]
def z6R:List D->M D
 | [.tup xs]=>match z3J xs with
  | some ns=>if 0<ns.length then pure (.int (maxI ns)) else bad
  | none=>bad
 | _=>bad
theorem zf6:AR X.K EX (fun xs H Q=>∃ (a:Addr) (ns:List Int),xs=[.ref a]/\SqT X.K H a (ns.map V.int)/\0<ns.length/\Q (.int (maxI ns)) H) z6R:=by
 intro ρ h H ds vs Q r rd fin
 unfold z6R at fin
 split at fin
 ·rename_i xs
  obtain ⟨v,rfl,rv⟩:=rds1 rd
  simp only [RD] at rv
  obtain ⟨q,ws,rfl,h2,h3⟩:=rv
  cases e:z3J xs with
  | none=>rw [e] at fin;exact fin.elim
  | some ns =>
   rw [e] at fin
   dsimp only at fin
   split at fin
   ·have:=z45 e h3
    subst this
    exact ⟨q,ns,rfl,h2,‹_›,FE.here fin r (by simp [RD])⟩
   ·exact fin.elim
 ·exact fin.elim
theorem zk0 (hc:X.calm=true) (hg:Gl X "max") (hm:X.mg "max" = none) (ha:SA X EX [a] mr) (he:starEach [a] X.env=[(false,eval a X.env)]:=by rfl):SE X EX (.Call (.Name "max" p) [a] [] pos) (j3 z6R mr) :=
 z2f (z29 (z7J hc) hg hm (by decide +kernel) ha.h (by decide) (by decide) he rfl) zf6
end
end FT
set_option maxHeartbeats 2000000
namespace FT
open PySem PySem.Spec PyProof.Rows L2
theorem z0c {h:AH}{o:O}:(h++[o])[h.length]?=some o:=by simp
theorem z6r {h:AH}{o o':O}:(h++[o]).set h.length o'=h++[o']:=by simp
section
variable {mo ma:G->M D}{γ:G}{h:AH}{i x:Nat}{l:List Nat}
end
section
variable {me ma:G->M D}{kb:G->M Bool}{γ:G}{h h1:AH}{a i:Nat}{b:Bool}{xs:List D}
theorem cv_h (e:me γ h=.ok (.bl b) h1):cVal me γ h=.ok b h1:=by
 unfold cVal
 rw [M.bind_ok e]
 rfl
theorem j6 {d:D}(e:γ[a]?=some (some d)):eVar a γ h=.ok d h:=by unfold eVar;rw [e];rfl
theorem z7d (e:me γ h=.ok (.ref i) h) (q:h[i]?=some (.lst xs)):z1g me γ h=.ok (.lst i xs) h:=by
 have g:getL i h=.ok xs h:=by unfold getL;rw [q]
 unfold z1g
 rw [M.bind_ok e]
 dsimp only
 rw [M.bind_ok g]
 rfl
theorem z6a (e:me γ h=.ok (.tup xs) h1):Y6 me γ h=.ok (.con xs) h1:=by
 unfold Y6
 rw [M.bind_ok e]
 rfl
theorem z8B {cap:List (Option Nat)}{mi:G->M Src}{g:D->G->M G}{src:Src}{l:List Nat}(p:Nat->Bool) (f:Nat->D) (hi:mi γ h=.ok src h) (hs:src.items=stD l) (hg:∀ j,src.good (h++j)) (hl:l.length≤1000000)
 (hd:∀ x∈l,∃ γ1,(∀ h,g (.int x) (capG cap γ) h=.ok γ1 h)/\(∀ j,kb γ1 (h++j)=.ok (p x) (h++j))/\(p x=true->∀ j,me γ1 (h++j)=.ok (f x) (h++j))):x8 cap mi g kb me γ h=.ok (.ref h.length) (h++[.lst ((l.filter p).map f)]):=by
 refine (z44 (src:=src) (fun d=>match d with | .int t=>p t.toNat | _=>false) (fun d=>match d with | .int t=>f t.toNat | _=>.non) hi hg (by rw [hs,Y2];exact hl) fun d hd'=>?_).trans ?_
 ·rw [hs] at hd'
  obtain ⟨x,hx,rfl⟩:=List.mem_map.mp hd'
  exact hd x hx
 ·rw [hs]
  unfold stD
  rw [List.filter_map,List.map_map]
  rfl
end
theorem zr3 {ma mb:G->M D}{γ:G}{h h1 h2:AH}{x y:D}(e1:ma γ h=.ok x h1) (e2':mb γ h1=.ok y h2):eTup (z9 ma (z9 mb aNil)) γ h=.ok (.tup [x,y]) h2:=by
 have e3:z9 ma (z9 mb aNil) γ h=.ok [x,y] h2:=ac_h e1 (ac_h e2' rfl)
 unfold eTup
 rw [M.bind_ok e3]
 rfl
theorem zm8 {tup:Bool}{ma:G->M D}{γ:G}{n:Nat}(e:ma γ=pure (.int (n:Nat))) (hn:n≤1000000):eRng tup ma γ=if tup then pure (.tup (z0j n)) else newL (z0j n):=by
 unfold eRng
 rw [e,Z8]
 have l:n≤sizeLine:=Nat.le_trans hn (by decide)
 dsimp only
 rw [if_pos (by rw [Int.toNat_natCast,decide_eq_true l,decide_eq_true (show -(2 ^ 62)≤(n:Int) by omega),decide_eq_true (show (n:Int)<2 ^ 62 by omega)];rfl),Int.toNat_natCast]
theorem z79 {l:List (List Nat)}{i:Nat}(h:i<l.length):l[i]?=some (nx l i):=by unfold nx;rw [List.getElem?_eq_getElem h];rfl
section
variable {raw:List Nat}
end
section
variable {bst st:List (List Nat)}{bmk mk:List (List Str)}{raw:List Nat}
end
section
variable {X:Cx}{EX:XX}{e:Expr}{es:List Expr}{te:TE}{t:TA}{p pos:Pos}{ma:G->M D}{mr:G->M (List D)}
end
end FT
namespace L2
open PySem PySem.Spec PyProof.Rows
section
variable {X:Cx}{tg:Expr}
end
end L2
namespace FT
open PySem PySem.Spec PyProof.Rows L2
section
variable {X:Cx}{EX:XX}{a b c tg:Expr}{p p2 pos pos2:Pos}{ma mb mc:G->M D}
end
end FT
namespace L2
open PySem PySem.Spec PyProof.Rows
section
variable {X:Cx}
end
end L2
namespace FT
open PySem PySem.Spec PyProof.Rows L2
section
variable {X:Cx}{EX:XX}{a b:Expr}{p p2 pos pos2:Pos}{ma mb:G->M D}
end
section
variable {X:Cx}{EX:XX}
end
end FT
namespace L2
open PySem PySem.Spec PyProof.Rows
section
variable {X:Cx}{elt tg iter tg1 iter1:Expr}{ifs1:List Expr}{sc:Scope}{pos:Pos}{N':List Str}{cap:List (Option Nat)}{g g1:TG}{wi1:TI}{ti:TT}{te:TE}
end
end L2
namespace FT
open PySem PySem.Spec PyProof.Rows L2
section
variable {X:Cx}{EX:XX}{elt tg iter tg1 iter1:Expr}{ifs1:List Expr}{sc:Scope}{pos:Pos}{N':List Str}{cap:List (Option Nat)}{own own1:List Nat}{mi mi1:G->M Src}{g g1:D->G->M G}{k:G->M Bool}{me:G->M D}
end
def cnt (st:List (List Nat)):Nat->Nat->Nat
 | 0,_=>1
 | n+1,x=>((nx st x).map (cnt st n)).sum
def wk (st:List (List Nat)):Nat->Nat->List (List Nat)
 | 0,x=>[[x]]
 | n+1,x=>(nx st x).flatMap fun y=>(wk st n y).map (x :: ·)
def zx7 (w:List Nat):Nat:=w.getLast?.getD 0
def ext (st:List (List Nat)) (left:Nat) (w:List Nat):List (List Nat):=((nx st (zx7 w)).filter fun y=>decide (0<cnt st left y)).map fun y=>w++[y]
section
variable {st:List (List Nat)}
end
end FT
namespace L2
open PySem PySem.Spec PyProof.Rows
open PySem.AutoSeq1 (wpAny_loadPart')
section
variable {P:Program}{w:World}{A:Around}{E:Value->Shared->Prop}{s:Shared}{I t:Addr}
end
section
variable {X:Cx}{tg:Expr}
end
end L2
namespace FT
open PySem PySem.Spec PyProof.Rows L2
section
variable {X:Cx}{EX:XX}{a tg:Expr}{p pos:Pos}{ma:G->M D}
end
end FT
namespace L2
open PySem PySem.Spec PyProof.Rows
open PySem.AutoSeq1 (wpAny_loadPart')
section
variable {X:Cx}
end
end L2
namespace FT
open PySem PySem.Spec PyProof.Rows L2
section
variable {X:Cx}{EX:XX}{a o:Expr}{cpos apos:Pos}{ma mo:G->M D}
end
theorem z9N {m:M D}{h:AH}{Q:D->AH->Prop}(z:W m h fun d h1=>∃ i o,d=.ref i/\h.length≤i/\h1[i]?=some o/\refO h.length o=false/\Q d h1):W (cln m) h Q:=by
 obtain ⟨d,h1,e,i,o,rfl,hi,ei,ro,q⟩:=z
 refine ⟨.ref i,h1,?_,q⟩
 unfold cln
 rw [e]
 dsimp only
 split
 ·rw [if_neg (by simp only [z01,decide_eq_true_eq];omega),ei]
  dsimp only
  rw [if_neg (by rw [ro];decide)]
 ·rfl
theorem z9V {me:G->M D}{mt:G->M Out}{γ:G}{h h1:AH}{a i:Nat}{xs:List D}{v:D}{Q:Out->AH->Prop}(ea:γ[a]?=some (some (.ref i))) (e:h[i]?=some (.lst xs)) (ev:me γ h=.ok v h1) (e1:h1[i]?=some (.lst xs)) (hl:xs.length<1000000) (z:W (mt γ) (h1.set i (.lst (xs++[v]))) Q):W (Z2 (z1h (eM1 z09 (eVar a) me)) mt γ) h Q:=by
 refine z7I ?_
 have e2':eVar a γ=pure (.ref i):=by unfold eVar;rw [ea]
 unfold eM1
 rw [e2',Z8,j9]
 refine W_of (zc6 e) ?_
 rw [j9]
 exact W_of ev (W_of (z5Y e1 hl) z)
section
variable {ka kb:G->M Bool}{γ:G}{h:AH}{r:Res Bool}
end
theorem z2r {xs:List D}{h:AH}(hl:xs.length≤1000000):newL xs h=.ok (.ref h.length) (h++[.lst xs]):=by
 unfold newL
 rw [if_pos (Nat.le_trans hl (by decide))]
end FT
namespace L2
open PySem PySem.Spec PyProof.Rows
theorem z6I {prog:Program}{w:World}{A:Around}{R:Result->Shared->Prop}{s:Shared}{elt val target iter:Expr}
 {ifs:List Expr} {scope:Scope} {pos:Pos} {it:Value} {D:Addr} {env:Env} (I:Nat->Shared->Prop)
 (turn:∀ n s,I n s->wpAny (model prog w) A (pyNext it) (fun r s1=>match r with
  | none=>R (.ok .next) s1
  | some v=>wpAny (model prog w) A (letOwnedTupleGo target it v) (fun _ s2 =>
   wpAny (model prog w) A (assign target env v) (fun _ s3 =>
    wpAny (model prog w) A (z52 ifs env) (fun ok s4 =>
     if ok=true then wpAny (model prog w) A (eval elt env) (fun x s5 =>
      wpAny (model prog w) A (eval val env) (fun y s6=>wpAny (model prog w) A (dictSet D x y) (fun _ s7=>∃ m,m<n/\I m s7)
       (notedBy (model prog w) A env fun e s'=>R (.error e) s') s6)
       (notedBy (model prog w) A env fun e s'=>R (.error e) s') s5)
       (notedBy (model prog w) A env fun e s'=>R (.error e) s') s4
     else ∃ m,m<n/\I m s4)
     (notedBy (model prog w) A env fun e s'=>R (.error e) s') s3)
    (notedBy (model prog w) A env fun e s'=>R (.error e) s') s2)
   (notedBy (model prog w) A env fun e s'=>R (.error e) s') s1)
  (notedBy (model prog w) A env fun e s'=>R (.error e) s') s)
 (n:Nat) (h:I n s) :
 codeAny (model prog w) A (.compLoop (.DictComp elt val [⟨target,iter,ifs,0⟩] scope pos) 0 it (.ref D) env) R s:=by
 refine codeAny_loop rfl I (fun n s hI=>?_) n h
 show wpAny _ A ((compTurn (.DictComp elt val [⟨target,iter,ifs,0⟩] scope pos) 0 it (.ref D) env).onRaise
  (fun x=>do noteFrame x env;theTreesLotGoes x)) _ _ s
 refine wpAny_noted ?_
 rw [compTurn_dict]
 refine wpAny_bind (wpAny_standAt (wpAny_bind (wpAny_mono (turn n s hI) (fun r s1 h1=>?_) fun _ _ z=>z)))
 cases r with
 | none=>exact wpAny_pure h1
 | some v =>
  refine wpAny_bind (wpAny_mono h1 (fun _ s2 h2=>?_) fun _ _ z=>z)
  refine wpAny_bind (wpAny_mono h2 (fun _ s3 h3=>wpAny_bind (wpAny_mono h3 (fun ok s4 h4=>?_) fun _ _ z=>z)) fun _ _ z=>z)
  cases ok with
  | false=>exact wpAny_pure ⟨rfl,h4⟩
  | true =>
   exact wpAny_bind (wpAny_bind (wpAny_mono h4 (fun x s5 h5=>wpAny_bind (wpAny_holding (wpAny_mono h5 (fun y s6 h6=>wpAny_bind (wpAny_standAt (wpAny_holding (wpAny_mono h6 (fun _ s7 h7=>wpAny_pure ⟨rfl,h7⟩) fun _ _ z=>z)))) fun _ _ z=>z))) fun _ _ z=>z))
theorem z78 {X:Cx}{pins:List (Addr×Obj)}{σ:St}{H:Hp}{s:Shared}{a:Addr}{kvs:List (Key×V)}{k:Key}{v:V}{u r:Value}{A:Around}{E:Value->Shared->Prop}{Q:Unit->Shared->Prop}
 (I:Inv X pins σ H s) (e:H a=some (.dK kvs)) (l:kvs.length<sizeLine) (ry:RelV (kV k) u) (rv:RelV v r) (h:∀ s',Inv X pins σ (upd H a (.dK (putK kvs k v))) s'->Q () s') :
 wpAny (model X.prog X.w) A (dictSet a u r) Q E s:=by
 obtain ⟨z,hd,vs,rel,dd⟩:=zg5 I.hok e
 have hz:vs.length≤sizeLine:=by rw [← rel.length];exact z
 have hl:(putK kvs k v).length≤sizeLine:=by have:=z2P kvs k v;omega
 refine wpAny_dictSet_pairs (hsz:=hz) (zc2 ry) dd fun h' dd' hs=>h _ ?_
 have he:∃ q,h'.get? a=some q:=let ⟨q,_,_,hq,_⟩:=dd';⟨q,hq⟩
 exact z5w I (by rw [e];exact True.intro) hs he (z9I hl hd (rel.put k rv) dd')
def z4G (cap:List (Option Nat)) (g:TG) (ti:TT) (te tv:TE) (σ:St) (J:It) (D:Addr) (Q:Hp->Prop) (H:Hp):Prop :=
 ∃ W:Nat->Nat->Hp->Prop,(∃ m,W 0 m H)/\∀ i m H,W i m H ->
  (J.stop i H/\Q H)∨(J.go i H/\∀ x H1,J.yld i H x H1->g x (z1U cap σ) H1 fun σ2 H2=>(∀ (j:Nat) v,(z1U cap σ)[j]?=some (some v)->σ2[j]?=some (some v)) /\
   ti σ2 H2 fun ok H3=>if ok=true then te σ2 H3 fun y H4=>tv σ2 H4 fun v H5=>∃ k kvs,y=kV k/\H5 D=some (.dK kvs)/\kvs.length<sizeLine/\∃ m',m'<m/\W (i+1) m' (upd H5 D (.dK (putK kvs k v)))
    else ∃ m',m'<m/\W (i+1) m' H3)
section
variable {X:Cx}{elt val tg iter:Expr}{ifs:List Expr}{sc:Scope}{pos:Pos}{N':List Str}{cap:List (Option Nat)}{g:TG}{ti:TT}{te tv:TE}
theorem z6W {pins:List (Addr×Obj)}{σ:St}{H2:Hp}{s2:Shared}{it:Addr}{fp:List Addr}{tn:Nat->Heap->Prop}{J:It}{E:Value->Shared->Prop}{RR:Value->Addr->Result->Shared->Prop}{Q:Addr->Hp->Prop}
 (hc:X.calm=true) (S:CS X sc N' cap) (hg:∀ s H fp xe,PG (X.comp N' sc s H fp xe) tg g) (ht:∀ s H fp xe,PTs (X.comp N' sc s H fp xe) ifs ti) (he:∀ s H fp xe,PE (X.comp N' sc s H fp xe) elt te) (hv:∀ s H fp xe,PE (X.comp N' sc s H fp xe) val tv)
 (I2:Inv X pins σ H2 s2) (T:Turn X.prog X.w X.K tg J fp it tn) (st2:tn 0 s2.heap) (f2:∀ b∈fp,FpOk X pins H2 b)
 (hq:∀ D,H2 D=none->z4G cap g ti te tv σ J D (Q D) (upd H2 D (.dK [])))
 (hRR:∀ (D:Addr) (s3:Shared) (H3:Hp) (xe:Value->Shared->Prop) (H':Hp) (pins':List (Addr×Obj)) (σ':St) (s':Shared),Inv X pins σ H3 s3->(∀ b∈fp,FpOk X pins H3 b)->Inv (X.comp N' sc s3 H3 fp xe) pins' σ' H' s'->Q D H'->RR (.ref D) s3.heap.objs.size (.ok .next) s') :
 wpAny (model X.prog X.w) X.A newDict (fun acc s3=>wpAny (model X.prog X.w) X.A (newFunctionEnv sc X.env.globals (z0q X.env sc.names []) [] X.env.qual none .none (some X.env)) (fun cenv s4 =>
  codeAny (model X.prog X.w) X.A (.compStart (.DictComp elt val [⟨tg,iter,ifs,0⟩] sc pos) 0 (.ref it) acc { cenv with scope:=relabel sc X.env }) (RR acc cenv.locals) s4) E s3) E s2:=by
 refine wpAny_newObj_type ?_
 have I3:=I2.laid (a:=s2.heap.objs.size) (o:=.dK []) (t':=s2.toks) (h':=s2.heap.push { cls:=.type "dict",dict:=none,data:=.dict #[] }) (fun _ _ q=>Heap.get?_push_of_some _ q) (Nat.le_refl _) (z67 s2.heap I2.big)
 have hfr:H2 s2.heap.objs.size=none:=I2.fresh
 have lt2:∀ b∈fp,b<s2.heap.objs.size:=fun b hb=>by
  obtain ⟨o,e,_⟩:=T.obj _ _ st2 b hb
  exact Heap.lt_size e
 generalize hD:s2.heap.objs.size=D at I3 hfr lt2 ⊢
 have r0:=hq D hfr
 generalize hs3:({ s2 with heap:=s2.heap.push { cls:=.type "dict",dict:=none,data:=.dict #[] },toks:=s2.toks }:Shared)=s3 at I3 ⊢
 have f3:∀ b∈fp,FpOk X pins (upd H2 D (.dK [])) b:=fun b hb=>⟨by rw [z06 (Nat.ne_of_lt (lt2 b hb))];exact (f2 b hb).1,(f2 b hb).2⟩
 have kp3:∀ b o,s2.heap.get? b=some o->s3.heap.get? b=some o:=fun b o e=>by rw [← hs3];exact Heap.get?_push_of_some _ e
 have st3:tn 0 s3.heap:=T.keep _ _ _ st2 fun b hb o e=>kp3 b o e
 have lt3:∀ b∈fp,b<s3.heap.objs.size:=fun b hb=>by
  obtain ⟨o,e,_⟩:=T.obj _ _ st3 b hb
  exact Heap.lt_size e
 generalize upd H2 D (.dK [])=H3 at I3 r0 f3
 refine wpAny_newFunctionEnv S.nocell (fun x hx=>absurd hx (by simp)) (fun h1 hns hsb=>?_) S.kind
 have kp4:∀ b o,s3.heap.get? b=some o->h1.get? b=some o:=fun b o e=>by
  rw [hsb.2 b (Nat.ne_of_lt (Heap.lt_size e))]
  exact Heap.get?_push_of_some _ e
 have hns':h1.Ns s3.heap.objs.size fun _=>none:=hns
 have st4:tn 0 h1:=T.keep _ _ _ st3 fun b hb o e=>kp4 b o e
 have frees:∀ b∈fp,H3 b=none:=fun b hb=>(f3 b hb).1
 have loop:codeAny (model X.prog X.w) X.A (.compLoop (.DictComp elt val [⟨tg,iter,ifs,0⟩] sc pos) 0 (.ref it) (.ref D) (compEnvC sc (z0q X.env sc.names []) s3.heap.objs.size X.env))
  (RR (.ref D) s3.heap.objs.size) { s3 with heap:=h1,toks:=s3.toks+([]:List (Str×Value)).length }:=by
  let xe:Value->Shared->Prop:=notedBy (model X.prog X.w) X.A (compEnvC sc (z0q X.env sc.names []) s3.heap.objs.size X.env) fun e s'=>RR (.ref D) s3.heap.objs.size (.error e) s'
  have I4:Inv (X.comp N' sc s3 H3 fp xe) [] (z1U cap σ) H3 { s3 with heap:=h1,toks:=s3.toks+([]:List (Str×Value)).length }:=I3.compIn S f3 lt3 hns' kp4
  have stat:∀ {H':Hp},(∀ b∈fp,H' b=none)->∀ b∈fp,FpOk (X.comp N' sc s3 H3 fp xe) [] H' b:=fun hn b hb=>by
   obtain ⟨q1,q2⟩:=I4.ok.exf b hb
   exact ⟨hn b hb,q1,I4.ok.exfs b hb,.inl hb,q2,fun p hp=>absurd (show p∈([]:List (Addr×Obj)) from hp) (by simp)⟩
  obtain ⟨W,⟨m0,w0⟩,turn⟩:=r0
  refine z6I (fun n s'=>∃ i H',Inv (X.comp N' sc s3 H3 fp xe) [] (z1U cap σ) H' s'/\tn i s'.heap/\(∀ b∈fp,H' b=none)/\W i n H') ?_ m0 ⟨0,H3,I4,st4,frees,w0⟩
  rintro n s5 ⟨i,H5,I5,st5,fr5,w5⟩
  rcases turn i n H5 w5 with ⟨stop,qn⟩ | ⟨go,step⟩
  ·refine thn (T.done (X.comp N' sc s3 H3 fp xe) rfl rfl rfl hc i [] s5 _ H5 xe I5 (stat fr5) st5 stop) fun r s6 ⟨hr,I6⟩=>?_
   subst hr
   exact hRR D s3 H3 xe H5 [] _ s6 I3 f3 I6 qn
  ·refine thn (T.item (X.comp N' sc s3 H3 fp xe) rfl rfl rfl hc i [] s5 _ H5 xe I5 (stat fr5) st5 go) fun r s6 ⟨u,hr,h6⟩=>?_
   subst hr
   refine thn h6 fun _ s7 ⟨x,H7,I7,r7,y7,st7,fr7⟩=>?_
   have I7':=I7.pinned (stat fr7) (T.obj _ _ st7)
   refine thn (hg s3 H3 fp xe _ s7 _ H7 x u _ I7' r7 (step x H7 y7)) fun _ s8 ⟨σ8,H8,I8,k8,q8⟩=>?_
   refine thn (ht s3 H3 fp xe _ s8 σ8 H8 _ I8 q8) fun ok s9 ⟨H9,I9,q9⟩=>?_
   have again:∀ {σa:St} {Ha:Hp} {sa:Shared},Inv (X.comp N' sc s3 H3 fp xe) ([]++z3V fp s7.heap) σa Ha sa->(∀ (j:Nat) v,(z1U cap σ)[j]?=some (some v)->σa[j]?=some (some v)) ->
    Inv (X.comp N' sc s3 H3 fp xe) [] (z1U cap σ) Ha sa/\tn (i+1) sa.heap/\∀ b∈fp,Ha b=none:=fun {σa Ha sa} Ia ka=>by
    refine ⟨Ia.unpinned.weak (I5.len.trans Ia.len.symm) ka,T.keep _ _ _ st7 fun b hb o e=>(Ia.pin (b,o) (List.mem_append_right _ (List.mem_append_right _ (z1v hb e)))).1,fun b hb=>?_⟩
    obtain ⟨o,e,d⟩:=T.obj _ _ st7 b hb
    exact (Ia.pin (b,o) (List.mem_append_right _ (List.mem_append_right _ (z1v hb e)))).2.1
   cases ok with
   | false =>
    have q9':∃ m',m'<n/\W (i+1) m' H9:=by simpa using q9
    obtain ⟨m',hm,w9⟩:=q9'
    obtain ⟨a1,a2,a3⟩:=again I9 k8
    exact ⟨m',hm,i+1,H9,a1,a2,a3,w9⟩
   | true =>
    rw [if_pos rfl] at q9
    refine thn (he s3 H3 fp xe _ s9 σ8 H9 _ I9 q9) fun kv sa ⟨y,Ha,Ia,ra,qa⟩=>?_
    refine thn (hv s3 H3 fp xe _ sa σ8 Ha _ Ia qa) fun vv sb ⟨z,Hb,Ib,rb,kk,kvs,ey,eb,zb,m',hm,wb⟩=>?_
    subst ey
    refine z78 (X:=X.comp N' sc s3 H3 fp xe) Ib eb zb ra rb fun s' I'=>?_
    obtain ⟨a1,a2,a3⟩:=again I' k8
    exact ⟨m',hm,i+1,_,a1,a2,a3,wb⟩
 exact codeAny_compStart_dict loop (T.self _ 0 _ _ _ st4 loop)
def zr6 (cap:List (Option Nat)) (wi:TI) (g:TG) (ti:TT) (te tv:TE):TE:=fun σ H Q=>wi σ H fun J H1=>∀ D,H1 D=none->z4G cap g ti te tv σ J D (fun H'=>Q (.ref D) H') (upd H1 D (.dK []))
theorem z9q {wi:TI}(hc:X.calm=true) (S:CS X sc N' cap) (hi:PI X tg iter wi) (hg:∀ s H fp xe,PG (X.comp N' sc s H fp xe) tg g) (ht:∀ s H fp xe,PTs (X.comp N' sc s H fp xe) ifs ti)
 (he:∀ s H fp xe,PE (X.comp N' sc s H fp xe) elt te) (hv:∀ s H fp xe,PE (X.comp N' sc s H fp xe) val tv) (hs:∀ x,foldedSetIterable iter X.env x=pure x:=by intro _;rfl):PE X (.DictComp elt val [⟨tg,iter,ifs,0⟩] sc pos) (zr6 cap wi g ti te tv):=by
 intro pins s σ H Q I h
 rw [arm_eval_DictComp]
 refine wpAny_comprehension_free (use:=none) rfl hs (z26 (S.cells I)) S.kind S.loc (thn (hi pins s σ H _ I h) fun v s1 h1=>thn h1 fun itv s2 h2=>?_)
 obtain ⟨it,fp,tn,J,H2,e,I2,T,st2,f2,rq⟩:=h2
 subst e
 refine z6W (RR:=fun acc C=>compPost (model X.prog X.w) X.A X.xe none (EP X pins σ Q) acc C) (Q:=fun D H'=>Q (.ref D) H') hc S hg ht he hv I2 T st2 f2 rq ?_
 intro D s3 H3 xe H' pins' σ' s' I3 f3 J3 q
 obtain ⟨m,hn,_⟩:=id J3.loc
 exact ⟨m,hn,fun h' hs=>⟨.ref D,H',I3.compOut f3 J3 hs,rfl,q⟩⟩
end
end L2
namespace FT
open PySem PySem.Spec PyProof.Rows L2
def z99 (n:Nat) (i v:D):M Unit:=z6Y (.ref n) i v
noncomputable def z1S (src:Src) (g:D->G->M G) (k:G->M Bool) (me mv:G->M D) (n0:Nat) (γ:G):List D->M Unit
 | []=>do
  let _ ← src.chk
  pure ()
 | d :: r=>do
  let _ ← src.chk
  let γ1 ← g d γ
  let t ← k γ1
  if t then do
   let y ← me γ1
   let v ← mv γ1
   let _ ← z99 n0 y v
   z1S src g k me mv n0 γ r
  else z1S src g k me mv n0 γ r
noncomputable def z6n (cap:List (Option Nat)) (mi:G->M Src) (g:D->G->M G) (k:G->M Bool) (me mv:G->M D):G->M D:=fun γ=>do
 let src ← mi γ
 let n0 ← (fun h=>.ok h.length (h++[.dK []]):M Nat)
 let _ ← z1S src g k me mv n0 (capG cap γ) src.items
 pure (.ref n0)
section
variable {X:Cx}{EX:XX}{elt val tg iter c:Expr}{ifs:List Expr}{sc:Scope}{pos:Pos}{N':List Str}{cap:List (Option Nat)}{own:List Nat}{mi:G->M Src}{g:D->G->M G}{k kr:G->M Bool}{me mv:G->M D}
theorem z8k {σ:L2.St}{H0:Hp}{ρ0:List Addr}{h0:AH}{γ:G}{src:Src}{J:It}{Dd:Addr}{P:Hp->Prop}(r0:RH X.K ρ0 h0 H0) (rg:RG X.K ρ0 H0 γ σ) (hJ:JOK X.K src ρ0 H0 J) (hD:H0 Dd=none) (hown:∀ j∈own,cap[j]?=some none)
 (fin:Fin X.K EX (ρ0++[Dd]) (upd H0 Dd (.dK [])) (fun _ ρ' h' H'=>ρ'[h0.length]?=some Dd->RH X.K ρ' h' H'->Ext X.K (upd H0 Dd (.dK [])) H'->Pre (ρ0++[Dd]) ρ'->P H') (z1S src g k me mv h0.length (capG cap γ) src.items (h0++[.dK []]))) :
 z4G cap (tGk X.K EX own g) (tT X.K EX k) (tE X.K EX me) (tE X.K EX mv) σ J Dd P (upd H0 Dd (.dK [])):=by
 have rP:RH X.K (ρ0++[Dd]) (h0++[.dK []]) (upd H0 Dd (.dK [])):=r0.pushO hD ⟨[],z0I,.nil⟩
 have eP:Ext X.K H0 (upd H0 Dd (.dK [])):=Ext.upd (.inl hD)
 have at0:(ρ0++[Dd])[h0.length]?=some Dd:=by rw [← r0.len];simp
 refine ⟨fun i m H=>m+i=src.items.length/\∃ ρ h,Pre (ρ0++[Dd]) ρ/\Ext X.K (upd H0 Dd (.dK [])) H/\RH X.K ρ h H /\
  Fin X.K EX ρ H (fun _ ρ' h' H'=>ρ'[h0.length]?=some Dd->RH X.K ρ' h' H'->Ext X.K (upd H0 Dd (.dK [])) H'->Pre (ρ0++[Dd]) ρ'->P H') (z1S src g k me mv h0.length (capG cap γ) (src.items.drop i) h),
  ⟨src.items.length,rfl,_,_,Pre.refl _,Ext.refl _ _,rP,fin⟩,?_⟩
 rintro i m H1 ⟨hm,ρ1,h1,p1,e1,r1,f1⟩
 have p01:Pre ρ0 ρ1:=(Pre.app _ _).trans p1
 have e01:Ext X.K H0 H1:=eP.trans e1
 by_cases hi:i<src.items.length
 ·have hd:src.items.drop i=src.items[i] :: src.items.drop (i+1):=List.drop_eq_getElem_cons hi
  rw [hd] at f1
  unfold z1S at f1
  obtain ⟨good,f2⟩:=z3W f1 r1
  obtain ⟨j1,j2⟩:=hJ i ρ1 h1 H1 p01 e01 r1 good
  obtain ⟨go,yld⟩:=j1 src.items[i] (List.getElem?_eq_getElem hi)
  refine .inr ⟨go,fun x H2 y=>?_⟩
  obtain ⟨rd,rh,ext⟩:=yld x H2 y
  have rgc:RG X.K ρ1 H2 (capG cap γ) (z1U cap σ):=(z7h cap rg).mono p01 (e01.trans ext)
  refine ⟨ρ1,_,h1,_,⟨rgc,rh⟩,rd,(Fin.bind (Fin.up (Pre.refl _) ext f2)).mono fun γ2 ρ3 h3 H3 p3 e3 r3 f3 σ3 g3 k3=>⟨fun j v hv=>?_,ρ3,γ2,h3,⟨g3,r3⟩,(Fin.bind f3).mono fun t ρ4 h4 H4 p4 e4 r4 f4=>?_⟩⟩
  ·rw [k3 j fun hj=>?_]
   ·exact hv
   ·have z:=hown j hj
    unfold z1U at hv
    rw [List.getElem?_map,z] at hv
    simp at hv
  ·have pp:Pre (ρ0++[Dd]) ρ4:=(p1.trans p3).trans p4
   have ee:Ext X.K (upd H0 Dd (.dK [])) H4:=((e1.trans ext).trans e3).trans e4
   cases t with
   | false =>
    rw [if_neg (by decide)] at f4
    dsimp only
    rw [if_neg (by decide)]
    exact ⟨m - 1,by omega,by omega,ρ4,h4,pp,ee,r4,f4⟩
   | true =>
    rw [if_pos rfl] at f4
    dsimp only
    rw [if_pos rfl]
    refine ⟨ρ4,γ2,h4,⟨g3.mono p4 e4,r4⟩,(Fin.bind f4).mono fun yd ρ5 h5 H5 p5 e5 r5 f5 y ry=>⟨ρ5,γ2,h5,⟨(g3.mono p4 e4).mono p5 e5,r5⟩,(Fin.bind f5).mono fun d ρ6 h6 H6 p6 e6 r6 f6 v rv=>?_⟩⟩
    have hq:ρ6[h0.length]?=some Dd:=((pp.trans p5).trans p6) _ _ at0
    have f7:=Fin.bind f6
    unfold z99 z6Y at f7
    dsimp only at f7
    cases ek:keyD yd with
    | none=>rw [ek] at f7;exact f7.elim
    | some kk =>
     rw [ek] at f7
     dsimp only at f7
     have hy:=zn0 ek ry
     cases e7:h6[h0.length]? with
     | none=>rw [e7] at f7;exact f7.elim
     | some ob =>
      cases ob with
      | set ks=>rw [e7] at f7;exact f7.elim
      | dct=>rw [e7] at f7;exact f7.elim
      | lst xs=>rw [e7] at f7;exact f7.elim
      | exc c=>rw [e7] at f7;exact f7.elim
      | dF c=>rw [e7] at f7;exact f7.elim
      | dK kvs =>
       rw [e7] at f7
       dsimp only at f7
       split at f7
       ·rename_i hl
        obtain ⟨a1,n1,vs,o1,d1⟩:=r6.at e7
        rw [hq] at n1;cases n1
        have ext2:Ext X.K H6 (upd H6 Dd (.dK (L2.putK vs kk v))):=Ext.upd (.inr (r6.tracked hq e7))
        have r7:RH X.K ρ6 (h6.set h0.length (.dK (ptD kvs kk d))) (upd H6 Dd (.dK (L2.putK vs kk v))):=r6.setO e7 hq ⟨_,z0I,(d1.put kk rv).mono (Pre.refl _) ext2⟩
        have hl2:=d1.len
        exact ⟨kk,vs,hy,o1,by omega,m - 1,by omega,by omega,ρ6,_,(pp.trans p5).trans p6,((ee.trans e5).trans e6).trans ext2,r7,f7 ρ6 _ (Pre.refl _) ext2 r7⟩
       ·exact f7.elim
 ·have hd:src.items.drop i=[]:=List.drop_eq_nil_of_le (by omega)
  rw [hd] at f1
  unfold z1S at f1
  obtain ⟨good,f2⟩:=z3W f1 r1
  obtain ⟨j1,j2⟩:=hJ i ρ1 h1 H1 p01 e01 r1 good
  exact .inl ⟨j2 (by omega),f2 ρ1 H1 (Pre.refl _) (Ext.refl _ _) r1 (p1 _ _ at0) r1 e1 p1⟩
theorem z9a (hc:X.calm=true) (S:CS X sc N' cap) (hi:SI X EX tg iter mi) (hg:∀ s H fp xe,SGk (X.comp N' sc s H fp xe) EX tg own g) (ht:∀ s H fp xe,SCs (X.comp N' sc s H fp xe) EX ifs k)
 (he:∀ s H fp xe,SE (X.comp N' sc s H fp xe) EX elt me) (hv:∀ s H fp xe,SE (X.comp N' sc s H fp xe) EX val mv) (hown:∀ j∈own,cap[j]?=some none:=by decide) (hs:∀ x,foldedSetIterable iter X.env x=pure x:=by intro _;rfl):SE X EX (.DictComp elt val [⟨tg,iter,ifs,0⟩] sc pos) (z6n cap mi g k me mv) :=
 ⟨PE.imp (z9q (g:=tGk X.K EX own g) (ti:=tT X.K EX k) (te:=tE X.K EX me) (tv:=tE X.K EX mv) hc S hi.h (fun s H fp xe=>(hg s H fp xe).h) (fun s H fp xe=>(ht s H fp xe).h) (fun s H fp xe=>(he s H fp xe).h) (fun s H fp xe=>(hv s H fp xe).h) hs) fun σ H Q ⟨ρ,γ,h,rel,fin⟩=>⟨ρ,γ,h,rel,(Fin.bind fin).mono fun src ρ0 h0 H0 p0 e0 r0 f0 J hJ Dd hD=>by
  have rP:RH X.K (ρ0++[Dd]) (h0++[.dK []]) (upd H0 Dd (.dK [])):=r0.pushO hD ⟨[],z0I,.nil⟩
  have eP:Ext X.K H0 (upd H0 Dd (.dK [])):=Ext.upd (.inl hD)
  have f1:=Fin.bind f0
  have f2:=f1 (ρ0++[Dd]) _ (Pre.app _ _) eP rP
  refine z8k r0 (rel.g.mono p0 e0) hJ hD hown ((Fin.bind f2).mono fun _ ρ5 h5 H5 p5 e5 r5 f5 hat rr ee pp=>?_)
  refine FE.here (d:=.ref h0.length) (h:=h5) f5 rr ?_
  simp only [RD]
  exact ⟨Dd,rfl,hat⟩⟩⟩
end
end FT
namespace L2
open PySem PySem.Spec PyProof.Rows
theorem zz7 {k:Key}{u:Value}(h:z48 k u=true):RelV (kV k) u:=by
 rcases z0n h with ⟨i,t,rfl,rfl⟩ | ⟨x,t,rfl,rfl⟩
 ·exact ⟨t,rfl⟩
 ·exact ⟨t,rfl⟩
section
variable {X:Cx}{tg:Expr}
end
end L2
namespace FT
open PySem PySem.Spec PyProof.Rows L2
def kD:Key->D
 | .inl i=>.int i
 | .inr x=>.str x
theorem zs4 {K:PySem.W.Frag}{ρ:List Addr}{H:Hp}(k:Key):RD K ρ H (kD k) (kV k):=by cases k<;>simp [kD,kV,RD]
def z8x (kvs:List (Key×D)):List D:=kvs.map fun kv=>kD kv.1
section
variable {X:Cx}{EX:XX}{a tg:Expr}{ma:G->M D}
end
end FT
namespace L2
open PySem PySem.Spec PyProof.Rows
section
variable {X:Cx}{tg:Expr}
end
end L2
namespace FT
open PySem PySem.Spec PyProof.Rows L2
section
variable {X:Cx}{EX:XX}{a tg:Expr}{p pos:Pos}{ma:G->M D}
end
end FT
set_option maxHeartbeats 4000000
namespace FT
open PySem PySem.Spec PyProof.Rows L2
section
variable {P:Program}{w:World}{A:Around}{E:Value->Shared->Prop}{s:Shared}
end
section
variable {X:Cx}{EX:XX}{p pos:Pos}
end
end FT
set_option maxHeartbeats 2000000
namespace FT
open PySem PySem.Spec PyProof.Rows L2
section
variable {st:List (List Nat)}{x y z:Nat}
end
structure KS where
 seen:List Nat
 ord:List Nat
 wt:List (Nat×Bool)
section
variable {st:List (List Nat)}{V:List Nat}{s:KS}
end
section
variable {st:List (List Nat)}{V:List Nat}{s:KS}
end
section
variable {s1 s2:List (List Nat)}{V:List Nat}
end
section
variable {st:List (List Nat)}{V:List Nat}{s:KS}
end
section
variable {cap:List (Option Nat)}{mi:G->M Src}{g:D->G->M G}{kb:G->M Bool}{me mv:G->M D}{γ:G}
end
theorem am0 {h:AH}{o:O}{j:AH}:(h++o :: j)[h.length]?=some o:=by rw [List.getElem?_append_right (Nat.le_refl _),Nat.sub_self];rfl
theorem sm0 {h:AH}{o o':O}{j:AH}:(h++o :: j).set h.length o'=h++o' :: j:=by rw [List.set_append_right _ _ (Nat.le_refl _),Nat.sub_self];rfl
end FT
namespace L2
open PySem PySem.Spec PyProof.Rows
section
variable {prog:Program}{w:World}{A:Around}{R:Result->Shared->Prop}{s:Shared}{elt val tg iter tg1 iter1:Expr}{ifs ifs1:List Expr}{scope:Scope}{pos:Pos}{it acc:Value}{D:Addr}{env:Env}
end
section
variable {X:Cx}{elt val tg iter tg1 iter1:Expr}{ifs1:List Expr}{sc:Scope}{pos:Pos}{N':List Str}{cap:List (Option Nat)}{g g1:TG}{wi1:TI}{ti:TT}{te tv:TE}
end
end L2
namespace FT
open PySem PySem.Spec PyProof.Rows L2
section
variable {X:Cx}{EX:XX}{elt val tg iter tg1 iter1:Expr}{ifs1:List Expr}{sc:Scope}{pos:Pos}{N':List Str}{cap:List (Option Nat)}{own own1:List Nat}{mi mi1:G->M Src}{g g1:D->G->M G}{k:G->M Bool}{me mv:G->M D}
end
end FT
namespace L2
open PySem PySem.Spec PyProof.Rows
theorem z3l:∀ {vs:List (Key×V)}{us:List (Key×Value)},KV vs us->∀ {l:List Value},l.length=us.length->(∀ (j:Nat) v,l[j]?=some v->∃ k x,us[j]?=some (k,x)/\z48 k v=true)->Vals (vs.map fun kv=>kV kv.1) l
 | [],_,.nil,l,hl,h=>by
  cases l with
  | nil=>exact .nil
  | cons a l=>simp at hl
 | p :: vs,q :: us,.cons a b,l,hl,h=>by
  cases l with
  | nil=>simp at hl
  | cons v l =>
   obtain ⟨k,x,e1,e2⟩:=h 0 v rfl
   have e1':q=(k,x):=by simpa using e1
   subst e1'
   refine .cons ?_ (z3l b (by simpa using hl) fun j v hv=>by simpa using h (j+1) v (by simpa using hv))
   have a1:p.1=k:=a.1
   show RelV (kV p.1) v
   rw [a1]
   exact zz7 e2
section
variable {X:Cx}
theorem z6M (hc:X.calm=true):z3d X (.type "list") (fun xs H Q=>∃ a vs,xs=[.ref a]/\(H a=some (.dK vs)∨∃ ob,H a=some (.frz ob (.dK vs)))/\∀ l,H l=none->Q (.ref l) (upd H l (.lst (vs.map fun kv=>kV kv.1)))):=by
 intro pins s σ H xs us Q I r h
 obtain ⟨a,vs,rfl,hq,q⟩:=h
 obtain ⟨u,rfl,ru⟩:=vals1 r
 cases ru
 have go:∀ {us:List (Key×Value)} {ep:Nat},KV vs us->vs.length≤sizeLine->(a == sysModules)=false->s.heap.DictAt (z0S X.prog X.w) a us ep->wpAny (model X.prog X.w) X.A (call (.type "list") [.ref a]) (EP X pins σ Q) X.xe s:=fun {us ep} rel z hd dat=>by
  have le:=rel.length
  refine PySem.W.kdl_call (PySem.W.kdl_dict hd) (I.ok.hd hc) dat (by rw [← le];exact z) fun h' tk acc c' kp e it=>?_
  have vl:Vals (vs.map fun kv=>kV kv.1) acc.toList:=z3l rel (by rw [Array.length_toList];exact it.1) fun j v hv=>it.2 j v (by simpa using hv)
  exact ⟨.ref s.heap.objs.size,_,I.laid (t':=tk) kp (Nat.le_refl _) (show ObjOk X.prog X.w _ h' _ (.lst _) from ⟨by rw [List.length_map];exact z,acc.toList,c',vl,by simpa using e⟩),rfl,q _ (I.hok.fresh (Nat.le_refl _))⟩
 rcases hq with hq | ⟨ob,hq⟩
 ·obtain ⟨z,hd,us,rel,dd⟩:=zg5 I.hok hq
  obtain ⟨ob,es,ep,ho,r1,r2,r3⟩:=id dd
  exact go rel z hd ⟨ob,es,ho,r1,r2,r3⟩
 ·obtain ⟨go',z,hd,us,rel,dd⟩:=(show ObjOk X.prog X.w H s.heap a (.frz ob (.dK vs)) from I.hok a _ hq)
  obtain ⟨ob',es,ep,ho,r1,r2,r3⟩:=id dd
  exact go rel z hd ⟨ob',es,ho,r1,r2,r3⟩
end
end L2
namespace FT
open PySem PySem.Spec PyProof.Rows L2
def z6Q (n:Nat):M (List (Key×D)):=fun h=>match h[n]? with
 | some (.dK kvs)=>.ok kvs h
 | some (.dF kvs)=>.ok kvs h
 | _=>.bad
def z3Q:List D->M D
 | [.ref n]=>do
  let kvs ← z6Q n
  newL (z8x kvs)
 | _=>bad
theorem z89 {K:PySem.W.Frag}{EX:XX}{ρ:List Addr}{h:AH}{H:Hp}{n:Nat}{q:Addr}{Z:List (Key×D)->List Addr->AH->Hp->Prop}(r:RH K ρ h H) (hq:ρ[n]?=some q) (f:Fin K EX ρ H Z (z6Q n h)) :
 ∃ kvs vs,(H q=some (.dK vs)∨∃ ob,H q=some (.frz ob (.dK vs)))/\RK K ρ H kvs vs/\Z kvs ρ h H:=by
 unfold z6Q at f
 cases e:h[n]? with
 | none=>rw [e] at f;exact f.elim
 | some ob =>
  cases ob with
  | lst xs=>rw [e] at f;exact f.elim
  | set xs=>rw [e] at f;exact f.elim
  | dct=>rw [e] at f;exact f.elim
  | exc c=>rw [e] at f;exact f.elim
  | dK kvs =>
   rw [e] at f
   obtain ⟨a1,n1,vs,o1,d1⟩:=r.at e
   rw [hq] at n1;cases n1
   exact ⟨kvs,vs,.inl o1,d1,f ρ H (Pre.refl _) (Ext.refl _ _) r⟩
  | dF kvs =>
   rw [e] at f
   obtain ⟨a1,n1,ob,vs,o1,d1⟩:=r.at e
   rw [hq] at n1;cases n1
   exact ⟨kvs,vs,.inr ⟨ob,o1⟩,d1,f ρ H (Pre.refl _) (Ext.refl _ _) r⟩
theorem z4W {K:PySem.W.Frag}{ρ:List Addr}{H:Hp}:∀ {kvs:List (Key×D)}{vs:List (Key×V)},RK K ρ H kvs vs->RDs K ρ H (z8x kvs) (vs.map fun kv=>kV kv.1)
 | _,_,.nil=>RDs.nil
 | p :: _,q :: _,.cons a b=>by
  refine RDs.cons ?_ (z4W b)
  have a1:p.1=q.1:=a.1
  show RD K ρ H (kD p.1) (kV q.1)
  rw [a1]
  exact zs4 q.1
section
variable {X:Cx}{EX:XX}{a:Expr}{mr:G->M (List D)}{p pos:Pos}
theorem z8V:AR X.K EX (fun xs H Q=>∃ a vs,xs=[.ref a]/\(H a=some (.dK vs)∨∃ ob,H a=some (.frz ob (.dK vs)))/\∀ l,H l=none->Q (.ref l) (upd H l (.lst (vs.map fun kv=>kV kv.1)))) z3Q:=by
 intro ρ h H ds vs Q r rd fin
 unfold z3Q at fin
 split at fin
 ·rename_i n
  obtain ⟨v,rfl,rv⟩:=rds1 rd
  simp only [RD] at rv
  obtain ⟨q,rfl,hq⟩:=rv
  obtain ⟨kvs,vs,hh,rk,f2⟩:=z89 r hq (Fin.bind fin)
  unfold newL at f2
  split at f2
  ·exact ⟨q,vs,rfl,hh,fun l hl=>FE.lst f2 r (z4W rk) hl⟩
  ·exact f2.elim
 ·exact fin.elim
theorem z5U (hc:X.calm=true) (hg:Gl X "list") (hm:X.mg "list" = none) (ha:SA X EX [a] mr) (he:starEach [a] X.env=[(false,eval a X.env)]:=by rfl):SE X EX (.Call (.Name "list" p) [a] [] pos) (j3 z3Q mr) :=
 z2f (z2u (z6M hc) hg hm (by decide +kernel) ha.h (by decide) (by decide) he rfl) z8V
end
section
variable {X:Cx}{EX:XX}{a o:Expr}{p pos cpos apos:Pos}{ma mo:G->M D}{mr:G->M (List D)}
end
abbrev sg (c:Nat):Str:=⟨#[c]⟩
def nS (i:Nat):Str:=toString (i:Int)
end FT
namespace FT
section
variable {α:Type}{us:List α}
theorem ar1 (hl:us.length=1):∃ a,us=[a]:=match us,hl with | [a],_=>⟨a,rfl⟩
theorem ar2 (hl:us.length=2):∃ a b,us=[a,b]:=match us,hl with | [a,b],_=>⟨a,b,rfl⟩
theorem ar3 (hl:us.length=3):∃ a b c,us=[a,b,c]:=match us,hl with | [a,b,c],_=>⟨a,b,c,rfl⟩
theorem ar4 (hl:us.length=4):∃ a b c d,us=[a,b,c,d]:=match us,hl with | [a,b,c,d],_=>⟨a,b,c,d,rfl⟩
theorem ar5 (hl:us.length=5):∃ a b c d e,us=[a,b,c,d,e]:=match us,hl with | [a,b,c,d,e],_=>⟨a,b,c,d,e,rfl⟩
theorem ar6 (hl:us.length=6):∃ a b c d e f,us=[a,b,c,d,e,f]:=match us,hl with | [a,b,c,d,e,f],_=>⟨a,b,c,d,e,f,rfl⟩
end
end FT
namespace FT
open PySem PySem.Spec PyProof.Rows L2
section
variable {X:Cx}{EX:XX}{k v:Expr}{pos:Pos}{mk mv:G->M D}
end
section
variable {prog:Program}{w:World}{h₀:Heap}
end
section
variable {X:Cx}{pins:List (Addr×Obj)}{σ:L2.St}{H:Hp}{s:Shared}{ρ:List Addr}{h:AH}
end
section
variable {X:Cx}{EX:XX}{a:Expr}{p pos:Pos}{mr:G->M (List D)}
end
def Ths (P:Nat->D->Prop):Nat->List D->Prop
 | _,[]=>True
 | n,x :: xs=>∃ a b,P a x/\Ths P b xs/\a+b+2≤n
def Th (r:AH) (B:Nat):Nat->Nat->D->Prop
 | 0,_,_=>False
 | _+1,n,.non=>4≤n
 | _+1,n,.bl _=>5≤n
 | _+1,n,.int i=>i.natAbs≤B/\40≤n
 | _+1,n,.str x=>(reprText x).length≤n/\x.length≤1000
 | m+1,n,.tup xs=>∃ a,Ths (Th r B m) a xs/\a+4≤n
 | _+1,_,.fl _=>False
 | m+1,n,.ref i=>∃ j,i=j+3/\((∃ xs a,r[j]?=some (.lst xs)/\Ths (Th r B m) a xs/\a+4≤n)∨(r[j]?=some (.dK [])∨r[j]?=some (.dK [(.inr "a",.int 1)])/\1≤m)/\40≤n)
section
variable {P P':Nat->D->Prop}{n m:Nat}{xs ys:List D}{d:D}
end
section
variable {X:Cx}{EX:XX}{mr:G->M (List D)}
end
section
variable {n i:Nat}{mf:List D->M D}{mr:G->M (List D)}{okf:Str->Bool}{ms mt:G->M Out}{γ:G}{h h1 h2:AH}{xs:List D}{Q:Out->AH->Prop}
end
section
variable {prog:Program}{w:World}{A:Around}{E:Value->Shared->Prop}{s:Shared}
end
section
variable {X:Cx}{EX:XX}{mr:G->M (List D)}
end
end FT
set_option maxHeartbeats 1600000
namespace FT
open PySem PySem.Spec PyProof.Rows L2
section
variable {X:Cx}{EX:XX}{a:Expr}{elts:List Expr}{kk:Nat}{p pos pt:Pos}{ma:G->M D}
end
end FT
set_option maxHeartbeats 4000000
namespace FT
open PySem PySem.Spec PyProof.Rows L2
def top (i:Nat):Stmt:=PySem.Challenge.pw_fairtrees_k49_walls_by_sets.main.body.getD i (.Pass ⟨0,0,0,0⟩)
noncomputable def c_FREE:D:=.tup []
noncomputable def c_MOST:D:=.int 40
noncomputable def c_NUMBERS:D:=.int 400
noncomputable def c_RUNS:D:=.tup [.str "some",.str "all"]
noncomputable def z24:G->M Out :=
 (Z2 (sRet (eAnd (eIsi "int" (eVar 0)) (eNot (eIsi "bool" (eVar 0))))) bNil)
noncomputable def z1C:List D->M D:=fun ds=>cln (runF 1 z24 ds)
theorem sc_is_number:FnScope ["thing"] ["thing"] (Z5 (top 4)):=⟨rfl,rfl,rfl,by decide +kernel,rfl,by decide +kernel,by decide +kernel⟩
theorem ok_is_number {P:Program}{w:World}{K:PySem.W.Frag}{mg:Str->Option Value}{base:Heap}(T:DefAt K "is_number" (top 4)) (mx:∀ v,PySem.W.nsIn K mainGlobals "is_number" = some (some v)->mg "is_number" = some v) (z_bool:mg "bool" = none) (z_int:mg "int" = none) (z_isinstance:mg "isinstance" = none):Fn P w K mg base 1 "is_number" 1 z1C:=by
 obtain ⟨f,fd,hf,F⟩:=T
 have hb:Binds K fd ["thing"] []:=F.binds fun _ _ _ _ _ _ us hl=>(by obtain ⟨_,rfl⟩:=ar1 hl;rfl)
 exact Fn.cln <| Y1 F sc_is_number hb (mx _ hf) rfl fun cdv A outer s H E hcd hr=>(show SB (cxOf CX0 P w K mg base ["thing"] "is_number" (Z5 (top 4)) f cdv A outer s H E).nox EX0 (j7 (top 4)) z24 from
  have nd:(["thing"]:List Str).Nodup:=sc_is_number.nd
  (Z0 (y6 (z0u (z2H rfl z_isinstance rfl z_int (by decide +kernel) (by decide) (z3 0)) (z0U (z3E (z2H rfl z_isinstance rfl z_bool (by decide +kernel) (by decide) (z3 0)))))) Z4))
noncomputable def z0P:G->M Out :=
 (Z2 (sRet (eAnd (eFn 1 z1C (z9 (eVar 0) aNil)) (e3 fLe fLe (eVar 1) (eVar 0) (eVar 2)))) bNil)
noncomputable def J1:List D->M D:=fun ds=>cln (runF 3 z0P ds)
theorem sc_is_number_from:FnScope ["thing","least","most"] ["thing","least","most"] (Z5 (top 5)):=⟨rfl,rfl,rfl,by decide +kernel,rfl,by decide +kernel,by decide +kernel⟩
theorem ok_is_number_from {P:Program}{w:World}{K:PySem.W.Frag}{mg:Str->Option Value}{base:Heap}(T:DefAt K "is_number_from" (top 5)) (mx:∀ v,PySem.W.nsIn K mainGlobals "is_number_from" = some (some v)->mg "is_number_from" = some v) (F_is_number:Fn P w K mg base 1 "is_number" 1 z1C):Fn P w K mg base 2 "is_number_from" 3 J1:=by
 obtain ⟨f,fd,hf,F⟩:=T
 have hb:Binds K fd ["thing","least","most"] []:=F.binds fun _ _ _ _ _ _ us hl=>(by obtain ⟨_,_,_,rfl⟩:=ar3 hl;rfl)
 exact Fn.cln <| Y1 F sc_is_number_from hb (mx _ hf) rfl fun cdv A outer s H E hcd hr=>(show SB (cxOf CX0 P w K mg base ["thing","least","most"] "is_number_from" (Z5 (top 5)) f cdv A outer s H E).nox EX0 (j7 (top 5)) z0P from
  have nd:(["thing","least","most"]:List Str).Nodup:=sc_is_number_from.nd
  (Z0 (y6 (z0u (Z7 F_is_number (hr.mono (by decide)) rfl (z0 (z3 0) Z1)) (z0U (z9o z5I z5I (z3 1) (z3 0) (z3 2))))) Z4))
noncomputable def z2D:G->M Out :=
 (Z2 (sRet (eOr (e2 (fIs false) (eVar 0) (fun _=>pure (.bl true))) (e2 (fIs false) (eVar 0) (fun _=>pure (.bl false))))) bNil)
noncomputable def z1X:List D->M D:=fun ds=>cln (runF 1 z2D ds)
theorem sc_is_truth:FnScope ["thing"] ["thing"] (Z5 (top 6)):=⟨rfl,rfl,rfl,by decide +kernel,rfl,by decide +kernel,by decide +kernel⟩
theorem ok_is_truth {P:Program}{w:World}{K:PySem.W.Frag}{mg:Str->Option Value}{base:Heap}(T:DefAt K "is_truth" (top 6)) (mx:∀ v,PySem.W.nsIn K mainGlobals "is_truth" = some (some v)->mg "is_truth" = some v):Fn P w K mg base 1 "is_truth" 1 z1X:=by
 obtain ⟨f,fd,hf,F⟩:=T
 have hb:Binds K fd ["thing"] []:=F.binds fun _ _ _ _ _ _ us hl=>(by obtain ⟨_,rfl⟩:=ar1 hl;rfl)
 exact Fn.cln <| Y1 F sc_is_truth hb (mx _ hf) rfl fun cdv A outer s H E hcd hr=>(show SB (cxOf CX0 P w K mg base ["thing"] "is_truth" (Z5 (top 6)) f cdv A outer s H E).nox EX0 (j7 (top 6)) z2D from
  have nd:(["thing"]:List Str).Nodup:=sc_is_truth.nd
  (Z0 (y6 (z7f (se_c z8v (z3 0) z0E) (z0U (se_c z8v (z3 0) z0E)))) Z4))
noncomputable def z2z:G->M Out :=
 (Z2 (sRet (eIsi "tuple" (eVar 0))) bNil)
noncomputable def z0h:List D->M D:=fun ds=>cln (runF 1 z2z ds)
theorem sc_is_tuple:FnScope ["thing"] ["thing"] (Z5 (top 7)):=⟨rfl,rfl,rfl,by decide +kernel,rfl,by decide +kernel,by decide +kernel⟩
theorem ok_is_tuple {P:Program}{w:World}{K:PySem.W.Frag}{mg:Str->Option Value}{base:Heap}(T:DefAt K "is_tuple" (top 7)) (mx:∀ v,PySem.W.nsIn K mainGlobals "is_tuple" = some (some v)->mg "is_tuple" = some v) (z_isinstance:mg "isinstance" = none) (z_tuple:mg "tuple" = none):Fn P w K mg base 1 "is_tuple" 1 z0h:=by
 obtain ⟨f,fd,hf,F⟩:=T
 have hb:Binds K fd ["thing"] []:=F.binds fun _ _ _ _ _ _ us hl=>(by obtain ⟨_,rfl⟩:=ar1 hl;rfl)
 exact Fn.cln <| Y1 F sc_is_tuple hb (mx _ hf) rfl fun cdv A outer s H E hcd hr=>(show SB (cxOf CX0 P w K mg base ["thing"] "is_tuple" (Z5 (top 7)) f cdv A outer s H E).nox EX0 (j7 (top 7)) z2z from
  have nd:(["thing"]:List Str).Nodup:=sc_is_tuple.nd
  (Z0 (y6 (z2H rfl z_isinstance rfl z_tuple (by decide +kernel) (by decide) (z3 0))) Z4))
noncomputable def z1l:G->M Out :=
 (Z2 (sRet (eAnd (eFn 1 z0h (z9 (eVar 0) aNil)) (e3 fLe fLe (eVar 1) (j3 fLen (z9 (eVar 0) aNil)) (eVar 2)))) bNil)
noncomputable def z04:List D->M D:=fun ds=>cln (runF 3 z1l ds)
theorem sc_is_tuple_of:FnScope ["thing","least","most"] ["thing","least","most"] (Z5 (top 8)):=⟨rfl,rfl,rfl,by decide +kernel,rfl,by decide +kernel,by decide +kernel⟩
theorem ok_is_tuple_of {P:Program}{w:World}{K:PySem.W.Frag}{mg:Str->Option Value}{base:Heap}(T:DefAt K "is_tuple_of" (top 8)) (mx:∀ v,PySem.W.nsIn K mainGlobals "is_tuple_of" = some (some v)->mg "is_tuple_of" = some v) (z_len:mg "len" = none) (F_is_tuple:Fn P w K mg base 1 "is_tuple" 1 z0h):Fn P w K mg base 2 "is_tuple_of" 3 z04:=by
 obtain ⟨f,fd,hf,F⟩:=T
 have hb:Binds K fd ["thing","least","most"] []:=F.binds fun _ _ _ _ _ _ us hl=>(by obtain ⟨_,_,_,rfl⟩:=ar3 hl;rfl)
 exact Fn.cln <| Y1 F sc_is_tuple_of hb (mx _ hf) rfl fun cdv A outer s H E hcd hr=>(show SB (cxOf CX0 P w K mg base ["thing","least","most"] "is_tuple_of" (Z5 (top 8)) f cdv A outer s H E).nox EX0 (j7 (top 8)) z1l from
  have nd:(["thing","least","most"]:List Str).Nodup:=sc_is_tuple_of.nd
  (Z0 (y6 (z0u (Z7 F_is_tuple (hr.mono (by decide)) rfl (z0 (z3 0) Z1)) (z0U (z9o z5I z5I (z3 1) (J2 rfl z_len (z0 (z3 0) Z1)) (z3 2))))) Z4))
noncomputable def z4B:G->M Out :=
 (Z2 (sRet (eOr (e2 (fEq false) (eVar 2) (fun _=>pure (.str ""))) (e2 (fIn false) (eVar 2) (e2 fIx (e2 fIx (eVar 0) (fun _=>pure (.int 1))) (eVar 1))))) bNil)
noncomputable def z2o:List D->M D:=fun ds=>cln (runF 3 z4B ds)
theorem sc_bears:FnScope ["machine","standing","name"] ["machine","standing","name"] (Z5 (top 10)):=⟨rfl,rfl,rfl,by decide +kernel,rfl,by decide +kernel,by decide +kernel⟩
theorem ok_bears {P:Program}{w:World}{K:PySem.W.Frag}{mg:Str->Option Value}{base:Heap}(T:DefAt K "bears" (top 10)) (mx:∀ v,PySem.W.nsIn K mainGlobals "bears" = some (some v)->mg "bears" = some v):Fn P w K mg base 1 "bears" 3 z2o:=by
 obtain ⟨f,fd,hf,F⟩:=T
 have hb:Binds K fd ["machine","standing","name"] []:=F.binds fun _ _ _ _ _ _ us hl=>(by obtain ⟨_,_,_,rfl⟩:=ar3 hl;rfl)
 exact Fn.cln <| Y1 F sc_bears hb (mx _ hf) rfl fun cdv A outer s H E hcd hr=>(show SB (cxOf CX0 P w K mg base ["machine","standing","name"] "bears" (Z5 (top 10)) f cdv A outer s H E).nox EX0 (j7 (top 10)) z4B from
  have nd:(["machine","standing","name"]:List Str).Nodup:=sc_bears.nd
  (Z0 (y6 (z7f (se_c z0k (z3 2) j8) (z0U (se_c z2F (z3 2) (Z9 (Z9 (z3 0) Z3) (z3 1)))))) Z4))
noncomputable def z2y:G->M Out :=
 (Z2 (sRet (clE (j3 (fAll true) (z9 (x8 [some 0,some 2,none] (Y6 (eVar 1)) (gN 2) (fun _=>pure true) (eFn 3 z2o (z9 (eVar 0) (z9 (eVar 2) (z9 (eVar 1) aNil))))) aNil)))) bNil)
noncomputable def z0V:List D->M D:=fun ds=>cln (runF 3 z2y ds)
theorem sc_is_borne:FnScope ["machine","standings","name"] ["machine","standings","name"] (Z5 (top 11)):=⟨rfl,rfl,rfl,by decide +kernel,rfl,by decide +kernel,by decide +kernel⟩
theorem ok_is_borne {P:Program}{w:World}{K:PySem.W.Frag}{mg:Str->Option Value}{base:Heap}(T:DefAt K "is_borne" (top 11)) (mx:∀ v,PySem.W.nsIn K mainGlobals "is_borne" = some (some v)->mg "is_borne" = some v) (z_any:mg "any" = none) (F_bears:Fn P w K mg base 1 "bears" 3 z2o):Fn P w K mg base 2 "is_borne" 3 z0V:=by
 obtain ⟨f,fd,hf,F⟩:=T
 have hb:Binds K fd ["machine","standings","name"] []:=F.binds fun _ _ _ _ _ _ us hl=>(by obtain ⟨_,_,_,rfl⟩:=ar3 hl;rfl)
 exact Fn.cln <| Y1 F sc_is_borne hb (mx _ hf) rfl fun cdv A outer s H E hcd hr=>(show SB (cxOf CX0 P w K mg base ["machine","standings","name"] "is_borne" (Z5 (top 11)) f cdv A outer s H E).nox EX0 (j7 (top 11)) z2y from
  have nd:(["machine","standings","name"]:List Str).Nodup:=sc_is_borne.nd
  (Z0 (y6 (z0K (zv0 rfl rfl z_any (z0 (z02 (N':=["machine","name","standing"]) (cap:=[some 0,some 2,none]) rfl (z0y (by first | rfl | kernel_rfl!)) (z0v (z3 1)) (fun _ _ _ _=>(y8 2 (show (["machine","name","standing"]:List Str).Nodup by decide +kernel))) (fun _ _ _ _=>z00) (fun _ _ _ _=>(Z7 F_bears (hr.mono (by decide)) rfl (z0 (z3 0) (z0 (z3 2) (z0 (z3 1) Z1)))))) Z1)))) Z4))
noncomputable def z1Y:G->M Out :=
 (Z2 (sIf (fun γ=>do let d ← e2 (fEq false) (e2 fIx (eVar 0) (fun _=>pure (.int 0))) (fun _=>pure (.str "mark")) γ;asB d) (Z2 (sRet (J9 (eVar 0) (z0e (fun _=>pure (.int 1))) z0d)) bNil) bNil) (Z2 (sRet (eIf (fun γ=>do let d ← e2 (fIn false) (e2 fIx (eVar 0) (fun _=>pure (.int 0))) (fun _=>pure c_RUNS) γ;asB d) (J9 (eVar 0) z0d (z0e (fun _=>pure (.int 2)))) (J9 (eVar 0) z0d (z0e (fun _=>pure (.int 1)))))) bNil))
noncomputable def z2B:List D->M D:=fun ds=>cln (runF 1 z1Y ds)
theorem sc_words_of:FnScope ["row"] ["row"] (Z5 (top 14)):=⟨rfl,rfl,rfl,by decide +kernel,rfl,by decide +kernel,by decide +kernel⟩
theorem ok_words_of {P:Program}{w:World}{K:PySem.W.Frag}{mg:Str->Option Value}{base:Heap}(T:DefAt K "words_of" (top 14)) (mx:∀ v,PySem.W.nsIn K mainGlobals "words_of" = some (some v)->mg "words_of" = some v) (C_RUNS:Cst K mg "RUNS" c_RUNS):Fn P w K mg base 1 "words_of" 1 z2B:=by
 obtain ⟨f,fd,hf,F⟩:=T
 have hb:Binds K fd ["row"] []:=F.binds fun _ _ _ _ _ _ us hl=>(by obtain ⟨_,rfl⟩:=ar1 hl;rfl)
 exact Fn.cln <| Y1 F sc_words_of hb (mx _ hf) rfl fun cdv A outer s H E hcd hr=>(show SB (cxOf CX0 P w K mg base ["row"] "words_of" (Z5 (top 14)) f cdv A outer s H E).nox EX0 (j7 (top 14)) z1Y from
  have nd:(["row"]:List Str).Nodup:=sc_words_of.nd
  (Z0 (s_if (sc_c z0k (Z9 (z3 0) Z3) j8) (Z0 (y6 (z0H (z3 0) (z16 Z3) z15)) Z4) Z4) (Z0 (y6 (z4l (sc_c z2F (Z9 (z3 0) Z3) (z4R C_RUNS rfl)) (z0H (z3 0) z15 (z16 Z3)) (z0H (z3 0) z15 (z16 Z3)))) Z4)))
noncomputable def z1V:G->M Out :=
 (Z2 (sIf (fun γ=>do let d ← e2 (fEq false) (e2 fIx (eVar 0) (fun _=>pure (.int 0))) (fun _=>pure (.str "mark")) γ;asB d) (Z2 (sRet (eTup aNil)) bNil) bNil) (Z2 (sRet (J9 (eVar 0) (z0e (j3 fLen (z9 (eFn 1 z2B (z9 (eVar 0) aNil)) aNil))) z0d)) bNil))
noncomputable def z0W:List D->M D:=fun ds=>cln (runF 1 z1V ds)
theorem sc_parts_of:FnScope ["row"] ["row"] (Z5 (top 15)):=⟨rfl,rfl,rfl,by decide +kernel,rfl,by decide +kernel,by decide +kernel⟩
theorem ok_parts_of {P:Program}{w:World}{K:PySem.W.Frag}{mg:Str->Option Value}{base:Heap}(T:DefAt K "parts_of" (top 15)) (mx:∀ v,PySem.W.nsIn K mainGlobals "parts_of" = some (some v)->mg "parts_of" = some v) (z_len:mg "len" = none) (F_words_of:Fn P w K mg base 1 "words_of" 1 z2B):Fn P w K mg base 2 "parts_of" 1 z0W:=by
 obtain ⟨f,fd,hf,F⟩:=T
 have hb:Binds K fd ["row"] []:=F.binds fun _ _ _ _ _ _ us hl=>(by obtain ⟨_,rfl⟩:=ar1 hl;rfl)
 exact Fn.cln <| Y1 F sc_parts_of hb (mx _ hf) rfl fun cdv A outer s H E hcd hr=>(show SB (cxOf CX0 P w K mg base ["row"] "parts_of" (Z5 (top 15)) f cdv A outer s H E).nox EX0 (j7 (top 15)) z1V from
  have nd:(["row"]:List Str).Nodup:=sc_parts_of.nd
  (Z0 (s_if (sc_c z0k (Z9 (z3 0) Z3) j8) (Z0 (y6 (Y0 Z1)) Z4) Z4) (Z0 (y6 (z0H (z3 0) (z16 (J2 rfl z_len (z0 (Z7 F_words_of (hr.mono (by decide)) rfl (z0 (z3 0) Z1)) Z1))) z15)) Z4)))
noncomputable def z31:G->M Out :=
 (Z2 (sIf (cNot (cVal (eFn 3 z04 (z9 (eVar 0) (z9 (fun _=>pure (.int 2)) (z9 (fun _=>pure (.int 2)) aNil)))))) (Z2 (sRet (fun _=>pure (.bl false))) bNil) bNil) (Z2 (sAsg (eVar 0) (gT 2 (J6 (gN 1) (J6 (gN 2) z1k)))) (Z2 (sIf (cOr (cNot (cVal (eFn 1 z0h (z9 (eVar 1) aNil)))) (cNot (cVal (eFn 1 z0h (z9 (eVar 2) aNil))))) (Z2 (sRet (fun _=>pure (.bl false))) bNil) bNil) (Z2 (sIf (cOr (fun γ=>do let d ← e2 (fEq false) (j3 fLen (z9 (eVar 2) aNil)) (fun _=>pure (.int 0)) γ;asB d) (fun γ=>do let d ← e2 fGt (e2 fAdd (j3 fLen (z9 (eVar 1) aNil)) (j3 fLen (z9 (eVar 2) aNil))) (fun _=>pure c_NUMBERS) γ;asB d)) (Z2 (sRet (fun _=>pure (.bl false))) bNil) bNil) (Z2 (sRet (clE (j3 (fAll false) (z9 (x8 [none] (Y6 (e2 fAdd (eVar 1) (eVar 2))) (gN 0) (fun _=>pure true) (eFn 3 J1 (z9 (eVar 0) (z9 (fun _=>pure (.int 0)) (z9 (e2 fSub (fun _=>pure c_MOST) (fun _=>pure (.int 1))) aNil))))) aNil)))) bNil)))))
noncomputable def z2w:List D->M D:=fun ds=>cln (runF 3 z31 ds)
theorem sc_is_told:FnScope ["thing","path","ring"] ["thing"] (Z5 (top 17)):=⟨rfl,rfl,rfl,by decide +kernel,rfl,by decide +kernel,by decide +kernel⟩
theorem ok_is_told {P:Program}{w:World}{K:PySem.W.Frag}{mg:Str->Option Value}{base:Heap}(T:DefAt K "is_told" (top 17)) (mx:∀ v,PySem.W.nsIn K mainGlobals "is_told" = some (some v)->mg "is_told" = some v) (C_MOST:Cst K mg "MOST" c_MOST) (C_NUMBERS:Cst K mg "NUMBERS" c_NUMBERS) (z_all:mg "all" = none) (z_len:mg "len" = none) (F_is_number_from:Fn P w K mg base 2 "is_number_from" 3 J1) (F_is_tuple:Fn P w K mg base 1 "is_tuple" 1 z0h) (F_is_tuple_of:Fn P w K mg base 2 "is_tuple_of" 3 z04):Fn P w K mg base 3 "is_told" 1 z2w:=by
 obtain ⟨f,fd,hf,F⟩:=T
 have hb:Binds K fd ["thing"] []:=F.binds fun _ _ _ _ _ _ us hl=>(by obtain ⟨_,rfl⟩:=ar1 hl;rfl)
 exact Fn.cln <| Y1 F sc_is_told hb (mx _ hf) rfl fun cdv A outer s H E hcd hr=>(show SB (cxOf CX0 P w K mg base ["thing","path","ring"] "is_told" (Z5 (top 17)) f cdv A outer s H E).nox EX0 (j7 (top 17)) z31 from
  have nd:(["thing","path","ring"]:List Str).Nodup:=sc_is_told.nd
  (Z0 (s_if (z07 (Y8 (Z7 F_is_tuple_of (hr.mono (by decide)) rfl (z0 (z3 0) (z0 Z3 (z0 Z3 Z1)))))) (Z0 (y6 z0E) Z4) Z4) (Z0 (z3a (z3 0) (z2I rfl (J5 (w6 1 nd) (J5 (w6 2 nd) z1P)))) (Z0 (s_if (SW.sc (z2l (z07 (Y8 (Z7 F_is_tuple (hr.mono (by decide)) rfl (z0 (z3 1) Z1)))) (z1f (z07 (Y8 (Z7 F_is_tuple (hr.mono (by decide)) rfl (z0 (z3 2) Z1))))))) (Z0 (y6 z0E) Z4) Z4) (Z0 (s_if (SW.sc (z2l (sc_c z0k (J2 rfl z_len (z0 (z3 2) Z1)) Z3) (z1f (sc_c z5F (x9 (J2 rfl z_len (z0 (z3 1) Z1)) (J2 rfl z_len (z0 (z3 2) Z1))) (z4R C_NUMBERS rfl))))) (Z0 (y6 z0E) Z4) Z4) (Z0 (y6 (z0K (z3U rfl rfl z_all (z0 (z02 (N':=["standing"]) (cap:=[none]) rfl (z0y (by first | rfl | kernel_rfl!)) (z0v (x9 (z3 1) (z3 2))) (fun _ _ _ _=>(y8 0 (show (["standing"]:List Str).Nodup by decide +kernel))) (fun _ _ _ _=>z00) (fun _ _ _ _=>(Z7 F_is_number_from (hr.mono (by decide)) rfl (z0 (z3 0) (z0 Z3 (z0 (z1B (z4R C_MOST rfl) Z3) Z1)))))) Z1)))) Z4))))))
noncomputable def z28:G->M Out :=
 (Z2 (sIf (cNot (cVal (eFn 1 z2w (z9 (eVar 1) aNil)))) (Z2 (sRet (fun _=>pure (.bl false))) bNil) bNil) (Z2 (sAsg (eVar 1) (gT 2 (J6 (gN 2) (J6 (gN 3) z1k)))) (Z2 (sAsg (e2 fAdd (eVar 2) (eVar 3)) (gN 4)) (Z2 (sIf (fun γ=>do let d ← e2 fGe (j3 z6R (z9 (eVar 4) aNil)) (j3 fLen (z9 (e2 fIx (eVar 0) (fun _=>pure (.int 0))) aNil)) γ;asB d) (Z2 (sRet (fun _=>pure (.bl false))) bNil) bNil) (Z2 (sRet (clE (j3 (fAll false) (z9 (x8 [some 0,none,none] (iZip (eVar 4) (e2 fAdd (J9 (eVar 4) (z0e (fun _=>pure (.int 1))) z0d) (J9 (eVar 3) z0d (z0e (fun _=>pure (.int 1)))))) (gT 2 (J6 (gN 1) (J6 (gN 2) z1k))) (fun _=>pure true) (e2 (fIn false) (eVar 2) (e2 fIx (e2 fIx (eVar 0) (fun _=>pure (.int 0))) (eVar 1)))) aNil)))) bNil)))))
noncomputable def z1x:List D->M D:=fun ds=>cln (runF 5 z28 ds)
theorem sc_right_run:FnScope ["machine","thing","path","ring","row"] ["machine","thing"] (Z5 (top 18)):=⟨rfl,rfl,rfl,by decide +kernel,rfl,by decide +kernel,by decide +kernel⟩
theorem ok_right_run {P:Program}{w:World}{K:PySem.W.Frag}{mg:Str->Option Value}{base:Heap}(T:DefAt K "right_run" (top 18)) (mx:∀ v,PySem.W.nsIn K mainGlobals "right_run" = some (some v)->mg "right_run" = some v) (z_all:mg "all" = none) (z_len:mg "len" = none) (z_max:mg "max" = none) (z_zip:mg "zip" = none) (F_is_told:Fn P w K mg base 3 "is_told" 1 z2w):Fn P w K mg base 4 "right_run" 2 z1x:=by
 obtain ⟨f,fd,hf,F⟩:=T
 have hb:Binds K fd ["machine","thing"] []:=F.binds fun _ _ _ _ _ _ us hl=>(by obtain ⟨_,_,rfl⟩:=ar2 hl;rfl)
 exact Fn.cln <| Y1 F sc_right_run hb (mx _ hf) rfl fun cdv A outer s H E hcd hr=>(show SB (cxOf CX0 P w K mg base ["machine","thing","path","ring","row"] "right_run" (Z5 (top 18)) f cdv A outer s H E).nox EX0 (j7 (top 18)) z28 from
  have nd:(["machine","thing","path","ring","row"]:List Str).Nodup:=sc_right_run.nd
  (Z0 (s_if (z07 (Y8 (Z7 F_is_told (hr.mono (by decide)) rfl (z0 (z3 1) Z1)))) (Z0 (y6 z0E) Z4) Z4) (Z0 (z3a (z3 1) (z2I rfl (J5 (w6 2 nd) (J5 (w6 3 nd) z1P)))) (Z0 (J7 4 nd (x9 (z3 2) (z3 3))) (Z0 (s_if (sc_c z7y (zk0 rfl rfl z_max (z0 (z3 4) Z1)) (J2 rfl z_len (z0 (Z9 (z3 0) Z3) Z1))) (Z0 (y6 z0E) Z4) Z4) (Z0 (y6 (z0K (z3U rfl rfl z_all (z0 (z02 (N':=["machine","standing","other"]) (cap:=[some 0,none,none]) rfl (z0y (by first | rfl | kernel_rfl!)) (zt8 rfl rfl z_zip (z3 4) (x9 (z0H (z3 4) (z16 Z3) z15) (z0H (z3 3) z15 (z16 Z3)))) (fun _ _ _ _=>(z8d rfl (z2Z (y8 1 (show (["machine","standing","other"]:List Str).Nodup by decide +kernel)) (z2Z (y8 2 (show (["machine","standing","other"]:List Str).Nodup by decide +kernel)) z6i)))) (fun _ _ _ _=>z00) (fun _ _ _ _=>(se_c z2F (z3 2) (Z9 (Z9 (z3 0) Z3) (z3 1))))) Z1)))) Z4))))))
noncomputable def z2T:G->M Out :=
 (Z2 (sAsg (e2 fIx (eVar 1) (fun _=>pure (.int 1))) (gN 3)) (Z2 (sRet (clE (j3 (fAll false) (z9 (x8 [some 0,some 3,none,none] (Y6 (eVar 2)) (gT 2 (J6 (gN 2) (J6 (gN 3) z1k))) (fun _=>pure true) (eOr (eFn 3 z0V (z9 (eVar 0) (z9 (eVar 1) (z9 (eVar 3) aNil)))) (eNot (eFn 3 z0V (z9 (eVar 0) (z9 (eVar 1) (z9 (eVar 2) aNil))))))) aNil)))) bNil))
noncomputable def z13:List D->M D:=fun ds=>cln (runF 4 z2T ds)
theorem sc_is_fair:FnScope ["machine","run","wishes","ring"] ["machine","run","wishes"] (Z5 (top 19)):=⟨rfl,rfl,rfl,by decide +kernel,rfl,by decide +kernel,by decide +kernel⟩
theorem ok_is_fair {P:Program}{w:World}{K:PySem.W.Frag}{mg:Str->Option Value}{base:Heap}{dk:Addr}(T:DefK K "is_fair" (top 19) dk) (mx:∀ v,PySem.W.nsIn K mainGlobals "is_fair" = some (some v)->mg "is_fair" = some v) (z_all:mg "all" = none) (F_is_borne:Fn P w K mg base 2 "is_borne" 3 z0V):FnR P w K mg base 3 "is_fair" (top 19) dk ["machine","run","wishes"] z13 :=
 FnR.cln <| z9L T mx sc_is_fair fun f cdv A outer s H E hcd hr=>(show SB (cxOf CX0 P w K mg base ["machine","run","wishes","ring"] "is_fair" (Z5 (top 19)) f cdv A outer s H E).nox EX0 (j7 (top 19)) z2T from
  have nd:(["machine","run","wishes","ring"]:List Str).Nodup:=sc_is_fair.nd
  (Z0 (J7 3 nd (Z9 (z3 1) Z3)) (Z0 (y6 (z0K (z3U rfl rfl z_all (z0 (z02 (N':=["machine","ring","when","then"]) (cap:=[some 0,some 3,none,none]) rfl (z0y (by first | rfl | kernel_rfl!)) (z0v (z3 2)) (fun _ _ _ _=>(z8d rfl (z2Z (y8 2 (show (["machine","ring","when","then"]:List Str).Nodup by decide +kernel)) (z2Z (y8 3 (show (["machine","ring","when","then"]:List Str).Nodup by decide +kernel)) z6i)))) (fun _ _ _ _=>z00) (fun _ _ _ _=>(z7f (Z7 F_is_borne (hr.mono (by decide)) rfl (z0 (z3 0) (z0 (z3 1) (z0 (z3 3) Z1)))) (z0U (z3E (Z7 F_is_borne (hr.mono (by decide)) rfl (z0 (z3 0) (z0 (z3 1) (z0 (z3 2) Z1))))))))) Z1)))) Z4)))
theorem pt_is_fair__kwishes {P:Program}{w:World}{K:PySem.W.Frag}{mg:Str->Option Value}{base:Heap}{dk:Addr}(F:FnR P w K mg base 3 "is_fair" (top 19) dk ["machine","run","wishes"] z13):FnP P w K mg base 3 "is_fair" 2 ["wishes"] [] [] z13 :=
 F.pat 2 ["wishes"] .nil .nil z36 z36 (by decide) rfl fun doc pm an cdv ct s us ws X h1 h2=>match us,h1,ws,h2 with | [_,_],_,[_],_=>.of_eq rfl
noncomputable def z1i:G->M Out :=
 (Z2 (sAsg (eVar 0) (gT 2 (J6 (gN 2) (J6 (gN 3) z1k)))) (Z2 (sIf (fun γ=>do let d ← e2 fLt (eVar 1) (j3 fLen (z9 (eVar 2) aNil)) γ;asB d) (Z2 (sRet (e2 fIx (eVar 2) (eVar 1))) bNil) bNil) (Z2 (sRet (e2 fIx (eVar 3) (e2 fMod (e2 fSub (eVar 1) (j3 fLen (z9 (eVar 2) aNil))) (j3 fLen (z9 (eVar 3) aNil))))) bNil)))
noncomputable def J4:List D->M D:=fun ds=>cln (runF 4 z1i ds)
theorem sc_standing_at:FnScope ["run","place","path","ring"] ["run","place"] (Z5 (top 20)):=⟨rfl,rfl,rfl,by decide +kernel,rfl,by decide +kernel,by decide +kernel⟩
theorem ok_standing_at {P:Program}{w:World}{K:PySem.W.Frag}{mg:Str->Option Value}{base:Heap}(T:DefAt K "standing_at" (top 20)) (mx:∀ v,PySem.W.nsIn K mainGlobals "standing_at" = some (some v)->mg "standing_at" = some v) (z_len:mg "len" = none):Fn P w K mg base 1 "standing_at" 2 J4:=by
 obtain ⟨f,fd,hf,F⟩:=T
 have hb:Binds K fd ["run","place"] []:=F.binds fun _ _ _ _ _ _ us hl=>(by obtain ⟨_,_,rfl⟩:=ar2 hl;rfl)
 exact Fn.cln <| Y1 F sc_standing_at hb (mx _ hf) rfl fun cdv A outer s H E hcd hr=>(show SB (cxOf CX0 P w K mg base ["run","place","path","ring"] "standing_at" (Z5 (top 20)) f cdv A outer s H E).nox EX0 (j7 (top 20)) z1i from
  have nd:(["run","place","path","ring"]:List Str).Nodup:=sc_standing_at.nd
  (Z0 (z3a (z3 0) (z2I rfl (J5 (w6 2 nd) (J5 (w6 3 nd) z1P)))) (Z0 (s_if (sc_c z4N (z3 1) (J2 rfl z_len (z0 (z3 2) Z1))) (Z0 (y6 (Z9 (z3 2) (z3 1))) Z4) Z4) (Z0 (y6 (Z9 (z3 3) (z2m (z1B (z3 1) (J2 rfl z_len (z0 (z3 2) Z1))) (J2 rfl z_len (z0 (z3 3) Z1))))) Z4))))
noncomputable def z2g:G->M Out :=
 (Z2 (sRet (eAnd (e2 (fIn false) (e2 fIx (eVar 0) (fun _=>pure (.int 0))) (fun _=>pure c_RUNS)) (e2 (fEqX false) (eVar 1) (e2 (fEq false) (e2 fIx (eVar 0) (fun _=>pure (.int 0))) (fun _=>pure (.str "some")))))) bNil)
noncomputable def z1E:List D->M D:=fun ds=>cln (runF 2 z2g ds)
theorem sc_shows_run:FnScope ["row","truth"] ["row","truth"] (Z5 (top 25)):=⟨rfl,rfl,rfl,by decide +kernel,rfl,by decide +kernel,by decide +kernel⟩
theorem ok_shows_run {P:Program}{w:World}{K:PySem.W.Frag}{mg:Str->Option Value}{base:Heap}(T:DefAt K "shows_run" (top 25)) (mx:∀ v,PySem.W.nsIn K mainGlobals "shows_run" = some (some v)->mg "shows_run" = some v) (C_RUNS:Cst K mg "RUNS" c_RUNS):Fn P w K mg base 1 "shows_run" 2 z1E:=by
 obtain ⟨f,fd,hf,F⟩:=T
 have hb:Binds K fd ["row","truth"] []:=F.binds fun _ _ _ _ _ _ us hl=>(by obtain ⟨_,_,rfl⟩:=ar2 hl;rfl)
 exact Fn.cln <| Y1 F sc_shows_run hb (mx _ hf) rfl fun cdv A outer s H E hcd hr=>(show SB (cxOf CX0 P w K mg base ["row","truth"] "shows_run" (Z5 (top 25)) f cdv A outer s H E).nox EX0 (j7 (top 25)) z2g from
  have nd:(["row","truth"]:List Str).Nodup:=sc_shows_run.nd
  (Z0 (y6 (z0u (se_c z2F (Z9 (z3 0) Z3) (z4R C_RUNS rfl)) (z0U (se_c (z0i (hu30 hr)) (z3 1) (se_c z0k (Z9 (z3 0) Z3) j8))))) Z4))
noncomputable def z1n:G->M Out :=
 (Z2 (sRet (j3 z3Q (z9 (z6n [none] (Y6 (e2 fAdd (e2 fIx (eVar 0) (fun _=>pure (.int 0))) (e2 fIx (eVar 0) (fun _=>pure (.int 1))))) (gN 0) (fun _=>pure true) (eVar 0) (fun _=>pure (.bl true))) aNil))) bNil)
noncomputable def z10:List D->M D:=fun ds=>cln (runF 1 z1n ds)
theorem sc_unlike_ones:FnScope ["run"] ["run"] (Z5 (top 28)):=⟨rfl,rfl,rfl,by decide +kernel,rfl,by decide +kernel,by decide +kernel⟩
theorem ok_unlike_ones {P:Program}{w:World}{K:PySem.W.Frag}{mg:Str->Option Value}{base:Heap}(T:DefAt K "unlike_ones" (top 28)) (mx:∀ v,PySem.W.nsIn K mainGlobals "unlike_ones" = some (some v)->mg "unlike_ones" = some v) (z_list:mg "list" = none):Fn P w K mg base 1 "unlike_ones" 1 z10:=by
 obtain ⟨f,fd,hf,F⟩:=T
 have hb:Binds K fd ["run"] []:=F.binds fun _ _ _ _ _ _ us hl=>(by obtain ⟨_,rfl⟩:=ar1 hl;rfl)
 exact Fn.cln <| Y1 F sc_unlike_ones hb (mx _ hf) rfl fun cdv A outer s H E hcd hr=>(show SB (cxOf CX0 P w K mg base ["run"] "unlike_ones" (Z5 (top 28)) f cdv A outer s H E).nox EX0 (j7 (top 28)) z1n from
  have nd:(["run"]:List Str).Nodup:=sc_unlike_ones.nd
  (Z0 (y6 (z5U rfl rfl z_list (z0 (z9a (N':=["standing"]) (cap:=[none]) rfl (z0y (by first | rfl | kernel_rfl!)) (z0v (x9 (Z9 (z3 0) Z3) (Z9 (z3 0) Z3))) (fun _ _ _ _=>(y8 0 (show (["standing"]:List Str).Nodup by decide +kernel))) (fun _ _ _ _=>z00) (fun _ _ _ _=>(z3 0)) (fun _ _ _ _=>z0E)) Z1))) Z4))
noncomputable def z51:G->M Out :=
 (Z2 (z0M 5 [some 1,some 0,some 3,none] (z0J (eVar 4)) (gN 3) (fun _=>pure true) (eTup (z9 (eVar 0) (z9 (eFn 2 J4 (z9 (eVar 1) (z9 (eVar 3) aNil))) (z9 (eVar 2) aNil))))) (Z2 (sRet (e2 fAdd (eVar 5) (x8 [some 0,some 4,some 3,none] (Y6 (eVar 2)) (gN 3) (fun _=>pure true) (eTup (z9 (eVar 3) (z9 (eFn 2 J4 (z9 (eVar 0) (z9 (eVar 1) aNil))) (z9 (eVar 2) aNil))))))) bNil))
noncomputable def z3v:List D->M D:=fun ds=>cln (runF 6 z51 ds)
theorem sc_leaving:FnScope ["run","stay","leave","truth","place","kids"] ["run","stay","leave","truth","place"] (Z5 (top 29)):=⟨rfl,rfl,rfl,by decide +kernel,rfl,by decide +kernel,by decide +kernel⟩
theorem ok_leaving {P:Program}{w:World}{K:PySem.W.Frag}{mg:Str->Option Value}{base:Heap}(T:DefAt K "leaving" (top 29)) (mx:∀ v,PySem.W.nsIn K mainGlobals "leaving" = some (some v)->mg "leaving" = some v) (z_range:mg "range" = none) (F_standing_at:Fn P w K mg base 1 "standing_at" 2 J4):Fn P w K mg base 2 "leaving" 5 z3v:=by
 obtain ⟨f,fd,hf,F⟩:=T
 have hb:Binds K fd ["run","stay","leave","truth","place"] []:=F.binds fun _ _ _ _ _ _ us hl=>(by obtain ⟨_,_,_,_,_,rfl⟩:=ar5 hl;rfl)
 exact Fn.cln <| Y1 F sc_leaving hb (mx _ hf) rfl fun cdv A outer s H E hcd hr=>(show SB (cxOf CX0 P w K mg base ["run","stay","leave","truth","place","kids"] "leaving" (Z5 (top 29)) f cdv A outer s H E).nox EX0 (j7 (top 29)) z51 from
  have nd:(["run","stay","leave","truth","place","kids"]:List Str).Nodup:=sc_leaving.nd
  (Z0 (z2i 5 (N':=["stay","run","truth","ahead"]) (cap:=[some 1,some 0,some 3,none]) rfl (z0y (by first | rfl | kernel_rfl!)) (z0A rfl z_range (z3 4)) (fun _ _ _ _=>(y8 3 (show (["stay","run","truth","ahead"]:List Str).Nodup by decide +kernel))) (fun _ _ _ _=>z00) (fun _ _ _ _=>(Y0 (z0 (z3 0) (z0 (Z7 F_standing_at (hr.mono (by decide)) rfl (z0 (z3 1) (z0 (z3 3) Z1))) (z0 (z3 2) Z1))))) nd) (Z0 (y6 (x9 (z3 5) (z02 (N':=["run","place","truth","row"]) (cap:=[some 0,some 4,some 3,none]) rfl (z0y (by first | rfl | kernel_rfl!)) (z0v (z3 2)) (fun _ _ _ _=>(y8 3 (show (["run","place","truth","row"]:List Str).Nodup by decide +kernel))) (fun _ _ _ _=>z00) (fun _ _ _ _=>(Y0 (z0 (z3 3) (z0 (Z7 F_standing_at (hr.mono (by decide)) rfl (z0 (z3 0) (z0 (z3 1) Z1))) (z0 (z3 2) Z1)))))))) Z4)))
noncomputable def z1p:G->M Out :=
 (Z2 (sAsg (J9 (eVar 0) z0d (z0e (fun _=>pure (.int 2)))) (gT 2 (J6 (gN 3) (J6 (gN 4) z1k)))) (Z2 (sAsg (e2 (fEq false) (eVar 3) (fun _=>pure (.str "some"))) (gN 5)) (Z2 (sAsg (eTup (z9 (e2 fIx (eFn 1 z0W (z9 (eVar 0) aNil)) (fun _=>pure (.int 0))) (z9 (e2 fIx (eFn 1 z0W (z9 (eVar 0) aNil)) (eNeg (fun _=>pure (.int 1)))) aNil))) (gT 2 (J6 (gN 6) (J6 (gN 7) z1k)))) (Z2 (sIf (fun γ=>do let d ← e2 (fEq false) (eVar 4) (fun _=>pure (.str "next")) γ;asB d) (Z2 (sRet (eLst (z9 (eLst (z9 (eTup (z9 (eVar 6) (z9 (eFn 2 J4 (z9 (eVar 1) (z9 (fun _=>pure (.int 1)) aNil))) (z9 (eVar 5) aNil)))) aNil)) aNil))) bNil) bNil) (Z2 (sAsg (eFn 1 z10 (z9 (eVar 1) aNil)) (gN 8)) (Z2 (sIf (fun γ=>do let d ← e2 (fIn false) (eVar 4) (eTup (z9 (fun _=>pure (.str "once")) (z9 (fun _=>pure (.str "ever")) aNil))) γ;asB d) (Z2 (z0M 9 [some 6,some 5,none] (z1g (eVar 8)) (gN 2) (fun _=>pure true) (eTup (z9 (eVar 0) (z9 (eVar 2) (z9 (eVar 1) aNil))))) (Z2 (sRet (eIf (fun γ=>do let d ← e2 (fEqX false) (eVar 5) (e2 (fEq false) (eVar 4) (fun _=>pure (.str "ever"))) γ;asB d) (eLst (z9 (eVar 9) aNil)) (x8 [none] (z1g (eVar 9)) (gN 0) (fun _=>pure true) (eLst (z9 (eVar 0) aNil))))) bNil)) bNil) (Z2 (sAsg (eIf (cVal (eVar 5)) (eTup (z9 (eVar 6) (z9 (eLst (z9 (eVar 7) aNil)) aNil))) (eTup (z9 (eVar 7) (z9 (eLst (z9 (eVar 6) (z9 (eVar 7) aNil))) aNil)))) (gT 2 (J6 (gN 10) (J6 (gN 11) z1k)))) (Z2 (sAsg (eIf (fun γ=>do let d ← e2 fGe (eVar 2) (j3 fLen (z9 (eVar 11) aNil)) γ;asB d) (eLst (z9 (eFn 5 z3v (z9 (eVar 1) (z9 (eVar 10) (z9 (eVar 11) (z9 (eVar 5) (z9 (e2 fSub (eVar 2) (j3 fLen (z9 (eVar 11) aNil))) aNil)))))) aNil)) (eLst aNil)) (gN 12)) (Z2 (sIf (fun γ=>do let d ← e2 (fEqX false) (eVar 5) (e2 (fEq false) (eVar 4) (fun _=>pure (.str "unless"))) γ;asB d) (Z2 (z1h (eM1 z09 (eVar 12) (x8 [some 10,some 5,none] (z1g (eVar 8)) (gN 2) (fun _=>pure true) (eTup (z9 (eVar 0) (z9 (eVar 2) (z9 (eVar 1) aNil))))))) bNil) bNil) (Z2 (sRet (eVar 12)) bNil))))))))))
noncomputable def z1r:List D->M D:=fun ds=>cln (runF 13 z1p ds)
theorem sc_run_choices:FnScope ["row","run","many","word","form","truth","first","last","unlike","kids","stay","leave","told"] ["row","run","many"] (Z5 (top 27)):=⟨rfl,rfl,rfl,by decide +kernel,rfl,by decide +kernel,by decide +kernel⟩
theorem ok_run_choices {P:Program}{w:World}{K:PySem.W.Frag}{mg:Str->Option Value}{base:Heap}(T:DefAt K "run_choices" (top 27)) (mx:∀ v,PySem.W.nsIn K mainGlobals "run_choices" = some (some v)->mg "run_choices" = some v) (z_len:mg "len" = none) (F_leaving:Fn P w K mg base 2 "leaving" 5 z3v) (F_parts_of:Fn P w K mg base 2 "parts_of" 1 z0W) (F_standing_at:Fn P w K mg base 1 "standing_at" 2 J4) (F_unlike_ones:Fn P w K mg base 1 "unlike_ones" 1 z10):Fn P w K mg base 3 "run_choices" 3 z1r:=by
 obtain ⟨f,fd,hf,F⟩:=T
 have hb:Binds K fd ["row","run","many"] []:=F.binds fun _ _ _ _ _ _ us hl=>(by obtain ⟨_,_,_,rfl⟩:=ar3 hl;rfl)
 exact Fn.cln <| Y1 F sc_run_choices hb (mx _ hf) rfl fun cdv A outer s H E hcd hr=>(show SB (cxOf CX0 P w K mg base ["row","run","many","word","form","truth","first","last","unlike","kids","stay","leave","told"] "run_choices" (Z5 (top 27)) f cdv A outer s H E).nox EX0 (j7 (top 27)) z1p from
  have nd:(["row","run","many","word","form","truth","first","last","unlike","kids","stay","leave","told"]:List Str).Nodup:=sc_run_choices.nd
  (Z0 (z3a (z0H (z3 0) z15 (z16 Z3)) (z2I rfl (J5 (w6 3 nd) (J5 (w6 4 nd) z1P)))) (Z0 (J7 5 nd (se_c z0k (z3 3) j8)) (Z0 (z3a (Y0 (z0 (Z9 (Z7 F_parts_of (hr.mono (by decide)) rfl (z0 (z3 0) Z1)) Z3) (z0 (Z9 (Z7 F_parts_of (hr.mono (by decide)) rfl (z0 (z3 0) Z1)) (z40 Z3)) Z1))) (z2I rfl (J5 (w6 6 nd) (J5 (w6 7 nd) z1P)))) (Z0 (s_if (sc_c z0k (z3 4) j8) (Z0 (y6 (J0 (z0 (J0 (z0 (Y0 (z0 (z3 6) (z0 (Z7 F_standing_at (hr.mono (by decide)) rfl (z0 (z3 1) (z0 Z3 Z1))) (z0 (z3 5) Z1)))) Z1)) Z1))) Z4) Z4) (Z0 (J7 8 nd (Z7 F_unlike_ones (hr.mono (by decide)) rfl (z0 (z3 1) Z1))) (Z0 (s_if (sc_c z2F (z3 4) (Y0 (z0 j8 (z0 j8 Z1)))) (Z0 (z2i 9 (N':=["first","truth","standing"]) (cap:=[some 6,some 5,none]) rfl (z0y (by first | rfl | kernel_rfl!)) (z25 (z3 8)) (fun _ _ _ _=>(y8 2 (show (["first","truth","standing"]:List Str).Nodup by decide +kernel))) (fun _ _ _ _=>z00) (fun _ _ _ _=>(Y0 (z0 (z3 0) (z0 (z3 2) (z0 (z3 1) Z1))))) nd) (Z0 (y6 (z4l (sc_c (z0i (hu30 hr)) (z3 5) (se_c z0k (z3 4) j8)) (J0 (z0 (z3 9) Z1)) (z02 (N':=["kid"]) (cap:=[none]) rfl (z0y (by first | rfl | kernel_rfl!)) (z25 (z3 9)) (fun _ _ _ _=>(y8 0 (show (["kid"]:List Str).Nodup by decide +kernel))) (fun _ _ _ _=>z00) (fun _ _ _ _=>(J0 (z0 (z3 0) Z1)))))) Z4)) Z4) (Z0 (z3a (z4l (Y8 (z3 5)) (Y0 (z0 (z3 6) (z0 (J0 (z0 (z3 7) Z1)) Z1))) (Y0 (z0 (z3 7) (z0 (J0 (z0 (z3 6) (z0 (z3 7) Z1))) Z1)))) (z2I rfl (J5 (w6 10 nd) (J5 (w6 11 nd) z1P)))) (Z0 (J7 12 nd (z4l (sc_c z7y (z3 2) (J2 rfl z_len (z0 (z3 11) Z1))) (J0 (z0 (Z7 F_leaving (hr.mono (by decide)) rfl (z0 (z3 1) (z0 (z3 10) (z0 (z3 11) (z0 (z3 5) (z0 (z1B (z3 2) (J2 rfl z_len (z0 (z3 11) Z1))) Z1)))))) Z1)) (J0 Z1))) (Z0 (s_if (sc_c (z0i (hu30 hr)) (z3 5) (se_c z0k (z3 4) j8)) (Z0 (z2K (z0X (z3 12) (z02 (N':=["stay","truth","standing"]) (cap:=[some 10,some 5,none]) rfl (z0y (by first | rfl | kernel_rfl!)) (z25 (z3 8)) (fun _ _ _ _=>(y8 2 (show (["stay","truth","standing"]:List Str).Nodup by decide +kernel))) (fun _ _ _ _=>z00) (fun _ _ _ _=>(Y0 (z0 (z3 0) (z0 (z3 2) (z0 (z3 1) Z1)))))))) Z4) Z4) (Z0 (y6 (z3 12)) Z4)))))))))))
noncomputable def z0D:G->M Out :=
 (Z2 (sAsg (e2 fIx (eVar 1) (fun _=>pure (.int 0))) (gN 5)) (Z2 (sIf (fun γ=>do let d ← e2 (fIn false) (eVar 5) (eTup (z9 (fun _=>pure (.str "yes")) (z9 (fun _=>pure (.str "no")) aNil))) γ;asB d) (Z2 (sRet (eIf (fun γ=>do let d ← e2 (fEqX false) (eVar 3) (e2 (fEq false) (eVar 5) (fun _=>pure (.str "yes"))) γ;asB d) (eLst (z9 (eLst aNil) aNil)) (eLst aNil))) bNil) bNil) (Z2 (sIf (fun γ=>do let d ← e2 (fEq false) (eVar 5) (fun _=>pure (.str "mark")) γ;asB d) (Z2 (sRet (eIf (fun γ=>do let d ← e2 (fEqX false) (eVar 3) (eFn 3 z2o (z9 (eVar 0) (z9 (eVar 2) (z9 (e2 fIx (eVar 1) (fun _=>pure (.int 1))) aNil)))) γ;asB d) (eLst (z9 (eLst aNil) aNil)) (eLst aNil))) bNil) bNil) (Z2 (sIf (fun γ=>do let d ← e2 (fIn false) (eVar 5) (fun _=>pure c_RUNS) γ;asB d) (Z2 (sRet (eIf (fun γ=>do let d ← e2 (fEqX false) (eVar 3) (eVar 4) γ;asB d) (eLst (z9 (eLst aNil) aNil)) (eLst aNil))) bNil) bNil) (Z2 (sAsg (eFn 1 z0W (z9 (eVar 1) aNil)) (gN 6)) (Z2 (sIf (fun γ=>do let d ← e2 (fEq false) (eVar 5) (fun _=>pure (.str "not")) γ;asB d) (Z2 (sRet (eLst (z9 (eLst (z9 (eTup (z9 (e2 fIx (eVar 6) (fun _=>pure (.int 0))) (z9 (eVar 2) (z9 (eNot (eVar 3)) aNil)))) aNil)) aNil))) bNil) bNil) (Z2 (sIf (fun γ=>do let d ← e2 (fEq false) (eVar 5) (fun _=>pure (.str "step")) γ;asB d) (Z2 (z0M 7 [some 6,some 3,none] (Y6 (e2 fIx (e2 fIx (eVar 0) (fun _=>pure (.int 0))) (eVar 2))) (gN 2) (fun _=>pure true) (eTup (z9 (e2 fIx (eVar 0) (fun _=>pure (.int 0))) (z9 (eVar 2) (z9 (eVar 1) aNil))))) (Z2 (sRet (eIf (cVal (eVar 3)) (x8 [none] (Y6 (eVar 7)) (gN 0) (fun _=>pure true) (eLst (z9 (eVar 0) aNil))) (eLst (z9 (eVar 7) aNil)))) bNil)) bNil) (Z2 (z0M 7 [some 2,some 3,none] (Y6 (eVar 6)) (gN 2) (fun _=>pure true) (eTup (z9 (eVar 2) (z9 (eVar 0) (z9 (eVar 1) aNil))))) (Z2 (sRet (eIf (fun γ=>do let d ← e2 (fEqX false) (eVar 3) (e2 (fEq false) (eVar 5) (fun _=>pure (.str "and"))) γ;asB d) (eLst (z9 (eVar 7) aNil)) (x8 [none] (Y6 (eVar 7)) (gN 0) (fun _=>pure true) (eLst (z9 (eVar 0) aNil))))) bNil)))))))))
noncomputable def z0Y:List D->M D:=fun ds=>cln (runF 8 z0D ds)
theorem sc_plain_choices:FnScope ["machine","row","standing","truth","listed","word","parts","kids"] ["machine","row","standing","truth","listed"] (Z5 (top 26)):=⟨rfl,rfl,rfl,by decide +kernel,rfl,by decide +kernel,by decide +kernel⟩
theorem ok_plain_choices {P:Program}{w:World}{K:PySem.W.Frag}{mg:Str->Option Value}{base:Heap}(T:DefAt K "plain_choices" (top 26)) (mx:∀ v,PySem.W.nsIn K mainGlobals "plain_choices" = some (some v)->mg "plain_choices" = some v) (C_RUNS:Cst K mg "RUNS" c_RUNS) (F_bears:Fn P w K mg base 1 "bears" 3 z2o) (F_parts_of:Fn P w K mg base 2 "parts_of" 1 z0W):Fn P w K mg base 3 "plain_choices" 5 z0Y:=by
 obtain ⟨f,fd,hf,F⟩:=T
 have hb:Binds K fd ["machine","row","standing","truth","listed"] []:=F.binds fun _ _ _ _ _ _ us hl=>(by obtain ⟨_,_,_,_,_,rfl⟩:=ar5 hl;rfl)
 exact Fn.cln <| Y1 F sc_plain_choices hb (mx _ hf) rfl fun cdv A outer s H E hcd hr=>(show SB (cxOf CX0 P w K mg base ["machine","row","standing","truth","listed","word","parts","kids"] "plain_choices" (Z5 (top 26)) f cdv A outer s H E).nox EX0 (j7 (top 26)) z0D from
  have nd:(["machine","row","standing","truth","listed","word","parts","kids"]:List Str).Nodup:=sc_plain_choices.nd
  (Z0 (J7 5 nd (Z9 (z3 1) Z3)) (Z0 (s_if (sc_c z2F (z3 5) (Y0 (z0 j8 (z0 j8 Z1)))) (Z0 (y6 (z4l (sc_c (z0i (hu30 hr)) (z3 3) (se_c z0k (z3 5) j8)) (J0 (z0 (J0 Z1) Z1)) (J0 Z1))) Z4) Z4) (Z0 (s_if (sc_c z0k (z3 5) j8) (Z0 (y6 (z4l (sc_c (z0i (hu30 hr)) (z3 3) (Z7 F_bears (hr.mono (by decide)) rfl (z0 (z3 0) (z0 (z3 2) (z0 (Z9 (z3 1) Z3) Z1))))) (J0 (z0 (J0 Z1) Z1)) (J0 Z1))) Z4) Z4) (Z0 (s_if (sc_c z2F (z3 5) (z4R C_RUNS rfl)) (Z0 (y6 (z4l (sc_c (z0i (hu30 hr)) (z3 3) (z3 4)) (J0 (z0 (J0 Z1) Z1)) (J0 Z1))) Z4) Z4) (Z0 (J7 6 nd (Z7 F_parts_of (hr.mono (by decide)) rfl (z0 (z3 1) Z1))) (Z0 (s_if (sc_c z0k (z3 5) j8) (Z0 (y6 (J0 (z0 (J0 (z0 (Y0 (z0 (Z9 (z3 6) Z3) (z0 (z3 2) (z0 (z3E (z3 3)) Z1)))) Z1)) Z1))) Z4) Z4) (Z0 (s_if (sc_c z0k (z3 5) j8) (Z0 (z2i 7 (N':=["parts","truth","other"]) (cap:=[some 6,some 3,none]) rfl (z0y (by first | rfl | kernel_rfl!)) (z0v (Z9 (Z9 (z3 0) Z3) (z3 2))) (fun _ _ _ _=>(y8 2 (show (["parts","truth","other"]:List Str).Nodup by decide +kernel))) (fun _ _ _ _=>z00) (fun _ _ _ _=>(Y0 (z0 (Z9 (z3 0) Z3) (z0 (z3 2) (z0 (z3 1) Z1))))) nd) (Z0 (y6 (z4l (Y8 (z3 3)) (z02 (N':=["kid"]) (cap:=[none]) rfl (z0y (by first | rfl | kernel_rfl!)) (z0v (z3 7)) (fun _ _ _ _=>(y8 0 (show (["kid"]:List Str).Nodup by decide +kernel))) (fun _ _ _ _=>z00) (fun _ _ _ _=>(J0 (z0 (z3 0) Z1)))) (J0 (z0 (z3 7) Z1)))) Z4)) Z4) (Z0 (z2i 7 (N':=["standing","truth","part"]) (cap:=[some 2,some 3,none]) rfl (z0y (by first | rfl | kernel_rfl!)) (z0v (z3 6)) (fun _ _ _ _=>(y8 2 (show (["standing","truth","part"]:List Str).Nodup by decide +kernel))) (fun _ _ _ _=>z00) (fun _ _ _ _=>(Y0 (z0 (z3 2) (z0 (z3 0) (z0 (z3 1) Z1))))) nd) (Z0 (y6 (z4l (sc_c (z0i (hu30 hr)) (z3 3) (se_c z0k (z3 5) j8)) (J0 (z0 (z3 7) Z1)) (z02 (N':=["kid"]) (cap:=[none]) rfl (z0y (by first | rfl | kernel_rfl!)) (z0v (z3 7)) (fun _ _ _ _=>(y8 0 (show (["kid"]:List Str).Nodup by decide +kernel))) (fun _ _ _ _=>z00) (fun _ _ _ _=>(J0 (z0 (z3 0) Z1)))))) Z4))))))))))
noncomputable def z2x:G->M Out :=
 (Z2 (sAsg (eVar 4) (gT 5 (J6 (gN 6) (J6 (gN 7) (J6 (gN 8) (J6 (gN 9) (J6 (gN 10) z1k))))))) (Z2 (sAsg (e2 fIx (eVar 1) (eVar 6)) (gN 11)) (Z2 (z0M 12 [some 3,none] (Y6 (eVar 10)) (gN 1) (fun _=>pure true) (J9 (e2 fIx (eVar 0) (eVar 1)) z0d (z0e (fun _=>pure (.int 3))))) (Z2 (sIf (cNot (cVal (eFn 2 z1E (z9 (eVar 11) (z9 (eVar 8) aNil))))) (Z2 (sRet (eAnd (e2 (fIs false) (eVar 9) (fun _=>pure .non)) (e2 (fInX false) (eVar 12) (eFn 5 z0Y (z9 (eVar 0) (z9 (eVar 11) (z9 (eVar 7) (z9 (eVar 8) (z9 (e2 (fIn false) (eVar 7) (e2 fIx (eVar 2) (eVar 6))) aNil))))))))) bNil) bNil) (Z2 (sIf (cOr (cNot (cVal (eFn 2 z1x (z9 (eVar 0) (z9 (eVar 9) aNil))))) (cOr (fun γ=>do let d ← e2 (fEqX true) (eFn 2 J4 (z9 (eVar 9) (z9 (fun _=>pure (.int 0)) aNil))) (eVar 7) γ;asB d) (cNot (cVal (eFnP 2 1 [] [] z13 (z9 (eVar 0) (z9 (eVar 9) aNil)) (z9 (eVar 5) aNil)))))) (Z2 (sRet (fun _=>pure (.bl false))) bNil) bNil) (Z2 (sRet (e2 (fInX false) (eVar 12) (eFn 3 z1r (z9 (eVar 11) (z9 (eVar 9) (z9 (j3 fLen (z9 (eVar 10) aNil)) aNil)))))) bNil))))))
noncomputable def z1w:List D->M D:=fun ds=>cln (runF 13 z2x ds)
theorem sc_is_right:FnScope ["machine","saying","sets","tree","node","wishes","number","standing","truth","run","kids","row","told"] ["machine","saying","sets","tree","node","wishes"] (Z5 (top 24)):=⟨rfl,rfl,rfl,by decide +kernel,rfl,by decide +kernel,by decide +kernel⟩
theorem ok_is_right {P:Program}{w:World}{K:PySem.W.Frag}{mg:Str->Option Value}{base:Heap}(T:DefAt K "is_right" (top 24)) (mx:∀ v,PySem.W.nsIn K mainGlobals "is_right" = some (some v)->mg "is_right" = some v) (z_len:mg "len" = none) (F_is_fair__kwishes:FnP P w K mg base 3 "is_fair" 2 ["wishes"] [] [] z13) (F_plain_choices:Fn P w K mg base 3 "plain_choices" 5 z0Y) (F_right_run:Fn P w K mg base 4 "right_run" 2 z1x) (F_run_choices:Fn P w K mg base 3 "run_choices" 3 z1r) (F_shows_run:Fn P w K mg base 1 "shows_run" 2 z1E) (F_standing_at:Fn P w K mg base 1 "standing_at" 2 J4):Fn P w K mg base 5 "is_right" 6 z1w:=by
 obtain ⟨f,fd,hf,F⟩:=T
 have hb:Binds K fd ["machine","saying","sets","tree","node","wishes"] []:=F.binds fun _ _ _ _ _ _ us hl=>(by obtain ⟨_,_,_,_,_,_,rfl⟩:=ar6 hl;rfl)
 exact Fn.cln <| Y1 F sc_is_right hb (mx _ hf) rfl fun cdv A outer s H E hcd hr=>(show SB (cxOf CX0 P w K mg base ["machine","saying","sets","tree","node","wishes","number","standing","truth","run","kids","row","told"] "is_right" (Z5 (top 24)) f cdv A outer s H E).nox EX0 (j7 (top 24)) z2x from
  have nd:(["machine","saying","sets","tree","node","wishes","number","standing","truth","run","kids","row","told"]:List Str).Nodup:=sc_is_right.nd
  (Z0 (z3a (z3 4) (z2I rfl (J5 (w6 6 nd) (J5 (w6 7 nd) (J5 (w6 8 nd) (J5 (w6 9 nd) (J5 (w6 10 nd) z1P))))))) (Z0 (J7 11 nd (Z9 (z3 1) (z3 6))) (Z0 (z2i 12 (N':=["tree","kid"]) (cap:=[some 3,none]) rfl (z0y (by first | rfl | kernel_rfl!)) (z0v (z3 10)) (fun _ _ _ _=>(y8 1 (show (["tree","kid"]:List Str).Nodup by decide +kernel))) (fun _ _ _ _=>z00) (fun _ _ _ _=>(z0H (Z9 (z3 0) (z3 1)) z15 (z16 Z3))) nd) (Z0 (s_if (z07 (Y8 (Z7 F_shows_run (hr.mono (by decide)) rfl (z0 (z3 11) (z0 (z3 8) Z1))))) (Z0 (y6 (z0u (se_c z8v (z3 9) z3Y) (z0U (se_c (z9R (hu30 hr)) (z3 12) (Z7 F_plain_choices (hr.mono (by decide)) rfl (z0 (z3 0) (z0 (z3 11) (z0 (z3 7) (z0 (z3 8) (z0 (se_c z2F (z3 7) (Z9 (z3 2) (z3 6))) Z1)))))))))) Z4) Z4) (Z0 (s_if (SW.sc (z2l (z07 (Y8 (Z7 F_right_run (hr.mono (by decide)) rfl (z0 (z3 0) (z0 (z3 9) Z1))))) (z2l (sc_c (z6d (hu30 hr)) (Z7 F_standing_at (hr.mono (by decide)) rfl (z0 (z3 9) (z0 Z3 Z1))) (z3 7)) (z1f (z07 (Y8 (z3s F_is_fair__kwishes (hr.mono (by decide)) rfl (z0 (z3 0) (z0 (z3 9) Z1)) (z5p (z3 5) z6c)))))))) (Z0 (y6 z0E) Z4) Z4) (Z0 (y6 (se_c (z9R (hu30 hr)) (z3 12) (Z7 F_run_choices (hr.mono (by decide)) rfl (z0 (z3 11) (z0 (z3 9) (z0 (J2 rfl z_len (z0 (z3 10) Z1)) Z1)))))) Z4)))))))
noncomputable def z2Y:G->M Out :=
 (Z2 (sIf (cNot (cVal (eFn 3 z04 (z9 (eVar 2) (z9 (fun _=>pure (.int 5)) (z9 (fun _=>pure (.int 5)) aNil)))))) (Z2 (sRet (fun _=>pure (.bl false))) bNil) bNil) (Z2 (sAsg (eVar 2) (gT 5 (J6 (gN 4) (J6 (gN 5) (J6 (gN 6) (J6 (gN 7) (J6 (gN 8) z1k))))))) (Z2 (sIf (cOr (cNot (cVal (eFn 3 J1 (z9 (eVar 4) (z9 (fun _=>pure (.int 0)) (z9 (e2 fSub (j3 fLen (z9 (eVar 1) aNil)) (fun _=>pure (.int 1))) aNil)))))) (cNot (cVal (eFn 3 J1 (z9 (eVar 5) (z9 (fun _=>pure (.int 0)) (z9 (e2 fSub (j3 fLen (z9 (e2 fIx (eVar 0) (fun _=>pure (.int 0))) aNil)) (fun _=>pure (.int 1))) aNil))))))) (Z2 (sRet (fun _=>pure (.bl false))) bNil) bNil) (Z2 (sRet (eAnd (eFn 1 z1X (z9 (eVar 6) aNil)) (eAnd (eFn 1 z0h (z9 (eVar 8) aNil)) (clE (j3 (fAll false) (z9 (x8 [some 3,none] (Y6 (eVar 8)) (gN 1) (fun _=>pure true) (eFn 3 J1 (z9 (eVar 1) (z9 (fun _=>pure (.int 0)) (z9 (e2 fSub (eVar 0) (fun _=>pure (.int 1))) aNil))))) aNil)))))) bNil))))
noncomputable def z1T:List D->M D:=fun ds=>cln (runF 9 z2Y ds)
theorem sc_is_node:FnScope ["machine","saying","thing","many","row","standing","truth","run","kids"] ["machine","saying","thing","many"] (Z5 (top 23)):=⟨rfl,rfl,rfl,by decide +kernel,rfl,by decide +kernel,by decide +kernel⟩
theorem ok_is_node {P:Program}{w:World}{K:PySem.W.Frag}{mg:Str->Option Value}{base:Heap}(T:DefAt K "is_node" (top 23)) (mx:∀ v,PySem.W.nsIn K mainGlobals "is_node" = some (some v)->mg "is_node" = some v) (z_all:mg "all" = none) (z_len:mg "len" = none) (F_is_number_from:Fn P w K mg base 2 "is_number_from" 3 J1) (F_is_truth:Fn P w K mg base 1 "is_truth" 1 z1X) (F_is_tuple:Fn P w K mg base 1 "is_tuple" 1 z0h) (F_is_tuple_of:Fn P w K mg base 2 "is_tuple_of" 3 z04):Fn P w K mg base 3 "is_node" 4 z1T:=by
 obtain ⟨f,fd,hf,F⟩:=T
 have hb:Binds K fd ["machine","saying","thing","many"] []:=F.binds fun _ _ _ _ _ _ us hl=>(by obtain ⟨_,_,_,_,rfl⟩:=ar4 hl;rfl)
 exact Fn.cln <| Y1 F sc_is_node hb (mx _ hf) rfl fun cdv A outer s H E hcd hr=>(show SB (cxOf CX0 P w K mg base ["machine","saying","thing","many","row","standing","truth","run","kids"] "is_node" (Z5 (top 23)) f cdv A outer s H E).nox EX0 (j7 (top 23)) z2Y from
  have nd:(["machine","saying","thing","many","row","standing","truth","run","kids"]:List Str).Nodup:=sc_is_node.nd
  (Z0 (s_if (z07 (Y8 (Z7 F_is_tuple_of (hr.mono (by decide)) rfl (z0 (z3 2) (z0 Z3 (z0 Z3 Z1)))))) (Z0 (y6 z0E) Z4) Z4) (Z0 (z3a (z3 2) (z2I rfl (J5 (w6 4 nd) (J5 (w6 5 nd) (J5 (w6 6 nd) (J5 (w6 7 nd) (J5 (w6 8 nd) z1P))))))) (Z0 (s_if (SW.sc (z2l (z07 (Y8 (Z7 F_is_number_from (hr.mono (by decide)) rfl (z0 (z3 4) (z0 Z3 (z0 (z1B (J2 rfl z_len (z0 (z3 1) Z1)) Z3) Z1)))))) (z1f (z07 (Y8 (Z7 F_is_number_from (hr.mono (by decide)) rfl (z0 (z3 5) (z0 Z3 (z0 (z1B (J2 rfl z_len (z0 (Z9 (z3 0) Z3) Z1)) Z3) Z1))))))))) (Z0 (y6 z0E) Z4) Z4) (Z0 (y6 (z0u (Z7 F_is_truth (hr.mono (by decide)) rfl (z0 (z3 6) Z1)) (z0u (Z7 F_is_tuple (hr.mono (by decide)) rfl (z0 (z3 8) Z1)) (z0U (z0K (z3U rfl rfl z_all (z0 (z02 (N':=["many","kid"]) (cap:=[some 3,none]) rfl (z0y (by first | rfl | kernel_rfl!)) (z0v (z3 8)) (fun _ _ _ _=>(y8 1 (show (["many","kid"]:List Str).Nodup by decide +kernel))) (fun _ _ _ _=>z00) (fun _ _ _ _=>(Z7 F_is_number_from (hr.mono (by decide)) rfl (z0 (z3 1) (z0 Z3 (z0 (z1B (z3 0) Z3) Z1)))))) Z1))))))) Z4)))))
noncomputable def z1K:G->M Out :=
 (Z2 (sIf (cOr (cNot (cVal (eFn 1 z0h (z9 (eVar 3) aNil)))) (fun γ=>do let d ← e2 (fEq false) (j3 fLen (z9 (eVar 3) aNil)) (fun _=>pure (.int 0)) γ;asB d)) (Z2 (sRet (fun _=>pure (.bl false))) bNil) bNil) (Z2 (sIf (cNot (cVal (clE (j3 (fAll false) (z9 (x8 [some 0,some 1,some 3,none] (Y6 (eVar 3)) (gN 3) (fun _=>pure true) (eFn 4 z1T (z9 (eVar 0) (z9 (eVar 1) (z9 (eVar 3) (z9 (j3 fLen (z9 (eVar 2) aNil)) aNil)))))) aNil))))) (Z2 (sRet (fun _=>pure (.bl false))) bNil) bNil) (Z2 (sRet (clE (j3 (fAll false) (z9 (x8 [some 0,some 1,some 2,some 3,some 4,none] (Y6 (eVar 3)) (gN 5) (fun _=>pure true) (eFn 6 z1w (z9 (eVar 0) (z9 (eVar 1) (z9 (eVar 2) (z9 (eVar 3) (z9 (eVar 5) (z9 (eVar 4) aNil)))))))) aNil)))) bNil)))
noncomputable def y9:List D->M D:=fun ds=>cln (runF 5 z1K ds)
theorem sc_right_tree:FnScope ["machine","saying","sets","thing","wishes"] ["machine","saying","sets","thing","wishes"] (Z5 (top 22)):=⟨rfl,rfl,rfl,by decide +kernel,rfl,by decide +kernel,by decide +kernel⟩
theorem ok_right_tree {P:Program}{w:World}{K:PySem.W.Frag}{mg:Str->Option Value}{base:Heap}{dk:Addr}(T:DefK K "right_tree" (top 22) dk) (mx:∀ v,PySem.W.nsIn K mainGlobals "right_tree" = some (some v)->mg "right_tree" = some v) (z_all:mg "all" = none) (z_len:mg "len" = none) (F_is_node:Fn P w K mg base 3 "is_node" 4 z1T) (F_is_right:Fn P w K mg base 5 "is_right" 6 z1w) (F_is_tuple:Fn P w K mg base 1 "is_tuple" 1 z0h):FnR P w K mg base 6 "right_tree" (top 22) dk ["machine","saying","sets","thing","wishes"] y9 :=
 FnR.cln <| z9L T mx sc_right_tree fun f cdv A outer s H E hcd hr=>(show SB (cxOf CX0 P w K mg base ["machine","saying","sets","thing","wishes"] "right_tree" (Z5 (top 22)) f cdv A outer s H E).nox EX0 (j7 (top 22)) z1K from
  have nd:(["machine","saying","sets","thing","wishes"]:List Str).Nodup:=sc_right_tree.nd
  (Z0 (s_if (SW.sc (z2l (z07 (Y8 (Z7 F_is_tuple (hr.mono (by decide)) rfl (z0 (z3 3) Z1)))) (z1f (sc_c z0k (J2 rfl z_len (z0 (z3 3) Z1)) Z3)))) (Z0 (y6 z0E) Z4) Z4) (Z0 (s_if (z07 (Y8 (z0K (z3U rfl rfl z_all (z0 (z02 (N':=["machine","saying","thing","node"]) (cap:=[some 0,some 1,some 3,none]) rfl (z0y (by first | rfl | kernel_rfl!)) (z0v (z3 3)) (fun _ _ _ _=>(y8 3 (show (["machine","saying","thing","node"]:List Str).Nodup by decide +kernel))) (fun _ _ _ _=>z00) (fun _ _ _ _=>(Z7 F_is_node (hr.mono (by decide)) rfl (z0 (z3 0) (z0 (z3 1) (z0 (z3 3) (z0 (J2 rfl z_len (z0 (z3 2) Z1)) Z1))))))) Z1))))) (Z0 (y6 z0E) Z4) Z4) (Z0 (y6 (z0K (z3U rfl rfl z_all (z0 (z02 (N':=["machine","saying","sets","thing","wishes","node"]) (cap:=[some 0,some 1,some 2,some 3,some 4,none]) rfl (z0y (by first | rfl | kernel_rfl!)) (z0v (z3 3)) (fun _ _ _ _=>(y8 5 (show (["machine","saying","sets","thing","wishes","node"]:List Str).Nodup by decide +kernel))) (fun _ _ _ _=>z00) (fun _ _ _ _=>(Z7 F_is_right (hr.mono (by decide)) rfl (z0 (z3 0) (z0 (z3 1) (z0 (z3 2) (z0 (z3 3) (z0 (z3 5) (z0 (z3 4) Z1))))))))) Z1)))) Z4))))
theorem pt_right_tree__k {P:Program}{w:World}{K:PySem.W.Frag}{mg:Str->Option Value}{base:Heap}{dk:Addr}{v_wishes:V}{u_wishes:Value}(D_wishes:KD K dk "wishes" c_FREE v_wishes u_wishes) (F:FnR P w K mg base 6 "right_tree" (top 22) dk ["machine","saying","sets","thing","wishes"] y9):FnP P w K mg base 6 "right_tree" 4 [] [] [c_FREE] y9 :=
 F.pat 4 [] .nil (.cons D_wishes.rel .nil) z36 (z8G D_wishes) (by decide) rfl fun doc pm an cdv ct s us ws X h1 h2=>match us,h1,ws,h2 with | [_,_,_,_],_,[],_=>fun M A E Q q=>z76 X D_wishes.ns rfl fun owishes hlwishes=>(by dsimp only [Sem.bind];rw [hlwishes];exact wpAny_pure q)
theorem pt_right_tree__kwishes {P:Program}{w:World}{K:PySem.W.Frag}{mg:Str->Option Value}{base:Heap}{dk:Addr}(F:FnR P w K mg base 6 "right_tree" (top 22) dk ["machine","saying","sets","thing","wishes"] y9):FnP P w K mg base 6 "right_tree" 4 ["wishes"] [] [] y9 :=
 F.pat 4 ["wishes"] .nil .nil z36 z36 (by decide) rfl fun doc pm an cdv ct s us ws X h1 h2=>match us,h1,ws,h2 with | [_,_,_,_],_,[_],_=>.of_eq rfl
noncomputable def z2c:G->M Out :=
 (Z2 (z0M 1 [none] (z1g (eVar 0)) (gN 0) (fun γ=>do let d ← e2 fGe (eVar 0) (e2 fPow (fun _=>pure (.int 10)) (fun _=>pure (.int 18))) γ;asB d) (eVar 0)) (Z2 (sRet (eLst (z9 (eVar 1) (z9 (x8 [none] (z1g (eVar 0)) (gN 0) (fun γ=>do let d ← e2 fLt (eVar 0) (e2 fPow (fun _=>pure (.int 10)) (fun _=>pure (.int 18))) γ;asB d) (eVar 0)) (z9 (fun _=>pure (.int 5)) (z9 (fun _=>pure (.int 0)) aNil)))))) bNil))
noncomputable def z21:List D->M D:=runF 2 z2c
theorem sc__law_pool:FnScope ["_law_script","_law_great"] ["_law_script"] (Z5 (top 31)):=⟨rfl,rfl,rfl,by decide +kernel,rfl,by decide +kernel,by decide +kernel⟩
theorem ok__law_pool {P:Program}{w:World}{K:PySem.W.Frag}{mg:Str->Option Value}{base:Heap}(T:DefAt K "_law_pool" (top 31)) (mx:∀ v,PySem.W.nsIn K mainGlobals "_law_pool" = some (some v)->mg "_law_pool" = some v):Fn P w K mg base 1 "_law_pool" 1 z21:=by
 obtain ⟨f,fd,hf,F⟩:=T
 have hb:Binds K fd ["_law_script"] []:=F.binds fun _ _ _ _ _ _ us hl=>(by obtain ⟨_,rfl⟩:=ar1 hl;rfl)
 exact  Y1 F sc__law_pool hb (mx _ hf) rfl fun cdv A outer s H E hcd hr=>(show SB (cxOf CX0 P w K mg base ["_law_script","_law_great"] "_law_pool" (Z5 (top 31)) f cdv A outer s H E).nox EX0 (j7 (top 31)) z2c from
  have nd:(["_law_script","_law_great"]:List Str).Nodup:=sc__law_pool.nd
  (Z0 (z2i 1 (N':=["_law_cell"]) (cap:=[none]) rfl (z0y (by first | rfl | kernel_rfl!)) (z25 (z3 0)) (fun _ _ _ _=>(y8 0 (show (["_law_cell"]:List Str).Nodup by decide +kernel))) (fun _ _ _ _=>(z1c (sc_c z7y (z3 0) (z8h Z3 Z3)))) (fun _ _ _ _=>(z3 0)) nd) (Z0 (y6 (J0 (z0 (z3 1) (z0 (z02 (N':=["_law_cell"]) (cap:=[none]) rfl (z0y (by first | rfl | kernel_rfl!)) (z25 (z3 0)) (fun _ _ _ _=>(y8 0 (show (["_law_cell"]:List Str).Nodup by decide +kernel))) (fun _ _ _ _=>(z1c (sc_c z4N (z3 0) (z8h Z3 Z3)))) (fun _ _ _ _=>(z3 0))) (z0 Z3 (z0 Z3 Z1)))))) Z4)))
noncomputable def z1G:G->M Out :=
 (Z2 (sIf (fun γ=>do let d ← e2 fGt (j3 fLen (z9 (e2 fIx (eVar 0) (fun _=>pure (.int 0))) aNil)) (fun _=>pure (.int 0)) γ;asB d) (Z2 (sAsg (e2 fIx (e2 fIx (eVar 0) (fun _=>pure (.int 0))) (fun _=>pure (.int 0))) (gN 2)) (Z2 (sAsg (e2 fDiv (eVar 2) (eVar 1)) (gIx (e2 fIx (eVar 0) (fun _=>pure (.int 0))) (fun _=>pure (.int 0)))) (Z2 (sIf (fun γ=>do let d ← e2 (fEq false) (e2 fDiv (eVar 2) (eVar 1)) (fun _=>pure (.int 0)) γ;asB d) (Z2 (z1h (eM1 z3X (e2 fIx (eVar 0) (fun _=>pure (.int 0))) (fun _=>pure (.int 0)))) bNil) bNil) (Z2 (sRet (e2 fMod (eVar 2) (eVar 1))) bNil)))) bNil) (Z2 (sAsg (e2 fAdd (e2 fIx (eVar 0) (fun _=>pure (.int 3))) (fun _=>pure (.int 1))) (gIx (eVar 0) (fun _=>pure (.int 3)))) (Z2 (sAsg (fun _=>pure (.int 0)) (gN 2)) (Z2 (sIf (fun γ=>do let d ← e2 fGt (j3 fLen (z9 (e2 fIx (eVar 0) (fun _=>pure (.int 1))) aNil)) (fun _=>pure (.int 0)) γ;asB d) (Z2 (sAsg (e2 fIx (e2 fIx (eVar 0) (fun _=>pure (.int 1))) (e2 fMod (e2 fIx (eVar 0) (fun _=>pure (.int 3))) (j3 fLen (z9 (e2 fIx (eVar 0) (fun _=>pure (.int 1))) aNil)))) (gN 2)) bNil) bNil) (Z2 (sAsg (e2 z4m (e2 fMod (eVar 2) (fun _=>pure (.int 2147483629))) (e2 fAdd (e2 z4m (e2 fIx (eVar 0) (fun _=>pure (.int 3))) (e2 fIx (eVar 0) (fun _=>pure (.int 3)))) (fun _=>pure (.int 1)))) (gN 2)) (Z2 (sAsg (e2 fMod (e2 fAdd (e2 fAdd (e2 z4m (e2 fIx (eVar 0) (fun _=>pure (.int 2))) (fun _=>pure (.int 48271))) (eVar 2)) (e2 z4m (fun _=>pure (.int 97)) (e2 fIx (eVar 0) (fun _=>pure (.int 3))))) (fun _=>pure (.int 2147483647))) (gIx (eVar 0) (fun _=>pure (.int 2)))) (Z2 (sRet (e2 fMod (e2 fDiv (e2 fMod (e2 fPow (e2 fIx (eVar 0) (fun _=>pure (.int 2))) (fun _=>pure (.int 5))) (fun _=>pure (.int 2147483629))) (fun _=>pure (.int 64))) (eVar 1))) bNil)))))))
noncomputable def Z6:List D->M D:=runF 3 z1G
theorem sc__law_draw:FnScope ["_law_pool_here","_law_many","_law_cell"] ["_law_pool_here","_law_many"] (Z5 (top 32)):=⟨rfl,rfl,rfl,by decide +kernel,rfl,by decide +kernel,by decide +kernel⟩
theorem ok__law_draw {P:Program}{w:World}{K:PySem.W.Frag}{mg:Str->Option Value}{base:Heap}(T:DefAt K "_law_draw" (top 32)) (mx:∀ v,PySem.W.nsIn K mainGlobals "_law_draw" = some (some v)->mg "_law_draw" = some v) (z_len:mg "len" = none):Fn P w K mg base 1 "_law_draw" 2 Z6:=by
 obtain ⟨f,fd,hf,F⟩:=T
 have hb:Binds K fd ["_law_pool_here","_law_many"] []:=F.binds fun _ _ _ _ _ _ us hl=>(by obtain ⟨_,_,rfl⟩:=ar2 hl;rfl)
 exact  Y1 F sc__law_draw hb (mx _ hf) rfl fun cdv A outer s H E hcd hr=>(show SB (cxOf CX0 P w K mg base ["_law_pool_here","_law_many","_law_cell"] "_law_draw" (Z5 (top 32)) f cdv A outer s H E).nox EX0 (j7 (top 32)) z1G from
  have nd:(["_law_pool_here","_law_many","_law_cell"]:List Str).Nodup:=sc__law_draw.nd
  (Z0 (s_if (sc_c z5F (J2 rfl z_len (z0 (Z9 (z3 0) Z3) Z1)) Z3) (Z0 (J7 2 nd (Z9 (Z9 (z3 0) Z3) Z3)) (Z0 (z3a (z6D (z3 2) (z3 1)) (zg2 (Z9 (z3 0) Z3) Z3)) (Z0 (s_if (sc_c z0k (z6D (z3 2) (z3 1)) Z3) (Z0 (z2K (z91 (Z9 (z3 0) Z3) Z3)) Z4) Z4) (Z0 (y6 (z2m (z3 2) (z3 1))) Z4)))) Z4) (Z0 (z3a (x9 (Z9 (z3 0) Z3) Z3) (zg2 (z3 0) Z3)) (Z0 (J7 2 nd Z3) (Z0 (s_if (sc_c z5F (J2 rfl z_len (z0 (Z9 (z3 0) Z3) Z1)) Z3) (Z0 (J7 2 nd (Z9 (Z9 (z3 0) Z3) (z2m (Z9 (z3 0) Z3) (J2 rfl z_len (z0 (Z9 (z3 0) Z3) Z1))))) Z4) Z4) (Z0 (J7 2 nd (z4x (z2m (z3 2) Z3) (x9 (z4x (Z9 (z3 0) Z3) (Z9 (z3 0) Z3)) Z3))) (Z0 (z3a (z2m (x9 (x9 (z4x (Z9 (z3 0) Z3) Z3) (z3 2)) (z4x Z3 (Z9 (z3 0) Z3))) Z3) (zg2 (z3 0) Z3)) (Z0 (y6 (z2m (z6D (z2m (z8h (Z9 (z3 0) Z3) Z3) Z3) Z3) (z3 1))) Z4))))))))
noncomputable def z1D:G->M Out :=
 (Z2 (sAsg (fun _=>pure (.str "abcdefghijklmnopqrstuvwxyz")) (gN 3)) (Z2 (sAsg (eVar 1) (gN 4)) (Z2 (sFor (z0J (eFn 2 Z6 (z9 (eVar 0) (z9 (fun _=>pure (.int 4)) aNil)))) (gN 5) (Z2 (sAsg (e2 fAdd (eVar 4) (e2 fIx (eVar 3) (eFn 2 Z6 (z9 (eVar 0) (z9 (fun _=>pure (.int 26)) aNil))))) (gN 4)) bNil)) (Z2 (sAsg (eFn 2 Z6 (z9 (eVar 0) (z9 (fun _=>pure (.int 26)) aNil))) (gN 6)) (Z2 (sAsg (eLst (z9 (fun _=>pure (.str "yes")) (z9 (fun _=>pure (.str "no")) (z9 (fun _=>pure (.str "not")) (z9 (fun _=>pure (.str "and")) (z9 (fun _=>pure (.str "or")) (z9 (fun _=>pure (.str "step")) (z9 (fun _=>pure (.str "some")) (z9 (fun _=>pure (.str "all")) (z9 (fun _=>pure (.str "next")) (z9 (fun _=>pure (.str "once")) (z9 (fun _=>pure (.str "ever")) (z9 (fun _=>pure (.str "until")) (z9 (fun _=>pure (.str "unless")) aNil)))))))))))))) (gN 7)) (Z2 (sFor (z0J (fun _=>pure (.int 26))) (gN 5) (Z2 (sAsg (e2 fAdd (eVar 4) (e2 fIx (eVar 3) (e2 fMod (e2 fAdd (eVar 6) (eVar 5)) (fun _=>pure (.int 26))))) (gN 8)) (Z2 (sIf (cAnd (fun γ=>do let d ← e2 (fIn true) (eVar 8) (eVar 7) γ;asB d) (fun γ=>do let d ← e2 (fIn true) (eVar 8) (eVar 2) γ;asB d)) (Z2 (sRet (eVar 8)) bNil) bNil) bNil))) (Z2 (sRet (e2 fAdd (eVar 4) (fun _=>pure (.str "x")))) bNil)))))))
noncomputable def z2b:List D->M D:=fun ds=>cln (runF 9 z1D ds)
theorem sc__law_name:FnScope ["_law_pool_here","_law_start","_law_taken","_law_letters","_law_name_here","_law_k","_law_last","_law_words","_law_found"] ["_law_pool_here","_law_start","_law_taken"] (Z5 (top 33)):=⟨rfl,rfl,rfl,by decide +kernel,rfl,by decide +kernel,by decide +kernel⟩
theorem ok__law_name {P:Program}{w:World}{K:PySem.W.Frag}{mg:Str->Option Value}{base:Heap}(T:DefAt K "_law_name" (top 33)) (mx:∀ v,PySem.W.nsIn K mainGlobals "_law_name" = some (some v)->mg "_law_name" = some v) (z_range:mg "range" = none) (F__law_draw:Fn P w K mg base 1 "_law_draw" 2 Z6):Fn P w K mg base 2 "_law_name" 3 z2b:=by
 obtain ⟨f,fd,hf,F⟩:=T
 have hb:Binds K fd ["_law_pool_here","_law_start","_law_taken"] []:=F.binds fun _ _ _ _ _ _ us hl=>(by obtain ⟨_,_,_,rfl⟩:=ar3 hl;rfl)
 exact Fn.cln <| Y1 F sc__law_name hb (mx _ hf) rfl fun cdv A outer s H E hcd hr=>(show SB (cxOf CX0 P w K mg base ["_law_pool_here","_law_start","_law_taken","_law_letters","_law_name_here","_law_k","_law_last","_law_words","_law_found"] "_law_name" (Z5 (top 33)) f cdv A outer s H E).nox EX0 (j7 (top 33)) z1D from
  have nd:(["_law_pool_here","_law_start","_law_taken","_law_letters","_law_name_here","_law_k","_law_last","_law_words","_law_found"]:List Str).Nodup:=sc__law_name.nd
  (Z0 (J7 3 nd j8) (Z0 (J7 4 nd (z3 1)) (Z0 (z3c PassesOwn.never rfl (z0A rfl z_range (Z7 F__law_draw (hr.mono (by decide)) rfl (z0 (z3 0) (z0 Z3 Z1)))) (w6 5 nd) (Z0 (J7 4 nd (x9 (z3 4) (Z9 (z3 3) (Z7 F__law_draw (hr.mono (by decide)) rfl (z0 (z3 0) (z0 Z3 Z1)))))) Z4)) (Z0 (J7 6 nd (Z7 F__law_draw (hr.mono (by decide)) rfl (z0 (z3 0) (z0 Z3 Z1)))) (Z0 (J7 7 nd (J0 (z0 j8 (z0 j8 (z0 j8 (z0 j8 (z0 j8 (z0 j8 (z0 j8 (z0 j8 (z0 j8 (z0 j8 (z0 j8 (z0 j8 (z0 j8 Z1))))))))))))))) (Z0 (z3c PassesOwn.never rfl (z0A rfl z_range Z3) (w6 5 nd) (Z0 (J7 8 nd (x9 (z3 4) (Z9 (z3 3) (z2m (x9 (z3 6) (z3 5)) Z3)))) (Z0 (s_if (SW.sc (z6u (sc_c z3p (z3 8) (z3 7)) (z4k (sc_c z3p (z3 8) (z3 2))))) (Z0 (y6 (z3 8)) Z4) Z4) Z4))) (Z0 (y6 (x9 (z3 4) j8)) Z4))))))))
noncomputable def z1N:G->M Out :=
 (Z2 (sAsg (fun _=>pure (.str "abcdefghijklmnopqrstuvwxyz")) (gN 2)) (Z2 (sAsg (fun _=>pure (.str "")) (gN 3)) (Z2 (sFor (z0J (clE (e2 fIx (eLst (z9 (fun _=>pure (.int 0)) (z9 (fun _=>pure (.int 0)) (z9 (fun _=>pure (.int 1)) (z9 (fun _=>pure (.int 4)) aNil))))) (eFn 2 Z6 (z9 (eVar 0) (z9 (fun _=>pure (.int 4)) aNil)))))) (gN 4) (Z2 (sAsg (e2 fAdd (eVar 3) (e2 fIx (eVar 2) (eFn 2 Z6 (z9 (eVar 0) (z9 (fun _=>pure (.int 26)) aNil))))) (gN 3)) bNil)) (Z2 (sAsg (eLst aNil) (gN 5)) (Z2 (sFor (z0J (eVar 1)) (gN 4) (Z2 (z1h (eM1 z09 (eVar 5) (eFn 3 z2b (z9 (eVar 0) (z9 (eVar 3) (z9 (eVar 5) aNil)))))) bNil)) (Z2 (sRet (eVar 5)) bNil))))))
noncomputable def z1L:List D->M D:=fun ds=>cln (runF 6 z1N ds)
theorem sc__law_names:FnScope ["_law_pool_here","_law_many","_law_letters","_law_start","_law_k","_law_names_here"] ["_law_pool_here","_law_many"] (Z5 (top 34)):=⟨rfl,rfl,rfl,by decide +kernel,rfl,by decide +kernel,by decide +kernel⟩
theorem ok__law_names {P:Program}{w:World}{K:PySem.W.Frag}{mg:Str->Option Value}{base:Heap}(T:DefAt K "_law_names" (top 34)) (mx:∀ v,PySem.W.nsIn K mainGlobals "_law_names" = some (some v)->mg "_law_names" = some v) (z_range:mg "range" = none) (F__law_draw:Fn P w K mg base 1 "_law_draw" 2 Z6) (F__law_name:Fn P w K mg base 2 "_law_name" 3 z2b):Fn P w K mg base 3 "_law_names" 2 z1L:=by
 obtain ⟨f,fd,hf,F⟩:=T
 have hb:Binds K fd ["_law_pool_here","_law_many"] []:=F.binds fun _ _ _ _ _ _ us hl=>(by obtain ⟨_,_,rfl⟩:=ar2 hl;rfl)
 exact Fn.cln <| Y1 F sc__law_names hb (mx _ hf) rfl fun cdv A outer s H E hcd hr=>(show SB (cxOf CX0 P w K mg base ["_law_pool_here","_law_many","_law_letters","_law_start","_law_k","_law_names_here"] "_law_names" (Z5 (top 34)) f cdv A outer s H E).nox EX0 (j7 (top 34)) z1N from
  have nd:(["_law_pool_here","_law_many","_law_letters","_law_start","_law_k","_law_names_here"]:List Str).Nodup:=sc__law_names.nd
  (Z0 (J7 2 nd j8) (Z0 (J7 3 nd j8) (Z0 (z3c PassesOwn.never rfl (z0A rfl z_range (z0K (Z9 (J0 (z0 Z3 (z0 Z3 (z0 Z3 (z0 Z3 Z1))))) (Z7 F__law_draw (hr.mono (by decide)) rfl (z0 (z3 0) (z0 Z3 Z1)))))) (w6 4 nd) (Z0 (J7 3 nd (x9 (z3 3) (Z9 (z3 2) (Z7 F__law_draw (hr.mono (by decide)) rfl (z0 (z3 0) (z0 Z3 Z1)))))) Z4)) (Z0 (J7 5 nd (J0 Z1)) (Z0 (z3c PassesOwn.never rfl (z0A rfl z_range (z3 1)) (w6 4 nd) (Z0 (z2K (z0X (z3 5) (Z7 F__law_name (hr.mono (by decide)) rfl (z0 (z3 0) (z0 (z3 3) (z0 (z3 5) Z1)))))) Z4)) (Z0 (y6 (z3 5)) Z4)))))))
noncomputable def z18:G->M Out :=
 (Z2 (sAsg (e2 fAdd (fun _=>pure (.int 1)) (eFn 2 Z6 (z9 (eVar 0) (z9 (eVar 2) aNil)))) (gN 3)) (Z2 (sAsg (e2 fAdd (fun _=>pure (.int 1)) (eFn 2 Z6 (z9 (eVar 0) (z9 (fun _=>pure (.int 4)) aNil)))) (gN 4)) (Z2 (sAsg (eLst aNil) (gN 5)) (Z2 (sAsg (eLst aNil) (gN 6)) (Z2 (sFor (z0J (eVar 3)) (gN 7) (Z2 (z1h (eM1 z09 (eVar 5) (clE (j3 z0w (z9 (x8 [some 0,some 4,none] (z0J (eVar 3)) (gN 2) (fun γ=>do let d ← e2 fLt (eFn 2 Z6 (z9 (eVar 0) (z9 (fun _=>pure (.int 6)) aNil))) (eVar 1) γ;asB d) (eVar 2)) aNil))))) (Z2 (z1h (eM1 z09 (eVar 6) (clE (j3 z0w (z9 (j3 z2S (z9 (x8 [some 0,none] (z1g (eVar 1)) (gN 1) (fun γ=>do let d ← e2 (fEq false) (eFn 2 Z6 (z9 (eVar 0) (z9 (fun _=>pure (.int 2)) aNil))) (fun _=>pure (.int 1)) γ;asB d) (eVar 1)) aNil)) aNil))))) bNil))) (Z2 (sRet (eTup (z9 (j3 z0w (z9 (eVar 5) aNil)) (z9 (j3 z0w (z9 (eVar 6) aNil)) aNil)))) bNil))))))
noncomputable def z17:List D->M D:=fun ds=>cln (runF 8 z18 ds)
theorem sc__law_machine:FnScope ["_law_pool_here","_law_names_here","_law_most","_law_many","_law_dense","_law_steps","_law_marks","_law_k"] ["_law_pool_here","_law_names_here","_law_most"] (Z5 (top 35)):=⟨rfl,rfl,rfl,by decide +kernel,rfl,by decide +kernel,by decide +kernel⟩
theorem ok__law_machine {P:Program}{w:World}{K:PySem.W.Frag}{mg:Str->Option Value}{base:Heap}(T:DefAt K "_law_machine" (top 35)) (mx:∀ v,PySem.W.nsIn K mainGlobals "_law_machine" = some (some v)->mg "_law_machine" = some v) (z_range:mg "range" = none) (z_sorted:mg "sorted" = none) (z_tuple:mg "tuple" = none) (F__law_draw:Fn P w K mg base 1 "_law_draw" 2 Z6):Fn P w K mg base 2 "_law_machine" 3 z17:=by
 obtain ⟨f,fd,hf,F⟩:=T
 have hb:Binds K fd ["_law_pool_here","_law_names_here","_law_most"] []:=F.binds fun _ _ _ _ _ _ us hl=>(by obtain ⟨_,_,_,rfl⟩:=ar3 hl;rfl)
 exact Fn.cln <| Y1 F sc__law_machine hb (mx _ hf) rfl fun cdv A outer s H E hcd hr=>(show SB (cxOf CX0 P w K mg base ["_law_pool_here","_law_names_here","_law_most","_law_many","_law_dense","_law_steps","_law_marks","_law_k"] "_law_machine" (Z5 (top 35)) f cdv A outer s H E).nox EX0 (j7 (top 35)) z18 from
  have nd:(["_law_pool_here","_law_names_here","_law_most","_law_many","_law_dense","_law_steps","_law_marks","_law_k"]:List Str).Nodup:=sc__law_machine.nd
  (Z0 (J7 3 nd (x9 Z3 (Z7 F__law_draw (hr.mono (by decide)) rfl (z0 (z3 0) (z0 (z3 2) Z1))))) (Z0 (J7 4 nd (x9 Z3 (Z7 F__law_draw (hr.mono (by decide)) rfl (z0 (z3 0) (z0 Z3 Z1))))) (Z0 (J7 5 nd (J0 Z1)) (Z0 (J7 6 nd (J0 Z1)) (Z0 (z3c PassesOwn.never rfl (z0A rfl z_range (z3 3)) (w6 7 nd) (Z0 (z2K (z0X (z3 5) (z0K (z0N rfl z_tuple (z0 (z02 (N':=["_law_pool_here","_law_dense","_law_to"]) (cap:=[some 0,some 4,none]) rfl (z0y (by first | rfl | kernel_rfl!)) (z0A rfl z_range (z3 3)) (fun _ _ _ _=>(y8 2 (show (["_law_pool_here","_law_dense","_law_to"]:List Str).Nodup by decide +kernel))) (fun _ _ _ _=>(z1c (sc_c z4N (Z7 F__law_draw (hr.mono (by decide)) rfl (z0 (z3 0) (z0 Z3 Z1))) (z3 1)))) (fun _ _ _ _=>(z3 2))) Z1))))) (Z0 (z2K (z0X (z3 6) (z0K (z0N rfl z_tuple (z0 (z82 rfl rfl z_sorted (z0 (z02 (N':=["_law_pool_here","_law_name_here"]) (cap:=[some 0,none]) rfl (z0y (by first | rfl | kernel_rfl!)) (z25 (z3 1)) (fun _ _ _ _=>(y8 1 (show (["_law_pool_here","_law_name_here"]:List Str).Nodup by decide +kernel))) (fun _ _ _ _=>(z1c (sc_c z0k (Z7 F__law_draw (hr.mono (by decide)) rfl (z0 (z3 0) (z0 Z3 Z1))) Z3))) (fun _ _ _ _=>(z3 1))) Z1)) Z1))))) Z4))) (Z0 (y6 (Y0 (z0 (z0N rfl z_tuple (z0 (z3 5) Z1)) (z0 (z0N rfl z_tuple (z0 (z3 6) Z1)) Z1)))) Z4)))))))
noncomputable def z1m:G->M Out :=
 (Z2 (sAsg (e2 fAdd (eLst (z9 (fun _=>pure (.str "")) (z9 (fun _=>pure (.str "")) (z9 (fun _=>pure (.str "unborne")) aNil)))) (eVar 1)) (gN 3)) (Z2 (sAsg (eLst aNil) (gN 4)) (Z2 (sFor (z0J (eFn 2 Z6 (z9 (eVar 0) (z9 (e2 fAdd (eVar 2) (fun _=>pure (.int 1))) aNil)))) (gN 5) (Z2 (sAsg (e2 fIx (eVar 3) (eFn 2 Z6 (z9 (eVar 0) (z9 (j3 fLen (z9 (eVar 3) aNil)) aNil)))) (gN 6)) (Z2 (z1h (eM1 z09 (eVar 4) (eTup (z9 (eVar 6) (z9 (e2 fIx (eVar 3) (e2 fAdd (fun _=>pure (.int 2)) (eFn 2 Z6 (z9 (eVar 0) (z9 (e2 fSub (j3 fLen (z9 (eVar 3) aNil)) (fun _=>pure (.int 2))) aNil))))) aNil))))) bNil))) (Z2 (sRet (j3 z0w (z9 (eVar 4) aNil))) bNil))))
noncomputable def z1t:List D->M D:=fun ds=>cln (runF 7 z1m ds)
theorem sc__law_wishes:FnScope ["_law_pool_here","_law_names_here","_law_most","_law_some","_law_wants","_law_k","_law_when"] ["_law_pool_here","_law_names_here","_law_most"] (Z5 (top 36)):=⟨rfl,rfl,rfl,by decide +kernel,rfl,by decide +kernel,by decide +kernel⟩
theorem ok__law_wishes {P:Program}{w:World}{K:PySem.W.Frag}{mg:Str->Option Value}{base:Heap}(T:DefAt K "_law_wishes" (top 36)) (mx:∀ v,PySem.W.nsIn K mainGlobals "_law_wishes" = some (some v)->mg "_law_wishes" = some v) (z_len:mg "len" = none) (z_range:mg "range" = none) (z_tuple:mg "tuple" = none) (F__law_draw:Fn P w K mg base 1 "_law_draw" 2 Z6):Fn P w K mg base 2 "_law_wishes" 3 z1t:=by
 obtain ⟨f,fd,hf,F⟩:=T
 have hb:Binds K fd ["_law_pool_here","_law_names_here","_law_most"] []:=F.binds fun _ _ _ _ _ _ us hl=>(by obtain ⟨_,_,_,rfl⟩:=ar3 hl;rfl)
 exact Fn.cln <| Y1 F sc__law_wishes hb (mx _ hf) rfl fun cdv A outer s H E hcd hr=>(show SB (cxOf CX0 P w K mg base ["_law_pool_here","_law_names_here","_law_most","_law_some","_law_wants","_law_k","_law_when"] "_law_wishes" (Z5 (top 36)) f cdv A outer s H E).nox EX0 (j7 (top 36)) z1m from
  have nd:(["_law_pool_here","_law_names_here","_law_most","_law_some","_law_wants","_law_k","_law_when"]:List Str).Nodup:=sc__law_wishes.nd
  (Z0 (J7 3 nd (x9 (J0 (z0 j8 (z0 j8 (z0 j8 Z1)))) (z3 1))) (Z0 (J7 4 nd (J0 Z1)) (Z0 (z3c PassesOwn.never rfl (z0A rfl z_range (Z7 F__law_draw (hr.mono (by decide)) rfl (z0 (z3 0) (z0 (x9 (z3 2) Z3) Z1)))) (w6 5 nd) (Z0 (J7 6 nd (Z9 (z3 3) (Z7 F__law_draw (hr.mono (by decide)) rfl (z0 (z3 0) (z0 (J2 rfl z_len (z0 (z3 3) Z1)) Z1))))) (Z0 (z2K (z0X (z3 4) (Y0 (z0 (z3 6) (z0 (Z9 (z3 3) (x9 Z3 (Z7 F__law_draw (hr.mono (by decide)) rfl (z0 (z3 0) (z0 (z1B (J2 rfl z_len (z0 (z3 3) Z1)) Z3) Z1))))) Z1))))) Z4))) (Z0 (y6 (z0N rfl z_tuple (z0 (z3 4) Z1))) Z4)))))
noncomputable def z2C:G->M Out :=
 (Z2 (sAsg (eFn 2 Z6 (z9 (eVar 0) (z9 (fun _=>pure (.int 20)) aNil))) (gN 3)) (Z2 (sIf (cOr (fun γ=>do let d ← e2 (fEq false) (eVar 2) (fun _=>pure (.int 0)) γ;asB d) (fun γ=>do let d ← e2 fLt (eVar 3) (fun _=>pure (.int 4)) γ;asB d)) (Z2 (sAsg (e2 fMod (eVar 3) (fun _=>pure (.int 6))) (gN 3)) (Z2 (sIf (fun γ=>do let d ← e2 fGt (eVar 3) (fun _=>pure (.int 1)) γ;asB d) (Z2 (sRet (eTup (z9 (fun _=>pure (.str "mark")) (z9 (e2 fIx (e2 fAdd (eVar 1) (eLst (z9 (fun _=>pure (.str "unborne")) aNil))) (eFn 2 Z6 (z9 (eVar 0) (z9 (e2 fAdd (j3 fLen (z9 (eVar 1) aNil)) (fun _=>pure (.int 1))) aNil)))) aNil)))) bNil) bNil) (Z2 (sRet (eTup (z9 (clE (e2 fIx (eLst (z9 (fun _=>pure (.str "yes")) (z9 (fun _=>pure (.str "no")) aNil))) (eVar 3))) aNil))) bNil))) bNil) (Z2 (sAsg (e2 fSub (e2 fSub (eVar 2) (fun _=>pure (.int 1))) (eFn 2 Z6 (z9 (eVar 0) (z9 (j3 fMin (z9 (eVar 2) (z9 (fun _=>pure (.int 3)) aNil))) aNil)))) (gN 4)) (Z2 (sAsg (eFn 2 Z6 (z9 (eVar 0) (z9 (eVar 2) aNil))) (gN 5)) (Z2 (sIf (fun γ=>do let d ← e2 fLt (eVar 3) (fun _=>pure (.int 8)) γ;asB d) (Z2 (sRet (clE (e2 fIx (eLst (z9 (eTup (z9 (fun _=>pure (.str "not")) (z9 (eVar 4) aNil))) (z9 (eTup (z9 (fun _=>pure (.str "and")) (z9 (eVar 4) (z9 (eVar 5) aNil)))) (z9 (eTup (z9 (fun _=>pure (.str "or")) (z9 (eVar 5) (z9 (eVar 4) aNil)))) (z9 (eTup (z9 (fun _=>pure (.str "step")) (z9 (eVar 4) aNil))) aNil))))) (e2 fSub (eVar 3) (fun _=>pure (.int 4)))))) bNil) bNil) (Z2 (sAsg (clE (e2 fIx (eLst (z9 (fun _=>pure (.str "some")) (z9 (fun _=>pure (.str "all")) aNil))) (e2 fMod (eVar 3) (fun _=>pure (.int 2))))) (gN 6)) (Z2 (sAsg (clE (e2 fIx (eLst (z9 (fun _=>pure (.str "next")) (z9 (fun _=>pure (.str "once")) (z9 (fun _=>pure (.str "ever")) (z9 (fun _=>pure (.str "until")) (z9 (fun _=>pure (.str "unless")) (z9 (fun _=>pure (.str "until")) aNil))))))) (e2 fSub (e2 fDiv (eVar 3) (fun _=>pure (.int 2))) (fun _=>pure (.int 4))))) (gN 7)) (Z2 (sIf (cOr (fun γ=>do let d ← e2 (fEq false) (eVar 7) (fun _=>pure (.str "until")) γ;asB d) (fun γ=>do let d ← e2 (fEq false) (eVar 7) (fun _=>pure (.str "unless")) γ;asB d)) (Z2 (sRet (eTup (z9 (eVar 6) (z9 (eVar 7) (z9 (eVar 5) (z9 (eVar 4) aNil)))))) bNil) bNil) (Z2 (sRet (eTup (z9 (eVar 6) (z9 (eVar 7) (z9 (eVar 4) aNil))))) bNil)))))))))
noncomputable def z2A:List D->M D:=fun ds=>cln (runF 8 z2C ds)
theorem sc__law_row:FnScope ["_law_pool_here","_law_names_here","_law_at_here","_law_kind","_law_one","_law_other","_law_which","_law_word"] ["_law_pool_here","_law_names_here","_law_at_here"] (Z5 (top 37)):=⟨rfl,rfl,rfl,by decide +kernel,rfl,by decide +kernel,by decide +kernel⟩
theorem ok__law_row {P:Program}{w:World}{K:PySem.W.Frag}{mg:Str->Option Value}{base:Heap}(T:DefAt K "_law_row" (top 37)) (mx:∀ v,PySem.W.nsIn K mainGlobals "_law_row" = some (some v)->mg "_law_row" = some v) (z_len:mg "len" = none) (z_min:mg "min" = none) (F__law_draw:Fn P w K mg base 1 "_law_draw" 2 Z6):Fn P w K mg base 2 "_law_row" 3 z2A:=by
 obtain ⟨f,fd,hf,F⟩:=T
 have hb:Binds K fd ["_law_pool_here","_law_names_here","_law_at_here"] []:=F.binds fun _ _ _ _ _ _ us hl=>(by obtain ⟨_,_,_,rfl⟩:=ar3 hl;rfl)
 exact Fn.cln <| Y1 F sc__law_row hb (mx _ hf) rfl fun cdv A outer s H E hcd hr=>(show SB (cxOf CX0 P w K mg base ["_law_pool_here","_law_names_here","_law_at_here","_law_kind","_law_one","_law_other","_law_which","_law_word"] "_law_row" (Z5 (top 37)) f cdv A outer s H E).nox EX0 (j7 (top 37)) z2C from
  have nd:(["_law_pool_here","_law_names_here","_law_at_here","_law_kind","_law_one","_law_other","_law_which","_law_word"]:List Str).Nodup:=sc__law_row.nd
  (Z0 (J7 3 nd (Z7 F__law_draw (hr.mono (by decide)) rfl (z0 (z3 0) (z0 Z3 Z1)))) (Z0 (s_if (SW.sc (z2l (sc_c z0k (z3 2) Z3) (z1f (sc_c z4N (z3 3) Z3)))) (Z0 (J7 3 nd (z2m (z3 3) Z3)) (Z0 (s_if (sc_c z5F (z3 3) Z3) (Z0 (y6 (Y0 (z0 j8 (z0 (Z9 (x9 (z3 1) (J0 (z0 j8 Z1))) (Z7 F__law_draw (hr.mono (by decide)) rfl (z0 (z3 0) (z0 (x9 (J2 rfl z_len (z0 (z3 1) Z1)) Z3) Z1)))) Z1)))) Z4) Z4) (Z0 (y6 (Y0 (z0 (z0K (Z9 (J0 (z0 j8 (z0 j8 Z1))) (z3 3))) Z1))) Z4))) Z4) (Z0 (J7 4 nd (z1B (z1B (z3 2) Z3) (Z7 F__law_draw (hr.mono (by decide)) rfl (z0 (z3 0) (z0 (zn2 rfl rfl z_min (z0 (z3 2) (z0 Z3 Z1))) Z1))))) (Z0 (J7 5 nd (Z7 F__law_draw (hr.mono (by decide)) rfl (z0 (z3 0) (z0 (z3 2) Z1)))) (Z0 (s_if (sc_c z4N (z3 3) Z3) (Z0 (y6 (z0K (Z9 (J0 (z0 (Y0 (z0 j8 (z0 (z3 4) Z1))) (z0 (Y0 (z0 j8 (z0 (z3 4) (z0 (z3 5) Z1)))) (z0 (Y0 (z0 j8 (z0 (z3 5) (z0 (z3 4) Z1)))) (z0 (Y0 (z0 j8 (z0 (z3 4) Z1))) Z1))))) (z1B (z3 3) Z3)))) Z4) Z4) (Z0 (J7 6 nd (z0K (Z9 (J0 (z0 j8 (z0 j8 Z1))) (z2m (z3 3) Z3)))) (Z0 (J7 7 nd (z0K (Z9 (J0 (z0 j8 (z0 j8 (z0 j8 (z0 j8 (z0 j8 (z0 j8 Z1))))))) (z1B (z6D (z3 3) Z3) Z3)))) (Z0 (s_if (SW.sc (z2l (sc_c z0k (z3 7) j8) (z1f (sc_c z0k (z3 7) j8)))) (Z0 (y6 (Y0 (z0 (z3 6) (z0 (z3 7) (z0 (z3 5) (z0 (z3 4) Z1)))))) Z4) Z4) (Z0 (y6 (Y0 (z0 (z3 6) (z0 (z3 7) (z0 (z3 4) Z1))))) Z4))))))))))
noncomputable def z1s:G->M Out :=
 (Z2 (sAsg (eLst aNil) (gN 3)) (Z2 (sFor (z0J (e2 fAdd (fun _=>pure (.int 1)) (eFn 2 Z6 (z9 (eVar 0) (z9 (eVar 2) aNil))))) (gN 4) (Z2 (z1h (eM1 z09 (eVar 3) (eFn 3 z2A (z9 (eVar 0) (z9 (eVar 1) (z9 (eVar 4) aNil)))))) bNil)) (Z2 (sRet (j3 z0w (z9 (eVar 3) aNil))) bNil)))
noncomputable def z1o:List D->M D:=fun ds=>cln (runF 5 z1s ds)
theorem sc__law_saying:FnScope ["_law_pool_here","_law_names_here","_law_most","_law_rows","_law_k"] ["_law_pool_here","_law_names_here","_law_most"] (Z5 (top 38)):=⟨rfl,rfl,rfl,by decide +kernel,rfl,by decide +kernel,by decide +kernel⟩
theorem ok__law_saying {P:Program}{w:World}{K:PySem.W.Frag}{mg:Str->Option Value}{base:Heap}(T:DefAt K "_law_saying" (top 38)) (mx:∀ v,PySem.W.nsIn K mainGlobals "_law_saying" = some (some v)->mg "_law_saying" = some v) (z_range:mg "range" = none) (z_tuple:mg "tuple" = none) (F__law_draw:Fn P w K mg base 1 "_law_draw" 2 Z6) (F__law_row:Fn P w K mg base 2 "_law_row" 3 z2A):Fn P w K mg base 3 "_law_saying" 3 z1o:=by
 obtain ⟨f,fd,hf,F⟩:=T
 have hb:Binds K fd ["_law_pool_here","_law_names_here","_law_most"] []:=F.binds fun _ _ _ _ _ _ us hl=>(by obtain ⟨_,_,_,rfl⟩:=ar3 hl;rfl)
 exact Fn.cln <| Y1 F sc__law_saying hb (mx _ hf) rfl fun cdv A outer s H E hcd hr=>(show SB (cxOf CX0 P w K mg base ["_law_pool_here","_law_names_here","_law_most","_law_rows","_law_k"] "_law_saying" (Z5 (top 38)) f cdv A outer s H E).nox EX0 (j7 (top 38)) z1s from
  have nd:(["_law_pool_here","_law_names_here","_law_most","_law_rows","_law_k"]:List Str).Nodup:=sc__law_saying.nd
  (Z0 (J7 3 nd (J0 Z1)) (Z0 (z3c PassesOwn.never rfl (z0A rfl z_range (x9 Z3 (Z7 F__law_draw (hr.mono (by decide)) rfl (z0 (z3 0) (z0 (z3 2) Z1))))) (w6 4 nd) (Z0 (z2K (z0X (z3 3) (Z7 F__law_row (hr.mono (by decide)) rfl (z0 (z3 0) (z0 (z3 1) (z0 (z3 4) Z1)))))) Z4)) (Z0 (y6 (z0N rfl z_tuple (z0 (z3 3) Z1))) Z4))))
noncomputable def z0Z:G->M Out :=
 (Z2 (sRet (eAnd (eIsi "int" (eVar 0)) (eAnd (eNot (eIsi "bool" (eVar 0))) (e3 fLe fLt (eVar 1) (eVar 0) (eVar 2))))) bNil)
noncomputable def J8:List D->M D:=fun ds=>cln (runF 3 z0Z ds)
theorem sc__law_number:FnScope ["_law_thing","_law_low","_law_high"] ["_law_thing","_law_low","_law_high"] (Z5 (top 39)):=⟨rfl,rfl,rfl,by decide +kernel,rfl,by decide +kernel,by decide +kernel⟩
theorem ok__law_number {P:Program}{w:World}{K:PySem.W.Frag}{mg:Str->Option Value}{base:Heap}(T:DefAt K "_law_number" (top 39)) (mx:∀ v,PySem.W.nsIn K mainGlobals "_law_number" = some (some v)->mg "_law_number" = some v) (z_bool:mg "bool" = none) (z_int:mg "int" = none) (z_isinstance:mg "isinstance" = none):Fn P w K mg base 1 "_law_number" 3 J8:=by
 obtain ⟨f,fd,hf,F⟩:=T
 have hb:Binds K fd ["_law_thing","_law_low","_law_high"] []:=F.binds fun _ _ _ _ _ _ us hl=>(by obtain ⟨_,_,_,rfl⟩:=ar3 hl;rfl)
 exact Fn.cln <| Y1 F sc__law_number hb (mx _ hf) rfl fun cdv A outer s H E hcd hr=>(show SB (cxOf CX0 P w K mg base ["_law_thing","_law_low","_law_high"] "_law_number" (Z5 (top 39)) f cdv A outer s H E).nox EX0 (j7 (top 39)) z0Z from
  have nd:(["_law_thing","_law_low","_law_high"]:List Str).Nodup:=sc__law_number.nd
  (Z0 (y6 (z0u (z2H rfl z_isinstance rfl z_int (by decide +kernel) (by decide) (z3 0)) (z0u (z3E (z2H rfl z_isinstance rfl z_bool (by decide +kernel) (by decide) (z3 0))) (z0U (z9o z5I z4N (z3 1) (z3 0) (z3 2)))))) Z4))
noncomputable def z19:G->M Out :=
 (Z2 (sRet (eAnd (eIsi "tuple" (eVar 0)) (e3 fLe fLe (eVar 1) (j3 fLen (z9 (eVar 0) aNil)) (eVar 2)))) bNil)
noncomputable def Y5:List D->M D:=fun ds=>cln (runF 3 z19 ds)
theorem sc__law_tuple:FnScope ["_law_thing","_law_least","_law_most"] ["_law_thing","_law_least","_law_most"] (Z5 (top 40)):=⟨rfl,rfl,rfl,by decide +kernel,rfl,by decide +kernel,by decide +kernel⟩
theorem ok__law_tuple {P:Program}{w:World}{K:PySem.W.Frag}{mg:Str->Option Value}{base:Heap}(T:DefAt K "_law_tuple" (top 40)) (mx:∀ v,PySem.W.nsIn K mainGlobals "_law_tuple" = some (some v)->mg "_law_tuple" = some v) (z_isinstance:mg "isinstance" = none) (z_len:mg "len" = none) (z_tuple:mg "tuple" = none):Fn P w K mg base 1 "_law_tuple" 3 Y5:=by
 obtain ⟨f,fd,hf,F⟩:=T
 have hb:Binds K fd ["_law_thing","_law_least","_law_most"] []:=F.binds fun _ _ _ _ _ _ us hl=>(by obtain ⟨_,_,_,rfl⟩:=ar3 hl;rfl)
 exact Fn.cln <| Y1 F sc__law_tuple hb (mx _ hf) rfl fun cdv A outer s H E hcd hr=>(show SB (cxOf CX0 P w K mg base ["_law_thing","_law_least","_law_most"] "_law_tuple" (Z5 (top 40)) f cdv A outer s H E).nox EX0 (j7 (top 40)) z19 from
  have nd:(["_law_thing","_law_least","_law_most"]:List Str).Nodup:=sc__law_tuple.nd
  (Z0 (y6 (z0u (z2H rfl z_isinstance rfl z_tuple (by decide +kernel) (by decide) (z3 0)) (z0U (z9o z5I z5I (z3 1) (J2 rfl z_len (z0 (z3 0) Z1)) (z3 2))))) Z4))
noncomputable def z3i:G->M Out :=
 (Z2 (sRet (eAnd (eIsi "bool" (eVar 0)) (e2 (fEqX false) (eVar 0) (eVar 1)))) bNil)
noncomputable def Y4:List D->M D:=fun ds=>cln (runF 2 z3i ds)
theorem sc__law_truth:FnScope ["_law_found","_law_due"] ["_law_found","_law_due"] (Z5 (top 41)):=⟨rfl,rfl,rfl,by decide +kernel,rfl,by decide +kernel,by decide +kernel⟩
theorem ok__law_truth {P:Program}{w:World}{K:PySem.W.Frag}{mg:Str->Option Value}{base:Heap}(T:DefAt K "_law_truth" (top 41)) (mx:∀ v,PySem.W.nsIn K mainGlobals "_law_truth" = some (some v)->mg "_law_truth" = some v) (z_bool:mg "bool" = none) (z_isinstance:mg "isinstance" = none):Fn P w K mg base 1 "_law_truth" 2 Y4:=by
 obtain ⟨f,fd,hf,F⟩:=T
 have hb:Binds K fd ["_law_found","_law_due"] []:=F.binds fun _ _ _ _ _ _ us hl=>(by obtain ⟨_,_,rfl⟩:=ar2 hl;rfl)
 exact Fn.cln <| Y1 F sc__law_truth hb (mx _ hf) rfl fun cdv A outer s H E hcd hr=>(show SB (cxOf CX0 P w K mg base ["_law_found","_law_due"] "_law_truth" (Z5 (top 41)) f cdv A outer s H E).nox EX0 (j7 (top 41)) z3i from
  have nd:(["_law_found","_law_due"]:List Str).Nodup:=sc__law_truth.nd
  (Z0 (y6 (z0u (z2H rfl z_isinstance rfl z_bool (by decide +kernel) (by decide) (z3 0)) (z0U (se_c (z0i (hu30 hr)) (z3 0) (z3 1))))) Z4))
noncomputable def z23:G->M Out :=
 (Z2 (sAsg (eLst (z9 (eVar 2) aNil)) (gN 4)) (Z2 (sFor (z0J (eVar 3)) (gN 5) (Z2 (sAsg (e2 fIx (e2 fIx (eVar 1) (fun _=>pure (.int 0))) (e2 fIx (eVar 4) (eNeg (fun _=>pure (.int 1))))) (gN 6)) (Z2 (sIf (fun γ=>do let d ← e2 fGt (j3 fLen (z9 (eVar 6) aNil)) (fun _=>pure (.int 0)) γ;asB d) (Z2 (z1h (eM1 z09 (eVar 4) (e2 fIx (eVar 6) (eFn 2 Z6 (z9 (eVar 0) (z9 (j3 fLen (z9 (eVar 6) aNil)) aNil)))))) bNil) bNil) bNil))) (Z2 (sRet (eVar 4)) bNil)))
noncomputable def z2e:List D->M D:=fun ds=>cln (runF 7 z23 ds)
theorem sc__law_walk:FnScope ["_law_pool_here","_law_machine_here","_law_one","_law_many","_law_trail","_law_k","_law_ahead"] ["_law_pool_here","_law_machine_here","_law_one","_law_many"] (Z5 (top 42)):=⟨rfl,rfl,rfl,by decide +kernel,rfl,by decide +kernel,by decide +kernel⟩
theorem ok__law_walk {P:Program}{w:World}{K:PySem.W.Frag}{mg:Str->Option Value}{base:Heap}(T:DefAt K "_law_walk" (top 42)) (mx:∀ v,PySem.W.nsIn K mainGlobals "_law_walk" = some (some v)->mg "_law_walk" = some v) (z_len:mg "len" = none) (z_range:mg "range" = none) (F__law_draw:Fn P w K mg base 1 "_law_draw" 2 Z6):Fn P w K mg base 2 "_law_walk" 4 z2e:=by
 obtain ⟨f,fd,hf,F⟩:=T
 have hb:Binds K fd ["_law_pool_here","_law_machine_here","_law_one","_law_many"] []:=F.binds fun _ _ _ _ _ _ us hl=>(by obtain ⟨_,_,_,_,rfl⟩:=ar4 hl;rfl)
 exact Fn.cln <| Y1 F sc__law_walk hb (mx _ hf) rfl fun cdv A outer s H E hcd hr=>(show SB (cxOf CX0 P w K mg base ["_law_pool_here","_law_machine_here","_law_one","_law_many","_law_trail","_law_k","_law_ahead"] "_law_walk" (Z5 (top 42)) f cdv A outer s H E).nox EX0 (j7 (top 42)) z23 from
  have nd:(["_law_pool_here","_law_machine_here","_law_one","_law_many","_law_trail","_law_k","_law_ahead"]:List Str).Nodup:=sc__law_walk.nd
  (Z0 (J7 4 nd (J0 (z0 (z3 2) Z1))) (Z0 (z3c PassesOwn.never rfl (z0A rfl z_range (z3 3)) (w6 5 nd) (Z0 (J7 6 nd (Z9 (Z9 (z3 1) Z3) (Z9 (z3 4) (z40 Z3)))) (Z0 (s_if (sc_c z5F (J2 rfl z_len (z0 (z3 6) Z1)) Z3) (Z0 (z2K (z0X (z3 4) (Z9 (z3 6) (Z7 F__law_draw (hr.mono (by decide)) rfl (z0 (z3 0) (z0 (J2 rfl z_len (z0 (z3 6) Z1)) Z1)))))) Z4) Z4) Z4))) (Z0 (y6 (z3 4)) Z4))))
noncomputable def z1u:G->M Out :=
 (Z2 (sAsg (eFn 4 z2e (z9 (eVar 0) (z9 (eVar 1) (z9 (eVar 2) (z9 (eVar 3) aNil))))) (gN 4)) (Z2 (z0M 5 [some 4,some 1,none] (z0J (j3 fLen (z9 (eVar 4) aNil))) (gN 2) (fun γ=>do let d ← e2 (fIn false) (e2 fIx (eVar 0) (eVar 2)) (e2 fIx (e2 fIx (eVar 1) (fun _=>pure (.int 0))) (e2 fIx (eVar 0) (eNeg (fun _=>pure (.int 1))))) γ;asB d) (eVar 2)) (Z2 (sIf (fun γ=>do let d ← e2 (fEq false) (j3 fLen (z9 (eVar 5) aNil)) (fun _=>pure (.int 0)) γ;asB d) (Z2 (sAsg (eLst (z9 (eFn 2 Z6 (z9 (eVar 0) (z9 (j3 fLen (z9 (eVar 4) aNil)) aNil))) aNil)) (gN 5)) bNil) bNil) (Z2 (sAsg (e2 fIx (eVar 5) (eFn 2 Z6 (z9 (eVar 0) (z9 (j3 fLen (z9 (eVar 5) aNil)) aNil)))) (gN 6)) (Z2 (sRet (eTup (z9 (j3 z0w (z9 (J9 (eVar 4) z0d (z0e (eVar 6))) aNil)) (z9 (j3 z0w (z9 (J9 (eVar 4) (z0e (eVar 6)) z0d) aNil)) aNil)))) bNil)))))
noncomputable def z1q:List D->M D:=fun ds=>cln (runF 7 z1u ds)
theorem sc__law_closed:FnScope ["_law_pool_here","_law_machine_here","_law_one","_law_many","_law_trail","_law_places","_law_cut"] ["_law_pool_here","_law_machine_here","_law_one","_law_many"] (Z5 (top 43)):=⟨rfl,rfl,rfl,by decide +kernel,rfl,by decide +kernel,by decide +kernel⟩
theorem ok__law_closed {P:Program}{w:World}{K:PySem.W.Frag}{mg:Str->Option Value}{base:Heap}(T:DefAt K "_law_closed" (top 43)) (mx:∀ v,PySem.W.nsIn K mainGlobals "_law_closed" = some (some v)->mg "_law_closed" = some v) (z_len:mg "len" = none) (z_range:mg "range" = none) (z_tuple:mg "tuple" = none) (F__law_draw:Fn P w K mg base 1 "_law_draw" 2 Z6) (F__law_walk:Fn P w K mg base 2 "_law_walk" 4 z2e):Fn P w K mg base 3 "_law_closed" 4 z1q:=by
 obtain ⟨f,fd,hf,F⟩:=T
 have hb:Binds K fd ["_law_pool_here","_law_machine_here","_law_one","_law_many"] []:=F.binds fun _ _ _ _ _ _ us hl=>(by obtain ⟨_,_,_,_,rfl⟩:=ar4 hl;rfl)
 exact Fn.cln <| Y1 F sc__law_closed hb (mx _ hf) rfl fun cdv A outer s H E hcd hr=>(show SB (cxOf CX0 P w K mg base ["_law_pool_here","_law_machine_here","_law_one","_law_many","_law_trail","_law_places","_law_cut"] "_law_closed" (Z5 (top 43)) f cdv A outer s H E).nox EX0 (j7 (top 43)) z1u from
  have nd:(["_law_pool_here","_law_machine_here","_law_one","_law_many","_law_trail","_law_places","_law_cut"]:List Str).Nodup:=sc__law_closed.nd
  (Z0 (J7 4 nd (Z7 F__law_walk (hr.mono (by decide)) rfl (z0 (z3 0) (z0 (z3 1) (z0 (z3 2) (z0 (z3 3) Z1)))))) (Z0 (z2i 5 (N':=["_law_trail","_law_machine_here","_law_k"]) (cap:=[some 4,some 1,none]) rfl (z0y (by first | rfl | kernel_rfl!)) (z0A rfl z_range (J2 rfl z_len (z0 (z3 4) Z1))) (fun _ _ _ _=>(y8 2 (show (["_law_trail","_law_machine_here","_law_k"]:List Str).Nodup by decide +kernel))) (fun _ _ _ _=>(z1c (sc_c z2F (Z9 (z3 0) (z3 2)) (Z9 (Z9 (z3 1) Z3) (Z9 (z3 0) (z40 Z3)))))) (fun _ _ _ _=>(z3 2)) nd) (Z0 (s_if (sc_c z0k (J2 rfl z_len (z0 (z3 5) Z1)) Z3) (Z0 (J7 5 nd (J0 (z0 (Z7 F__law_draw (hr.mono (by decide)) rfl (z0 (z3 0) (z0 (J2 rfl z_len (z0 (z3 4) Z1)) Z1))) Z1))) Z4) Z4) (Z0 (J7 6 nd (Z9 (z3 5) (Z7 F__law_draw (hr.mono (by decide)) rfl (z0 (z3 0) (z0 (J2 rfl z_len (z0 (z3 5) Z1)) Z1))))) (Z0 (y6 (Y0 (z0 (z0N rfl z_tuple (z0 (z0H (z3 4) z15 (z16 (z3 6))) Z1)) (z0 (z0N rfl z_tuple (z0 (z0H (z3 4) (z16 (z3 6)) z15) Z1)) Z1)))) Z4))))))
noncomputable def z22:G->M Out :=
 (Z2 (sIf (cOr (cNot (cVal (eFn 3 Y5 (z9 (eVar 0) (z9 (fun _=>pure (.int 2)) (z9 (fun _=>pure (.int 2)) aNil)))))) (cOr (cNot (cVal (eFn 3 Y5 (z9 (e2 fIx (eVar 0) (fun _=>pure (.int 0))) (z9 (fun _=>pure (.int 0)) (z9 (fun _=>pure (.int 400)) aNil)))))) (cNot (cVal (eFn 3 Y5 (z9 (e2 fIx (eVar 0) (fun _=>pure (.int 1))) (z9 (fun _=>pure (.int 1)) (z9 (fun _=>pure (.int 400)) aNil)))))))) (Z2 (sRet (fun _=>pure (.bl false))) bNil) bNil) (Z2 (sIf (fun γ=>do let d ← e2 fGt (e2 fAdd (j3 fLen (z9 (e2 fIx (eVar 0) (fun _=>pure (.int 0))) aNil)) (j3 fLen (z9 (e2 fIx (eVar 0) (fun _=>pure (.int 1))) aNil))) (fun _=>pure (.int 400)) γ;asB d) (Z2 (sRet (fun _=>pure (.bl false))) bNil) bNil) (Z2 (sFor (Y6 (e2 fAdd (e2 fIx (eVar 0) (fun _=>pure (.int 0))) (e2 fIx (eVar 0) (fun _=>pure (.int 1))))) (gN 2) (Z2 (sIf (cNot (cVal (eFn 3 J8 (z9 (eVar 2) (z9 (fun _=>pure (.int 0)) (z9 (eVar 1) aNil)))))) (Z2 (sRet (fun _=>pure (.bl false))) bNil) bNil) bNil)) (Z2 (sRet (fun _=>pure (.bl true))) bNil))))
noncomputable def z1z:List D->M D:=fun ds=>cln (runF 3 z22 ds)
theorem sc__law_pair:FnScope ["_law_thing","_law_many","_law_one"] ["_law_thing","_law_many"] (Z5 (top 44)):=⟨rfl,rfl,rfl,by decide +kernel,rfl,by decide +kernel,by decide +kernel⟩
theorem ok__law_pair {P:Program}{w:World}{K:PySem.W.Frag}{mg:Str->Option Value}{base:Heap}(T:DefAt K "_law_pair" (top 44)) (mx:∀ v,PySem.W.nsIn K mainGlobals "_law_pair" = some (some v)->mg "_law_pair" = some v) (z_len:mg "len" = none) (F__law_number:Fn P w K mg base 1 "_law_number" 3 J8) (F__law_tuple:Fn P w K mg base 1 "_law_tuple" 3 Y5):Fn P w K mg base 2 "_law_pair" 2 z1z:=by
 obtain ⟨f,fd,hf,F⟩:=T
 have hb:Binds K fd ["_law_thing","_law_many"] []:=F.binds fun _ _ _ _ _ _ us hl=>(by obtain ⟨_,_,rfl⟩:=ar2 hl;rfl)
 exact Fn.cln <| Y1 F sc__law_pair hb (mx _ hf) rfl fun cdv A outer s H E hcd hr=>(show SB (cxOf CX0 P w K mg base ["_law_thing","_law_many","_law_one"] "_law_pair" (Z5 (top 44)) f cdv A outer s H E).nox EX0 (j7 (top 44)) z22 from
  have nd:(["_law_thing","_law_many","_law_one"]:List Str).Nodup:=sc__law_pair.nd
  (Z0 (s_if (SW.sc (z2l (z07 (Y8 (Z7 F__law_tuple (hr.mono (by decide)) rfl (z0 (z3 0) (z0 Z3 (z0 Z3 Z1)))))) (z2l (z07 (Y8 (Z7 F__law_tuple (hr.mono (by decide)) rfl (z0 (Z9 (z3 0) Z3) (z0 Z3 (z0 Z3 Z1)))))) (z1f (z07 (Y8 (Z7 F__law_tuple (hr.mono (by decide)) rfl (z0 (Z9 (z3 0) Z3) (z0 Z3 (z0 Z3 Z1)))))))))) (Z0 (y6 z0E) Z4) Z4) (Z0 (s_if (sc_c z5F (x9 (J2 rfl z_len (z0 (Z9 (z3 0) Z3) Z1)) (J2 rfl z_len (z0 (Z9 (z3 0) Z3) Z1))) Z3) (Z0 (y6 z0E) Z4) Z4) (Z0 (z3c PassesOwn.never rfl (z0v (x9 (Z9 (z3 0) Z3) (Z9 (z3 0) Z3))) (w6 2 nd) (Z0 (s_if (z07 (Y8 (Z7 F__law_number (hr.mono (by decide)) rfl (z0 (z3 2) (z0 Z3 (z0 (z3 1) Z1)))))) (Z0 (y6 z0E) Z4) Z4) Z4)) (Z0 (y6 z0E) Z4)))))
noncomputable def z12:G->M Out :=
 (Z2 (sIf (cNot (cVal (eFn 2 z1z (z9 (eVar 1) (z9 (j3 fLen (z9 (e2 fIx (eVar 0) (fun _=>pure (.int 0))) aNil)) aNil))))) (Z2 (sRet (fun _=>pure (.bl false))) bNil) bNil) (Z2 (sAsg (e2 fAdd (e2 fAdd (e2 fIx (eVar 1) (fun _=>pure (.int 0))) (e2 fIx (eVar 1) (fun _=>pure (.int 1)))) (J9 (e2 fIx (eVar 1) (fun _=>pure (.int 1))) z0d (z0e (fun _=>pure (.int 1))))) (gN 2)) (Z2 (sFor (z0J (e2 fSub (j3 fLen (z9 (eVar 2) aNil)) (fun _=>pure (.int 1)))) (gN 3) (Z2 (sIf (fun γ=>do let d ← e2 (fIn true) (e2 fIx (eVar 2) (e2 fAdd (eVar 3) (fun _=>pure (.int 1)))) (e2 fIx (e2 fIx (eVar 0) (fun _=>pure (.int 0))) (e2 fIx (eVar 2) (eVar 3))) γ;asB d) (Z2 (sRet (fun _=>pure (.bl false))) bNil) bNil) bNil)) (Z2 (sRet (fun _=>pure (.bl true))) bNil))))
noncomputable def z0s:List D->M D:=fun ds=>cln (runF 4 z12 ds)
theorem sc__law_run_good:FnScope ["_law_machine_here","_law_thing","_law_trail","_law_k"] ["_law_machine_here","_law_thing"] (Z5 (top 45)):=⟨rfl,rfl,rfl,by decide +kernel,rfl,by decide +kernel,by decide +kernel⟩
theorem ok__law_run_good {P:Program}{w:World}{K:PySem.W.Frag}{mg:Str->Option Value}{base:Heap}(T:DefAt K "_law_run_good" (top 45)) (mx:∀ v,PySem.W.nsIn K mainGlobals "_law_run_good" = some (some v)->mg "_law_run_good" = some v) (z_len:mg "len" = none) (z_range:mg "range" = none) (F__law_pair:Fn P w K mg base 2 "_law_pair" 2 z1z):Fn P w K mg base 3 "_law_run_good" 2 z0s:=by
 obtain ⟨f,fd,hf,F⟩:=T
 have hb:Binds K fd ["_law_machine_here","_law_thing"] []:=F.binds fun _ _ _ _ _ _ us hl=>(by obtain ⟨_,_,rfl⟩:=ar2 hl;rfl)
 exact Fn.cln <| Y1 F sc__law_run_good hb (mx _ hf) rfl fun cdv A outer s H E hcd hr=>(show SB (cxOf CX0 P w K mg base ["_law_machine_here","_law_thing","_law_trail","_law_k"] "_law_run_good" (Z5 (top 45)) f cdv A outer s H E).nox EX0 (j7 (top 45)) z12 from
  have nd:(["_law_machine_here","_law_thing","_law_trail","_law_k"]:List Str).Nodup:=sc__law_run_good.nd
  (Z0 (s_if (z07 (Y8 (Z7 F__law_pair (hr.mono (by decide)) rfl (z0 (z3 1) (z0 (J2 rfl z_len (z0 (Z9 (z3 0) Z3) Z1)) Z1))))) (Z0 (y6 z0E) Z4) Z4) (Z0 (J7 2 nd (x9 (x9 (Z9 (z3 1) Z3) (Z9 (z3 1) Z3)) (z0H (Z9 (z3 1) Z3) z15 (z16 Z3)))) (Z0 (z3c PassesOwn.never rfl (z0A rfl z_range (z1B (J2 rfl z_len (z0 (z3 2) Z1)) Z3)) (w6 3 nd) (Z0 (s_if (sc_c z3p (Z9 (z3 2) (x9 (z3 3) Z3)) (Z9 (Z9 (z3 0) Z3) (Z9 (z3 2) (z3 3)))) (Z0 (y6 z0E) Z4) Z4) Z4)) (Z0 (y6 z0E) Z4)))))
noncomputable def z32:G->M Out :=
 (Z2 (sIf (fun γ=>do let d ← e2 fLt (eVar 1) (j3 fLen (z9 (e2 fIx (eVar 0) (fun _=>pure (.int 0))) aNil)) γ;asB d) (Z2 (sRet (e2 fIx (e2 fIx (eVar 0) (fun _=>pure (.int 0))) (eVar 1))) bNil) bNil) (Z2 (sRet (e2 fIx (e2 fIx (eVar 0) (fun _=>pure (.int 1))) (e2 fMod (e2 fSub (eVar 1) (j3 fLen (z9 (e2 fIx (eVar 0) (fun _=>pure (.int 0))) aNil))) (j3 fLen (z9 (e2 fIx (eVar 0) (fun _=>pure (.int 1))) aNil))))) bNil))
noncomputable def z0a:List D->M D:=fun ds=>cln (runF 2 z32 ds)
theorem sc__law_at:FnScope ["_law_run","_law_place"] ["_law_run","_law_place"] (Z5 (top 46)):=⟨rfl,rfl,rfl,by decide +kernel,rfl,by decide +kernel,by decide +kernel⟩
theorem ok__law_at {P:Program}{w:World}{K:PySem.W.Frag}{mg:Str->Option Value}{base:Heap}(T:DefAt K "_law_at" (top 46)) (mx:∀ v,PySem.W.nsIn K mainGlobals "_law_at" = some (some v)->mg "_law_at" = some v) (z_len:mg "len" = none):Fn P w K mg base 1 "_law_at" 2 z0a:=by
 obtain ⟨f,fd,hf,F⟩:=T
 have hb:Binds K fd ["_law_run","_law_place"] []:=F.binds fun _ _ _ _ _ _ us hl=>(by obtain ⟨_,_,rfl⟩:=ar2 hl;rfl)
 exact Fn.cln <| Y1 F sc__law_at hb (mx _ hf) rfl fun cdv A outer s H E hcd hr=>(show SB (cxOf CX0 P w K mg base ["_law_run","_law_place"] "_law_at" (Z5 (top 46)) f cdv A outer s H E).nox EX0 (j7 (top 46)) z32 from
  have nd:(["_law_run","_law_place"]:List Str).Nodup:=sc__law_at.nd
  (Z0 (s_if (sc_c z4N (z3 1) (J2 rfl z_len (z0 (Z9 (z3 0) Z3) Z1))) (Z0 (y6 (Z9 (Z9 (z3 0) Z3) (z3 1))) Z4) Z4) (Z0 (y6 (Z9 (Z9 (z3 0) Z3) (z2m (z1B (z3 1) (J2 rfl z_len (z0 (Z9 (z3 0) Z3) Z1))) (J2 rfl z_len (z0 (Z9 (z3 0) Z3) Z1))))) Z4)))
noncomputable def z0O:G->M Out :=
 (Z2 (sFor (Y6 (eVar 2)) (gT 2 (J6 (gN 3) (J6 (gN 4) z1k))) (Z2 (z0M 5 [some 3,some 0,none] (Y6 (eVar 1)) (gN 2) (cOr (fun γ=>do let d ← e2 (fEq false) (eVar 0) (fun _=>pure (.str "")) γ;asB d) (fun γ=>do let d ← e2 (fIn false) (eVar 0) (e2 fIx (e2 fIx (eVar 1) (fun _=>pure (.int 1))) (eVar 2)) γ;asB d)) (eVar 2)) (Z2 (sIf (cAnd (fun γ=>do let d ← e2 fGt (j3 fLen (z9 (eVar 5) aNil)) (fun _=>pure (.int 0)) γ;asB d) (clT (fun γ=>do let d ← e2 (fEqX false) (x8 [some 4,some 0,none] (Y6 (eVar 1)) (gN 2) (fun γ=>do let d ← e2 (fIn false) (eVar 0) (e2 fIx (e2 fIx (eVar 1) (fun _=>pure (.int 1))) (eVar 2)) γ;asB d) (eVar 2)) (eLst aNil) γ;asB d))) (Z2 (sRet (fun _=>pure (.bl false))) bNil) bNil) bNil))) (Z2 (sRet (fun _=>pure (.bl true))) bNil))
noncomputable def v5:List D->M D:=fun ds=>cln (runF 6 z0O ds)
theorem sc__law_fair_ring:FnScope ["_law_machine_here","_law_ring","_law_wants","_law_when","_law_then","_law_asked"] ["_law_machine_here","_law_ring","_law_wants"] (Z5 (top 47)):=⟨rfl,rfl,rfl,by decide +kernel,rfl,by decide +kernel,by decide +kernel⟩
theorem ok__law_fair_ring {P:Program}{w:World}{K:PySem.W.Frag}{mg:Str->Option Value}{base:Heap}(T:DefAt K "_law_fair_ring" (top 47)) (mx:∀ v,PySem.W.nsIn K mainGlobals "_law_fair_ring" = some (some v)->mg "_law_fair_ring" = some v) (z_len:mg "len" = none):Fn P w K mg base 1 "_law_fair_ring" 3 v5:=by
 obtain ⟨f,fd,hf,F⟩:=T
 have hb:Binds K fd ["_law_machine_here","_law_ring","_law_wants"] []:=F.binds fun _ _ _ _ _ _ us hl=>(by obtain ⟨_,_,_,rfl⟩:=ar3 hl;rfl)
 exact Fn.cln <| Y1 F sc__law_fair_ring hb (mx _ hf) rfl fun cdv A outer s H E hcd hr=>(show SB (cxOf CX0 P w K mg base ["_law_machine_here","_law_ring","_law_wants","_law_when","_law_then","_law_asked"] "_law_fair_ring" (Z5 (top 47)) f cdv A outer s H E).nox EX0 (j7 (top 47)) z0O from
  have nd:(["_law_machine_here","_law_ring","_law_wants","_law_when","_law_then","_law_asked"]:List Str).Nodup:=sc__law_fair_ring.nd
  (Z0 (z3c PassesOwn.never rfl (z0v (z3 2)) (z2I rfl (J5 (w6 3 nd) (J5 (w6 4 nd) z1P))) (Z0 (z2i 5 (N':=["_law_when","_law_machine_here","_law_one"]) (cap:=[some 3,some 0,none]) rfl (z0y (by first | rfl | kernel_rfl!)) (z0v (z3 1)) (fun _ _ _ _=>(y8 2 (show (["_law_when","_law_machine_here","_law_one"]:List Str).Nodup by decide +kernel))) (fun _ _ _ _=>(z1c (SW.sc (z2l (sc_c z0k (z3 0) j8) (z1f (sc_c z2F (z3 0) (Z9 (Z9 (z3 1) Z3) (z3 2)))))))) (fun _ _ _ _=>(z3 2)) nd) (Z0 (s_if (SW.sc (z6u (sc_c z5F (J2 rfl z_len (z0 (z3 5) Z1)) Z3) (z4k (z9G (sc_c (z0i (hu30 hr)) (z02 (N':=["_law_then","_law_machine_here","_law_one"]) (cap:=[some 4,some 0,none]) rfl (z0y (by first | rfl | kernel_rfl!)) (z0v (z3 1)) (fun _ _ _ _=>(y8 2 (show (["_law_then","_law_machine_here","_law_one"]:List Str).Nodup by decide +kernel))) (fun _ _ _ _=>(z1c (sc_c z2F (z3 0) (Z9 (Z9 (z3 1) Z3) (z3 2))))) (fun _ _ _ _=>(z3 2))) (J0 Z1)))))) (Z0 (y6 z0E) Z4) Z4) Z4))) (Z0 (y6 z0E) Z4)))
noncomputable def z2a:G->M Out :=
 (Z2 (sAsg (fun _=>newK []) (gN 1)) (Z2 (sFor (Y6 (e2 fAdd (e2 fIx (eVar 0) (fun _=>pure (.int 0))) (e2 fIx (eVar 0) (fun _=>pure (.int 1))))) (gN 2) (Z2 (sAsg (fun _=>pure (.bl true)) (gDx (eVar 1) (eVar 2))) bNil)) (Z2 (sRet (j3 z3Q (z9 (eVar 1) aNil))) bNil)))
noncomputable def z0o:List D->M D:=fun ds=>cln (runF 3 z2a ds)
theorem sc__law_here:FnScope ["_law_run","_law_found","_law_one"] ["_law_run"] (Z5 (top 48)):=⟨rfl,rfl,rfl,by decide +kernel,rfl,by decide +kernel,by decide +kernel⟩
theorem ok__law_here {P:Program}{w:World}{K:PySem.W.Frag}{mg:Str->Option Value}{base:Heap}(T:DefAt K "_law_here" (top 48)) (mx:∀ v,PySem.W.nsIn K mainGlobals "_law_here" = some (some v)->mg "_law_here" = some v) (z_list:mg "list" = none):Fn P w K mg base 1 "_law_here" 1 z0o:=by
 obtain ⟨f,fd,hf,F⟩:=T
 have hb:Binds K fd ["_law_run"] []:=F.binds fun _ _ _ _ _ _ us hl=>(by obtain ⟨_,rfl⟩:=ar1 hl;rfl)
 exact Fn.cln <| Y1 F sc__law_here hb (mx _ hf) rfl fun cdv A outer s H E hcd hr=>(show SB (cxOf CX0 P w K mg base ["_law_run","_law_found","_law_one"] "_law_here" (Z5 (top 48)) f cdv A outer s H E).nox EX0 (j7 (top 48)) z2a from
  have nd:(["_law_run","_law_found","_law_one"]:List Str).Nodup:=sc__law_here.nd
  (Z0 (J7 1 nd zr5) (Z0 (z3c PassesOwn.never rfl (z0v (x9 (Z9 (z3 0) Z3) (Z9 (z3 0) Z3))) (w6 2 nd) (Z0 (z3a z0E (zz3 (zz8 hr) (z3 1) (z3 2))) Z4)) (Z0 (y6 (z5U rfl rfl z_list (z0 (z3 1) Z1))) Z4))))
noncomputable def z0Q:G->M Out :=
 (Z2 (sIf (cOr (cNot (cVal (eFn 3 Y5 (z9 (eVar 3) (z9 (fun _=>pure (.int 5)) (z9 (fun _=>pure (.int 5)) aNil)))))) (cNot (cVal (eFn 3 J8 (z9 (e2 fIx (eVar 3) (fun _=>pure (.int 0))) (z9 (fun _=>pure (.int 0)) (z9 (j3 fLen (z9 (eVar 1) aNil)) aNil))))))) (Z2 (sRet (fun _=>pure (.bl false))) bNil) bNil) (Z2 (sIf (cOr (cNot (cVal (eFn 3 J8 (z9 (e2 fIx (eVar 3) (fun _=>pure (.int 1))) (z9 (fun _=>pure (.int 0)) (z9 (j3 fLen (z9 (e2 fIx (eVar 0) (fun _=>pure (.int 0))) aNil)) aNil)))))) (cNot (cVal (eIsi "bool" (e2 fIx (eVar 3) (fun _=>pure (.int 2))))))) (Z2 (sRet (fun _=>pure (.bl false))) bNil) bNil) (Z2 (sIf (fun γ=>do let d ← e2 (fIs true) (e2 fIx (eVar 3) (fun _=>pure (.int 3))) (fun _=>pure .non) γ;asB d) (Z2 (sIf (cOr (cNot (cVal (eFn 2 z0s (z9 (eVar 0) (z9 (e2 fIx (eVar 3) (fun _=>pure (.int 3))) aNil))))) (cNot (cVal (eFn 3 v5 (z9 (eVar 0) (z9 (e2 fIx (e2 fIx (eVar 3) (fun _=>pure (.int 3))) (fun _=>pure (.int 1))) (z9 (eVar 2) aNil))))))) (Z2 (sRet (fun _=>pure (.bl false))) bNil) bNil) (Z2 (sIf (fun γ=>do let d ← e2 (fEqX true) (eFn 2 z0a (z9 (e2 fIx (eVar 3) (fun _=>pure (.int 3))) (z9 (fun _=>pure (.int 0)) aNil))) (e2 fIx (eVar 3) (fun _=>pure (.int 1))) γ;asB d) (Z2 (sRet (fun _=>pure (.bl false))) bNil) bNil) bNil)) bNil) (Z2 (sIf (cNot (cVal (eIsi "tuple" (e2 fIx (eVar 3) (fun _=>pure (.int 4)))))) (Z2 (sRet (fun _=>pure (.bl false))) bNil) bNil) (Z2 (sRet (clE (e2 (fEqX false) (x8 [some 4,none] (Y6 (e2 fIx (eVar 3) (fun _=>pure (.int 4)))) (gN 1) (cNot (cVal (eFn 3 J8 (z9 (eVar 1) (z9 (fun _=>pure (.int 0)) (z9 (eVar 0) aNil)))))) (eVar 1)) (eLst aNil)))) bNil)))))
noncomputable def z0f:List D->M D:=fun ds=>cln (runF 5 z0Q ds)
theorem sc__law_node_kind:FnScope ["_law_machine_here","_law_saying_here","_law_wants","_law_node","_law_many"] ["_law_machine_here","_law_saying_here","_law_wants","_law_node","_law_many"] (Z5 (top 49)):=⟨rfl,rfl,rfl,by decide +kernel,rfl,by decide +kernel,by decide +kernel⟩
theorem ok__law_node_kind {P:Program}{w:World}{K:PySem.W.Frag}{mg:Str->Option Value}{base:Heap}(T:DefAt K "_law_node_kind" (top 49)) (mx:∀ v,PySem.W.nsIn K mainGlobals "_law_node_kind" = some (some v)->mg "_law_node_kind" = some v) (z_bool:mg "bool" = none) (z_isinstance:mg "isinstance" = none) (z_len:mg "len" = none) (z_tuple:mg "tuple" = none) (F__law_at:Fn P w K mg base 1 "_law_at" 2 z0a) (F__law_fair_ring:Fn P w K mg base 1 "_law_fair_ring" 3 v5) (F__law_number:Fn P w K mg base 1 "_law_number" 3 J8) (F__law_run_good:Fn P w K mg base 3 "_law_run_good" 2 z0s) (F__law_tuple:Fn P w K mg base 1 "_law_tuple" 3 Y5):Fn P w K mg base 4 "_law_node_kind" 5 z0f:=by
 obtain ⟨f,fd,hf,F⟩:=T
 have hb:Binds K fd ["_law_machine_here","_law_saying_here","_law_wants","_law_node","_law_many"] []:=F.binds fun _ _ _ _ _ _ us hl=>(by obtain ⟨_,_,_,_,_,rfl⟩:=ar5 hl;rfl)
 exact Fn.cln <| Y1 F sc__law_node_kind hb (mx _ hf) rfl fun cdv A outer s H E hcd hr=>(show SB (cxOf CX0 P w K mg base ["_law_machine_here","_law_saying_here","_law_wants","_law_node","_law_many"] "_law_node_kind" (Z5 (top 49)) f cdv A outer s H E).nox EX0 (j7 (top 49)) z0Q from
  have nd:(["_law_machine_here","_law_saying_here","_law_wants","_law_node","_law_many"]:List Str).Nodup:=sc__law_node_kind.nd
  (Z0 (s_if (SW.sc (z2l (z07 (Y8 (Z7 F__law_tuple (hr.mono (by decide)) rfl (z0 (z3 3) (z0 Z3 (z0 Z3 Z1)))))) (z1f (z07 (Y8 (Z7 F__law_number (hr.mono (by decide)) rfl (z0 (Z9 (z3 3) Z3) (z0 Z3 (z0 (J2 rfl z_len (z0 (z3 1) Z1)) Z1))))))))) (Z0 (y6 z0E) Z4) Z4) (Z0 (s_if (SW.sc (z2l (z07 (Y8 (Z7 F__law_number (hr.mono (by decide)) rfl (z0 (Z9 (z3 3) Z3) (z0 Z3 (z0 (J2 rfl z_len (z0 (Z9 (z3 0) Z3) Z1)) Z1)))))) (z1f (z07 (Y8 (z2H rfl z_isinstance rfl z_bool (by decide +kernel) (by decide) (Z9 (z3 3) Z3))))))) (Z0 (y6 z0E) Z4) Z4) (Z0 (s_if (sc_c z6k (Z9 (z3 3) Z3) z3Y) (Z0 (s_if (SW.sc (z2l (z07 (Y8 (Z7 F__law_run_good (hr.mono (by decide)) rfl (z0 (z3 0) (z0 (Z9 (z3 3) Z3) Z1))))) (z1f (z07 (Y8 (Z7 F__law_fair_ring (hr.mono (by decide)) rfl (z0 (z3 0) (z0 (Z9 (Z9 (z3 3) Z3) Z3) (z0 (z3 2) Z1))))))))) (Z0 (y6 z0E) Z4) Z4) (Z0 (s_if (sc_c (z6d (hu30 hr)) (Z7 F__law_at (hr.mono (by decide)) rfl (z0 (Z9 (z3 3) Z3) (z0 Z3 Z1))) (Z9 (z3 3) Z3)) (Z0 (y6 z0E) Z4) Z4) Z4)) Z4) (Z0 (s_if (z07 (Y8 (z2H rfl z_isinstance rfl z_tuple (by decide +kernel) (by decide) (Z9 (z3 3) Z3)))) (Z0 (y6 z0E) Z4) Z4) (Z0 (y6 (z0K (se_c (z0i (hu30 hr)) (z02 (N':=["_law_many","_law_kid"]) (cap:=[some 4,none]) rfl (z0y (by first | rfl | kernel_rfl!)) (z0v (Z9 (z3 3) Z3)) (fun _ _ _ _=>(y8 1 (show (["_law_many","_law_kid"]:List Str).Nodup by decide +kernel))) (fun _ _ _ _=>(z1c (z07 (Y8 (Z7 F__law_number (hr.mono (by decide)) rfl (z0 (z3 1) (z0 Z3 (z0 (z3 0) Z1)))))))) (fun _ _ _ _=>(z3 1))) (J0 Z1)))) Z4))))))
noncomputable def z1M:G->M Out :=
 (Z2 (sIf (cOr (fun γ=>do let d ← e2 (fEq false) (e2 fIx (eVar 1) (fun _=>pure (.int 0))) (fun _=>pure (.str "yes")) γ;asB d) (fun γ=>do let d ← e2 (fEq false) (e2 fIx (eVar 1) (fun _=>pure (.int 0))) (fun _=>pure (.str "no")) γ;asB d)) (Z2 (sRet (eAnd (clE (e2 (fEqX false) (eVar 4) (eLst aNil))) (e2 (fEqX false) (eVar 3) (e2 (fEq false) (e2 fIx (eVar 1) (fun _=>pure (.int 0))) (fun _=>pure (.str "yes")))))) bNil) bNil) (Z2 (sIf (fun γ=>do let d ← e2 (fEq false) (e2 fIx (eVar 1) (fun _=>pure (.int 0))) (fun _=>pure (.str "mark")) γ;asB d) (Z2 (sRet (eAnd (clE (e2 (fEqX false) (eVar 4) (eLst aNil))) (e2 (fEqX false) (eVar 3) (e2 (fIn false) (e2 fIx (eVar 1) (fun _=>pure (.int 1))) (e2 fIx (e2 fIx (eVar 0) (fun _=>pure (.int 1))) (eVar 2)))))) bNil) bNil) (Z2 (sIf (fun γ=>do let d ← e2 (fEq false) (e2 fIx (eVar 1) (fun _=>pure (.int 0))) (fun _=>pure (.str "not")) γ;asB d) (Z2 (sRet (clE (e2 (fEqX false) (eVar 4) (eLst (z9 (eTup (z9 (e2 fIx (eVar 1) (fun _=>pure (.int 1))) (z9 (eVar 2) (z9 (eNot (eVar 3)) aNil)))) aNil))))) bNil) bNil) (Z2 (sIf (fun γ=>do let d ← e2 (fEq false) (e2 fIx (eVar 1) (fun _=>pure (.int 0))) (fun _=>pure (.str "step")) γ;asB d) (Z2 (z0M 5 [some 1,some 3,none] (Y6 (e2 fIx (e2 fIx (eVar 0) (fun _=>pure (.int 0))) (eVar 2))) (gN 2) (fun _=>pure true) (eTup (z9 (e2 fIx (eVar 0) (fun _=>pure (.int 1))) (z9 (eVar 2) (z9 (eVar 1) aNil))))) (Z2 (sIf (cVal (eVar 3)) (Z2 (sRet (eAnd (e2 (fEq false) (j3 fLen (z9 (eVar 4) aNil)) (fun _=>pure (.int 1))) (e2 (fIn false) (e2 fIx (eVar 4) (fun _=>pure (.int 0))) (eVar 5)))) bNil) bNil) (Z2 (sRet (e2 (fEqX false) (eVar 4) (eVar 5))) bNil))) bNil) (Z2 (sAsg (eLst (z9 (eTup (z9 (e2 fIx (eVar 1) (fun _=>pure (.int 1))) (z9 (eVar 2) (z9 (eVar 3) aNil)))) (z9 (eTup (z9 (e2 fIx (eVar 1) (fun _=>pure (.int 2))) (z9 (eVar 2) (z9 (eVar 3) aNil)))) aNil))) (gN 5)) (Z2 (sIf (fun γ=>do let d ← e2 (fEqX false) (eVar 3) (e2 (fEq false) (e2 fIx (eVar 1) (fun _=>pure (.int 0))) (fun _=>pure (.str "and"))) γ;asB d) (Z2 (sRet (e2 (fEqX false) (eVar 4) (eVar 5))) bNil) bNil) (Z2 (sRet (eAnd (e2 (fEq false) (j3 fLen (z9 (eVar 4) aNil)) (fun _=>pure (.int 1))) (e2 (fIn false) (e2 fIx (eVar 4) (fun _=>pure (.int 0))) (eVar 5)))) bNil)))))))
noncomputable def z11:List D->M D:=fun ds=>cln (runF 6 z1M ds)
theorem sc__law_plain_right:FnScope ["_law_machine_here","_law_line","_law_one","_law_truth_here","_law_claims","_law_each"] ["_law_machine_here","_law_line","_law_one","_law_truth_here","_law_claims"] (Z5 (top 50)):=⟨rfl,rfl,rfl,by decide +kernel,rfl,by decide +kernel,by decide +kernel⟩
theorem ok__law_plain_right {P:Program}{w:World}{K:PySem.W.Frag}{mg:Str->Option Value}{base:Heap}(T:DefAt K "_law_plain_right" (top 50)) (mx:∀ v,PySem.W.nsIn K mainGlobals "_law_plain_right" = some (some v)->mg "_law_plain_right" = some v) (z_len:mg "len" = none):Fn P w K mg base 1 "_law_plain_right" 5 z11:=by
 obtain ⟨f,fd,hf,F⟩:=T
 have hb:Binds K fd ["_law_machine_here","_law_line","_law_one","_law_truth_here","_law_claims"] []:=F.binds fun _ _ _ _ _ _ us hl=>(by obtain ⟨_,_,_,_,_,rfl⟩:=ar5 hl;rfl)
 exact Fn.cln <| Y1 F sc__law_plain_right hb (mx _ hf) rfl fun cdv A outer s H E hcd hr=>(show SB (cxOf CX0 P w K mg base ["_law_machine_here","_law_line","_law_one","_law_truth_here","_law_claims","_law_each"] "_law_plain_right" (Z5 (top 50)) f cdv A outer s H E).nox EX0 (j7 (top 50)) z1M from
  have nd:(["_law_machine_here","_law_line","_law_one","_law_truth_here","_law_claims","_law_each"]:List Str).Nodup:=sc__law_plain_right.nd
  (Z0 (s_if (SW.sc (z2l (sc_c z0k (Z9 (z3 1) Z3) j8) (z1f (sc_c z0k (Z9 (z3 1) Z3) j8)))) (Z0 (y6 (z0u (z0K (se_c (z0i (hu30 hr)) (z3 4) (J0 Z1))) (z0U (se_c (z0i (hu30 hr)) (z3 3) (se_c z0k (Z9 (z3 1) Z3) j8))))) Z4) Z4) (Z0 (s_if (sc_c z0k (Z9 (z3 1) Z3) j8) (Z0 (y6 (z0u (z0K (se_c (z0i (hu30 hr)) (z3 4) (J0 Z1))) (z0U (se_c (z0i (hu30 hr)) (z3 3) (se_c z2F (Z9 (z3 1) Z3) (Z9 (Z9 (z3 0) Z3) (z3 2))))))) Z4) Z4) (Z0 (s_if (sc_c z0k (Z9 (z3 1) Z3) j8) (Z0 (y6 (z0K (se_c (z0i (hu30 hr)) (z3 4) (J0 (z0 (Y0 (z0 (Z9 (z3 1) Z3) (z0 (z3 2) (z0 (z3E (z3 3)) Z1)))) Z1))))) Z4) Z4) (Z0 (s_if (sc_c z0k (Z9 (z3 1) Z3) j8) (Z0 (z2i 5 (N':=["_law_line","_law_truth_here","_law_to"]) (cap:=[some 1,some 3,none]) rfl (z0y (by first | rfl | kernel_rfl!)) (z0v (Z9 (Z9 (z3 0) Z3) (z3 2))) (fun _ _ _ _=>(y8 2 (show (["_law_line","_law_truth_here","_law_to"]:List Str).Nodup by decide +kernel))) (fun _ _ _ _=>z00) (fun _ _ _ _=>(Y0 (z0 (Z9 (z3 0) Z3) (z0 (z3 2) (z0 (z3 1) Z1))))) nd) (Z0 (s_if (Y8 (z3 3)) (Z0 (y6 (z0u (se_c z0k (J2 rfl z_len (z0 (z3 4) Z1)) Z3) (z0U (se_c z2F (Z9 (z3 4) Z3) (z3 5))))) Z4) Z4) (Z0 (y6 (se_c (z0i (hu30 hr)) (z3 4) (z3 5))) Z4))) Z4) (Z0 (J7 5 nd (J0 (z0 (Y0 (z0 (Z9 (z3 1) Z3) (z0 (z3 2) (z0 (z3 3) Z1)))) (z0 (Y0 (z0 (Z9 (z3 1) Z3) (z0 (z3 2) (z0 (z3 3) Z1)))) Z1)))) (Z0 (s_if (sc_c (z0i (hu30 hr)) (z3 3) (se_c z0k (Z9 (z3 1) Z3) j8)) (Z0 (y6 (se_c (z0i (hu30 hr)) (z3 4) (z3 5))) Z4) Z4) (Z0 (y6 (z0u (se_c z0k (J2 rfl z_len (z0 (z3 4) Z1)) Z3) (z0U (se_c z2F (Z9 (z3 4) Z3) (z3 5))))) Z4))))))))
noncomputable def z1H:G->M Out :=
 (Z2 (sAsg (e2 fIx (eVar 0) (fun _=>pure (.int 2))) (gN 4)) (Z2 (sIf (cNot (cVal (eVar 2))) (Z2 (sAsg (e2 fIx (eVar 0) (fun _=>pure (.int 3))) (gN 4)) bNil) bNil) (Z2 (z0M 5 [some 4,some 1,some 2,none] (z0J (eVar 3)) (gN 3) (fun _=>pure true) (eTup (z9 (eVar 0) (z9 (eFn 2 z0a (z9 (eVar 1) (z9 (eVar 3) aNil))) (z9 (eVar 2) aNil))))) (Z2 (sIf (cNot (cVal (eVar 2))) (Z2 (z1h (eM1 z09 (eVar 5) (eTup (z9 (e2 fIx (eVar 0) (fun _=>pure (.int 2))) (z9 (eFn 2 z0a (z9 (eVar 1) (z9 (eVar 3) aNil))) (z9 (eVar 2) aNil)))))) bNil) bNil) (Z2 (z1h (eM1 z09 (eVar 5) (eTup (z9 (e2 fIx (eVar 0) (fun _=>pure (.int 3))) (z9 (eFn 2 z0a (z9 (eVar 1) (z9 (eVar 3) aNil))) (z9 (eVar 2) aNil)))))) (Z2 (sRet (eVar 5)) bNil))))))
noncomputable def z0R:List D->M D:=fun ds=>cln (runF 6 z1H ds)
theorem sc__law_place_claims:FnScope ["_law_line","_law_run","_law_truth_here","_law_place","_law_ahead","_law_claims"] ["_law_line","_law_run","_law_truth_here","_law_place"] (Z5 (top 51)):=⟨rfl,rfl,rfl,by decide +kernel,rfl,by decide +kernel,by decide +kernel⟩
theorem ok__law_place_claims {P:Program}{w:World}{K:PySem.W.Frag}{mg:Str->Option Value}{base:Heap}(T:DefAt K "_law_place_claims" (top 51)) (mx:∀ v,PySem.W.nsIn K mainGlobals "_law_place_claims" = some (some v)->mg "_law_place_claims" = some v) (z_range:mg "range" = none) (F__law_at:Fn P w K mg base 1 "_law_at" 2 z0a):Fn P w K mg base 2 "_law_place_claims" 4 z0R:=by
 obtain ⟨f,fd,hf,F⟩:=T
 have hb:Binds K fd ["_law_line","_law_run","_law_truth_here","_law_place"] []:=F.binds fun _ _ _ _ _ _ us hl=>(by obtain ⟨_,_,_,_,rfl⟩:=ar4 hl;rfl)
 exact Fn.cln <| Y1 F sc__law_place_claims hb (mx _ hf) rfl fun cdv A outer s H E hcd hr=>(show SB (cxOf CX0 P w K mg base ["_law_line","_law_run","_law_truth_here","_law_place","_law_ahead","_law_claims"] "_law_place_claims" (Z5 (top 51)) f cdv A outer s H E).nox EX0 (j7 (top 51)) z1H from
  have nd:(["_law_line","_law_run","_law_truth_here","_law_place","_law_ahead","_law_claims"]:List Str).Nodup:=sc__law_place_claims.nd
  (Z0 (J7 4 nd (Z9 (z3 0) Z3)) (Z0 (s_if (z07 (Y8 (z3 2))) (Z0 (J7 4 nd (Z9 (z3 0) Z3)) Z4) Z4) (Z0 (z2i 5 (N':=["_law_ahead","_law_run","_law_truth_here","_law_k"]) (cap:=[some 4,some 1,some 2,none]) rfl (z0y (by first | rfl | kernel_rfl!)) (z0A rfl z_range (z3 3)) (fun _ _ _ _=>(y8 3 (show (["_law_ahead","_law_run","_law_truth_here","_law_k"]:List Str).Nodup by decide +kernel))) (fun _ _ _ _=>z00) (fun _ _ _ _=>(Y0 (z0 (z3 0) (z0 (Z7 F__law_at (hr.mono (by decide)) rfl (z0 (z3 1) (z0 (z3 3) Z1))) (z0 (z3 2) Z1))))) nd) (Z0 (s_if (z07 (Y8 (z3 2))) (Z0 (z2K (z0X (z3 5) (Y0 (z0 (Z9 (z3 0) Z3) (z0 (Z7 F__law_at (hr.mono (by decide)) rfl (z0 (z3 1) (z0 (z3 3) Z1))) (z0 (z3 2) Z1)))))) Z4) Z4) (Z0 (z2K (z0X (z3 5) (Y0 (z0 (Z9 (z3 0) Z3) (z0 (Z7 F__law_at (hr.mono (by decide)) rfl (z0 (z3 1) (z0 (z3 3) Z1))) (z0 (z3 2) Z1)))))) (Z0 (y6 (z3 5)) Z4)))))))
noncomputable def z0B:G->M Out :=
 (Z2 (z0M 4 [some 0,some 2,none] (z1g (eFn 1 z0o (z9 (eVar 1) aNil))) (gN 2) (fun _=>pure true) (eTup (z9 (e2 fIx (eVar 0) (fun _=>pure (.int 2))) (z9 (eVar 2) (z9 (eVar 1) aNil))))) (Z2 (sIf (fun γ=>do let d ← e2 (fEq false) (e2 fIx (eVar 0) (fun _=>pure (.int 1))) (fun _=>pure (.str "next")) γ;asB d) (Z2 (sRet (clE (e2 (fEqX false) (eVar 3) (eLst (z9 (eTup (z9 (e2 fIx (eVar 0) (fun _=>pure (.int 2))) (z9 (eFn 2 z0a (z9 (eVar 1) (z9 (fun _=>pure (.int 1)) aNil))) (z9 (eVar 2) aNil)))) aNil))))) bNil) bNil) (Z2 (sIf (cOr (fun γ=>do let d ← e2 (fEq false) (e2 fIx (eVar 0) (fun _=>pure (.int 1))) (fun _=>pure (.str "once")) γ;asB d) (fun γ=>do let d ← e2 (fEq false) (e2 fIx (eVar 0) (fun _=>pure (.int 1))) (fun _=>pure (.str "ever")) γ;asB d)) (Z2 (sIf (fun γ=>do let d ← e2 (fEqX false) (eVar 2) (e2 (fEq false) (e2 fIx (eVar 0) (fun _=>pure (.int 1))) (fun _=>pure (.str "ever"))) γ;asB d) (Z2 (sRet (e2 (fEqX false) (eVar 3) (eVar 4))) bNil) bNil) (Z2 (sRet (eAnd (e2 (fEq false) (j3 fLen (z9 (eVar 3) aNil)) (fun _=>pure (.int 1))) (e2 (fIn false) (e2 fIx (eVar 3) (fun _=>pure (.int 0))) (eVar 4)))) bNil)) bNil) (Z2 (sAsg (e2 fAdd (e2 fSub (j3 fLen (z9 (eVar 3) aNil)) (fun _=>pure (.int 2))) (j3 fInt (z9 (eVar 2) aNil))) (gN 5)) (Z2 (sIf (cAnd (fun γ=>do let d ← e2 fGe (eVar 5) (fun _=>pure (.int 0)) γ;asB d) (fun γ=>do let d ← e2 (fEqX false) (eVar 3) (eFn 4 z0R (z9 (eVar 0) (z9 (eVar 1) (z9 (eVar 2) (z9 (eVar 5) aNil))))) γ;asB d)) (Z2 (sRet (fun _=>pure (.bl true))) bNil) bNil) (Z2 (sIf (fun γ=>do let d ← e2 (fEqX true) (eVar 2) (e2 (fEq false) (e2 fIx (eVar 0) (fun _=>pure (.int 1))) (fun _=>pure (.str "unless"))) γ;asB d) (Z2 (sRet (fun _=>pure (.bl false))) bNil) bNil) (Z2 (sIf (cVal (eVar 2)) (Z2 (sRet (e2 (fEqX false) (eVar 3) (eVar 4))) bNil) bNil) (Z2 (sRet (clE (e2 (fEqX false) (eVar 3) (x8 [some 0,some 2,none] (z1g (eFn 1 z0o (z9 (eVar 1) aNil))) (gN 2) (fun _=>pure true) (eTup (z9 (e2 fIx (eVar 0) (fun _=>pure (.int 3))) (z9 (eVar 2) (z9 (eVar 1) aNil)))))))) bNil))))))))
noncomputable def z0z:List D->M D:=fun ds=>cln (runF 6 z0B ds)
theorem sc__law_shown_right:FnScope ["_law_line","_law_run","_law_truth_here","_law_claims","_law_each","_law_place"] ["_law_line","_law_run","_law_truth_here","_law_claims"] (Z5 (top 52)):=⟨rfl,rfl,rfl,by decide +kernel,rfl,by decide +kernel,by decide +kernel⟩
theorem ok__law_shown_right {P:Program}{w:World}{K:PySem.W.Frag}{mg:Str->Option Value}{base:Heap}(T:DefAt K "_law_shown_right" (top 52)) (mx:∀ v,PySem.W.nsIn K mainGlobals "_law_shown_right" = some (some v)->mg "_law_shown_right" = some v) (z_int:mg "int" = none) (z_len:mg "len" = none) (F__law_at:Fn P w K mg base 1 "_law_at" 2 z0a) (F__law_here:Fn P w K mg base 1 "_law_here" 1 z0o) (F__law_place_claims:Fn P w K mg base 2 "_law_place_claims" 4 z0R):Fn P w K mg base 3 "_law_shown_right" 4 z0z:=by
 obtain ⟨f,fd,hf,F⟩:=T
 have hb:Binds K fd ["_law_line","_law_run","_law_truth_here","_law_claims"] []:=F.binds fun _ _ _ _ _ _ us hl=>(by obtain ⟨_,_,_,_,rfl⟩:=ar4 hl;rfl)
 exact Fn.cln <| Y1 F sc__law_shown_right hb (mx _ hf) rfl fun cdv A outer s H E hcd hr=>(show SB (cxOf CX0 P w K mg base ["_law_line","_law_run","_law_truth_here","_law_claims","_law_each","_law_place"] "_law_shown_right" (Z5 (top 52)) f cdv A outer s H E).nox EX0 (j7 (top 52)) z0B from
  have nd:(["_law_line","_law_run","_law_truth_here","_law_claims","_law_each","_law_place"]:List Str).Nodup:=sc__law_shown_right.nd
  (Z0 (z2i 4 (N':=["_law_line","_law_truth_here","_law_one"]) (cap:=[some 0,some 2,none]) rfl (z0y (by first | rfl | kernel_rfl!)) (z25 (Z7 F__law_here (hr.mono (by decide)) rfl (z0 (z3 1) Z1))) (fun _ _ _ _=>(y8 2 (show (["_law_line","_law_truth_here","_law_one"]:List Str).Nodup by decide +kernel))) (fun _ _ _ _=>z00) (fun _ _ _ _=>(Y0 (z0 (Z9 (z3 0) Z3) (z0 (z3 2) (z0 (z3 1) Z1))))) nd) (Z0 (s_if (sc_c z0k (Z9 (z3 0) Z3) j8) (Z0 (y6 (z0K (se_c (z0i (hu30 hr)) (z3 3) (J0 (z0 (Y0 (z0 (Z9 (z3 0) Z3) (z0 (Z7 F__law_at (hr.mono (by decide)) rfl (z0 (z3 1) (z0 Z3 Z1))) (z0 (z3 2) Z1)))) Z1))))) Z4) Z4) (Z0 (s_if (SW.sc (z2l (sc_c z0k (Z9 (z3 0) Z3) j8) (z1f (sc_c z0k (Z9 (z3 0) Z3) j8)))) (Z0 (s_if (sc_c (z0i (hu30 hr)) (z3 2) (se_c z0k (Z9 (z3 0) Z3) j8)) (Z0 (y6 (se_c (z0i (hu30 hr)) (z3 3) (z3 4))) Z4) Z4) (Z0 (y6 (z0u (se_c z0k (J2 rfl z_len (z0 (z3 3) Z1)) Z3) (z0U (se_c z2F (Z9 (z3 3) Z3) (z3 4))))) Z4)) Z4) (Z0 (J7 5 nd (x9 (z1B (J2 rfl z_len (z0 (z3 3) Z1)) Z3) (z93 rfl z_int (z0 (z3 2) Z1)))) (Z0 (s_if (SW.sc (z6u (sc_c z7y (z3 5) Z3) (z4k (sc_c (z0i (hu30 hr)) (z3 3) (Z7 F__law_place_claims (hr.mono (by decide)) rfl (z0 (z3 0) (z0 (z3 1) (z0 (z3 2) (z0 (z3 5) Z1))))))))) (Z0 (y6 z0E) Z4) Z4) (Z0 (s_if (sc_c (z6d (hu30 hr)) (z3 2) (se_c z0k (Z9 (z3 0) Z3) j8)) (Z0 (y6 z0E) Z4) Z4) (Z0 (s_if (Y8 (z3 2)) (Z0 (y6 (se_c (z0i (hu30 hr)) (z3 3) (z3 4))) Z4) Z4) (Z0 (y6 (z0K (se_c (z0i (hu30 hr)) (z3 3) (z02 (N':=["_law_line","_law_truth_here","_law_one"]) (cap:=[some 0,some 2,none]) rfl (z0y (by first | rfl | kernel_rfl!)) (z25 (Z7 F__law_here (hr.mono (by decide)) rfl (z0 (z3 1) Z1))) (fun _ _ _ _=>(y8 2 (show (["_law_line","_law_truth_here","_law_one"]:List Str).Nodup by decide +kernel))) (fun _ _ _ _=>z00) (fun _ _ _ _=>(Y0 (z0 (Z9 (z3 0) Z3) (z0 (z3 2) (z0 (z3 1) Z1))))))))) Z4)))))))))
noncomputable def z0F:G->M Out :=
 (Z2 (sAsg (eVar 4) (gT 5 (J6 (gN 5) (J6 (gN 6) (J6 (gN 7) (J6 (gN 8) (J6 (gN 9) z1k))))))) (Z2 (z0M 10 [some 3,none] (Y6 (eVar 9)) (gN 1) (fun _=>pure true) (J9 (e2 fIx (eVar 0) (eVar 1)) z0d (z0e (fun _=>pure (.int 3))))) (Z2 (sIf (clT (fun γ=>do let d ← e2 (fEqX true) (x8 [some 5,none] (z1g (eVar 10)) (gN 1) (fun γ=>do let d ← e2 fGe (e2 fIx (eVar 1) (fun _=>pure (.int 0))) (eVar 0) γ;asB d) (eVar 1)) (eLst aNil) γ;asB d)) (Z2 (sRet (fun _=>pure (.bl false))) bNil) bNil) (Z2 (sAsg (e2 fIx (eVar 1) (eVar 5)) (gN 11)) (Z2 (sIf (cAnd (fun γ=>do let d ← e2 (fEq true) (e2 fIx (eVar 11) (fun _=>pure (.int 0))) (fun _=>pure (.str "some")) γ;asB d) (fun γ=>do let d ← e2 (fEq true) (e2 fIx (eVar 11) (fun _=>pure (.int 0))) (fun _=>pure (.str "all")) γ;asB d)) (Z2 (sRet (eAnd (e2 (fIs false) (eVar 8) (fun _=>pure .non)) (eFn 5 z11 (z9 (eVar 0) (z9 (eVar 11) (z9 (eVar 6) (z9 (eVar 7) (z9 (eVar 10) aNil)))))))) bNil) bNil) (Z2 (sIf (fun γ=>do let d ← e2 (fEqX false) (eVar 7) (e2 (fEq false) (e2 fIx (eVar 11) (fun _=>pure (.int 0))) (fun _=>pure (.str "all"))) γ;asB d) (Z2 (sRet (eAnd (e2 (fIs false) (eVar 8) (fun _=>pure .non)) (eAnd (clE (e2 (fEqX false) (eVar 10) (eLst aNil))) (e2 (fEqX false) (eVar 7) (e2 (fIn false) (eVar 6) (e2 fIx (eVar 2) (eVar 5))))))) bNil) bNil) (Z2 (sRet (eAnd (e2 (fIs true) (eVar 8) (fun _=>pure .non)) (eFn 4 z0z (z9 (eVar 11) (z9 (eVar 8) (z9 (eVar 7) (z9 (eVar 10) aNil))))))) bNil)))))))
noncomputable def Y7:List D->M D:=fun ds=>cln (runF 12 z0F ds)
theorem sc__law_node_right:FnScope ["_law_machine_here","_law_saying_here","_law_sets","_law_thing","_law_node","_law_number_here","_law_one","_law_truth_here","_law_run","_law_kids","_law_claims","_law_line"] ["_law_machine_here","_law_saying_here","_law_sets","_law_thing","_law_node"] (Z5 (top 53)):=⟨rfl,rfl,rfl,by decide +kernel,rfl,by decide +kernel,by decide +kernel⟩
theorem ok__law_node_right {P:Program}{w:World}{K:PySem.W.Frag}{mg:Str->Option Value}{base:Heap}(T:DefAt K "_law_node_right" (top 53)) (mx:∀ v,PySem.W.nsIn K mainGlobals "_law_node_right" = some (some v)->mg "_law_node_right" = some v) (F__law_plain_right:Fn P w K mg base 1 "_law_plain_right" 5 z11) (F__law_shown_right:Fn P w K mg base 3 "_law_shown_right" 4 z0z):Fn P w K mg base 4 "_law_node_right" 5 Y7:=by
 obtain ⟨f,fd,hf,F⟩:=T
 have hb:Binds K fd ["_law_machine_here","_law_saying_here","_law_sets","_law_thing","_law_node"] []:=F.binds fun _ _ _ _ _ _ us hl=>(by obtain ⟨_,_,_,_,_,rfl⟩:=ar5 hl;rfl)
 exact Fn.cln <| Y1 F sc__law_node_right hb (mx _ hf) rfl fun cdv A outer s H E hcd hr=>(show SB (cxOf CX0 P w K mg base ["_law_machine_here","_law_saying_here","_law_sets","_law_thing","_law_node","_law_number_here","_law_one","_law_truth_here","_law_run","_law_kids","_law_claims","_law_line"] "_law_node_right" (Z5 (top 53)) f cdv A outer s H E).nox EX0 (j7 (top 53)) z0F from
  have nd:(["_law_machine_here","_law_saying_here","_law_sets","_law_thing","_law_node","_law_number_here","_law_one","_law_truth_here","_law_run","_law_kids","_law_claims","_law_line"]:List Str).Nodup:=sc__law_node_right.nd
  (Z0 (z3a (z3 4) (z2I rfl (J5 (w6 5 nd) (J5 (w6 6 nd) (J5 (w6 7 nd) (J5 (w6 8 nd) (J5 (w6 9 nd) z1P))))))) (Z0 (z2i 10 (N':=["_law_thing","_law_kid"]) (cap:=[some 3,none]) rfl (z0y (by first | rfl | kernel_rfl!)) (z0v (z3 9)) (fun _ _ _ _=>(y8 1 (show (["_law_thing","_law_kid"]:List Str).Nodup by decide +kernel))) (fun _ _ _ _=>z00) (fun _ _ _ _=>(z0H (Z9 (z3 0) (z3 1)) z15 (z16 Z3))) nd) (Z0 (s_if (z9G (sc_c (z6d (hu30 hr)) (z02 (N':=["_law_number_here","_law_claim"]) (cap:=[some 5,none]) rfl (z0y (by first | rfl | kernel_rfl!)) (z25 (z3 10)) (fun _ _ _ _=>(y8 1 (show (["_law_number_here","_law_claim"]:List Str).Nodup by decide +kernel))) (fun _ _ _ _=>(z1c (sc_c z7y (Z9 (z3 1) Z3) (z3 0)))) (fun _ _ _ _=>(z3 1))) (J0 Z1))) (Z0 (y6 z0E) Z4) Z4) (Z0 (J7 11 nd (Z9 (z3 1) (z3 5))) (Z0 (s_if (SW.sc (z6u (sc_c zf5 (Z9 (z3 11) Z3) j8) (z4k (sc_c zf5 (Z9 (z3 11) Z3) j8)))) (Z0 (y6 (z0u (se_c z8v (z3 8) z3Y) (z0U (Z7 F__law_plain_right (hr.mono (by decide)) rfl (z0 (z3 0) (z0 (z3 11) (z0 (z3 6) (z0 (z3 7) (z0 (z3 10) Z1))))))))) Z4) Z4) (Z0 (s_if (sc_c (z0i (hu30 hr)) (z3 7) (se_c z0k (Z9 (z3 11) Z3) j8)) (Z0 (y6 (z0u (se_c z8v (z3 8) z3Y) (z0u (z0K (se_c (z0i (hu30 hr)) (z3 10) (J0 Z1))) (z0U (se_c (z0i (hu30 hr)) (z3 7) (se_c z2F (z3 6) (Z9 (z3 2) (z3 5)))))))) Z4) Z4) (Z0 (y6 (z0u (se_c z6k (z3 8) z3Y) (z0U (Z7 F__law_shown_right (hr.mono (by decide)) rfl (z0 (z3 11) (z0 (z3 8) (z0 (z3 7) (z0 (z3 10) Z1)))))))) Z4))))))))
noncomputable def z0G:G->M Out :=
 (Z2 (sIf (cOr (cNot (cVal (eIsi "tuple" (eVar 4)))) (fun γ=>do let d ← e2 (fEq false) (j3 fLen (z9 (eVar 4) aNil)) (fun _=>pure (.int 0)) γ;asB d)) (Z2 (sRet (fun _=>pure (.bl false))) bNil) bNil) (Z2 (sFor (Y6 (eVar 4)) (gN 5) (Z2 (sIf (cNot (cVal (eFn 5 z0f (z9 (eVar 0) (z9 (eVar 1) (z9 (eVar 3) (z9 (eVar 5) (z9 (j3 fLen (z9 (eVar 4) aNil)) aNil)))))))) (Z2 (sRet (fun _=>pure (.bl false))) bNil) bNil) bNil)) (Z2 (sRet (clE (e2 (fEqX false) (x8 [some 0,some 1,some 2,some 4,none] (Y6 (eVar 4)) (gN 4) (cNot (cVal (eFn 5 Y7 (z9 (eVar 0) (z9 (eVar 1) (z9 (eVar 2) (z9 (eVar 3) (z9 (eVar 4) aNil)))))))) (eVar 4)) (eLst aNil)))) bNil)))
noncomputable def w8:List D->M D:=fun ds=>cln (runF 6 z0G ds)
theorem sc__law_tree_right:FnScope ["_law_machine_here","_law_saying_here","_law_sets","_law_wants","_law_thing","_law_node"] ["_law_machine_here","_law_saying_here","_law_sets","_law_wants","_law_thing"] (Z5 (top 54)):=⟨rfl,rfl,rfl,by decide +kernel,rfl,by decide +kernel,by decide +kernel⟩
theorem ok__law_tree_right {P:Program}{w:World}{K:PySem.W.Frag}{mg:Str->Option Value}{base:Heap}(T:DefAt K "_law_tree_right" (top 54)) (mx:∀ v,PySem.W.nsIn K mainGlobals "_law_tree_right" = some (some v)->mg "_law_tree_right" = some v) (z_isinstance:mg "isinstance" = none) (z_len:mg "len" = none) (z_tuple:mg "tuple" = none) (F__law_node_kind:Fn P w K mg base 4 "_law_node_kind" 5 z0f) (F__law_node_right:Fn P w K mg base 4 "_law_node_right" 5 Y7):Fn P w K mg base 5 "_law_tree_right" 5 w8:=by
 obtain ⟨f,fd,hf,F⟩:=T
 have hb:Binds K fd ["_law_machine_here","_law_saying_here","_law_sets","_law_wants","_law_thing"] []:=F.binds fun _ _ _ _ _ _ us hl=>(by obtain ⟨_,_,_,_,_,rfl⟩:=ar5 hl;rfl)
 exact Fn.cln <| Y1 F sc__law_tree_right hb (mx _ hf) rfl fun cdv A outer s H E hcd hr=>(show SB (cxOf CX0 P w K mg base ["_law_machine_here","_law_saying_here","_law_sets","_law_wants","_law_thing","_law_node"] "_law_tree_right" (Z5 (top 54)) f cdv A outer s H E).nox EX0 (j7 (top 54)) z0G from
  have nd:(["_law_machine_here","_law_saying_here","_law_sets","_law_wants","_law_thing","_law_node"]:List Str).Nodup:=sc__law_tree_right.nd
  (Z0 (s_if (SW.sc (z2l (z07 (Y8 (z2H rfl z_isinstance rfl z_tuple (by decide +kernel) (by decide) (z3 4)))) (z1f (sc_c z0k (J2 rfl z_len (z0 (z3 4) Z1)) Z3)))) (Z0 (y6 z0E) Z4) Z4) (Z0 (z3c PassesOwn.never rfl (z0v (z3 4)) (w6 5 nd) (Z0 (s_if (z07 (Y8 (Z7 F__law_node_kind (hr.mono (by decide)) rfl (z0 (z3 0) (z0 (z3 1) (z0 (z3 3) (z0 (z3 5) (z0 (J2 rfl z_len (z0 (z3 4) Z1)) Z1)))))))) (Z0 (y6 z0E) Z4) Z4) Z4)) (Z0 (y6 (z0K (se_c (z0i (hu30 hr)) (z02 (N':=["_law_machine_here","_law_saying_here","_law_sets","_law_thing","_law_node"]) (cap:=[some 0,some 1,some 2,some 4,none]) rfl (z0y (by first | rfl | kernel_rfl!)) (z0v (z3 4)) (fun _ _ _ _=>(y8 4 (show (["_law_machine_here","_law_saying_here","_law_sets","_law_thing","_law_node"]:List Str).Nodup by decide +kernel))) (fun _ _ _ _=>(z1c (z07 (Y8 (Z7 F__law_node_right (hr.mono (by decide)) rfl (z0 (z3 0) (z0 (z3 1) (z0 (z3 2) (z0 (z3 3) (z0 (z3 4) Z1)))))))))) (fun _ _ _ _=>(z3 4))) (J0 Z1)))) Z4))))
noncomputable def z1Z:G->M Out :=
 (Z2 (sAsg (eFn 2 Z6 (z9 (eVar 0) (z9 (j3 fLen (z9 (e2 fIx (eVar 1) (fun _=>pure (.int 0))) aNil)) aNil))) (gN 4)) (Z2 (sAsg (eFn 2 Z6 (z9 (eVar 0) (z9 (fun _=>pure (.int 8)) aNil))) (gN 5)) (Z2 (sAsg (e2 (fEqX false) (e2 (fEq false) (e2 fIx (e2 fIx (eVar 2) (eNeg (fun _=>pure (.int 1)))) (fun _=>pure (.int 0))) (fun _=>pure (.str "all"))) (e2 (fEq true) (eVar 5) (fun _=>pure (.int 0)))) (gN 6)) (Z2 (sAsg (fun _=>pure .non) (gN 7)) (Z2 (sAsg (eTup aNil) (gN 8)) (Z2 (sIf (fun γ=>do let d ← e2 fLt (eVar 5) (fun _=>pure (.int 2)) γ;asB d) (Z2 (sAsg (eFn 4 z1q (z9 (eVar 0) (z9 (eVar 1) (z9 (eVar 4) (z9 (eFn 2 Z6 (z9 (eVar 0) (z9 (fun _=>pure (.int 4)) aNil))) aNil))))) (gN 7)) bNil) bNil) (Z2 (sIf (fun γ=>do let d ← e2 (fEq false) (eVar 5) (fun _=>pure (.int 2)) γ;asB d) (Z2 (sAsg (eTup (z9 (eFn 2 Z6 (z9 (eVar 0) (z9 (eVar 3) aNil))) aNil)) (gN 8)) bNil) bNil) (Z2 (sRet (eTup (z9 (e2 fSub (j3 fLen (z9 (eVar 2) aNil)) (fun _=>pure (.int 1))) (z9 (eVar 4) (z9 (eVar 6) (z9 (eVar 7) (z9 (eVar 8) aNil))))))) bNil))))))))
noncomputable def z1A:List D->M D:=fun ds=>cln (runF 9 z1Z ds)
theorem sc__law_shut:FnScope ["_law_pool_here","_law_machine_here","_law_saying_here","_law_many","_law_one","_law_spoil","_law_truth_here","_law_run","_law_kids"] ["_law_pool_here","_law_machine_here","_law_saying_here","_law_many"] (Z5 (top 55)):=⟨rfl,rfl,rfl,by decide +kernel,rfl,by decide +kernel,by decide +kernel⟩
theorem ok__law_shut {P:Program}{w:World}{K:PySem.W.Frag}{mg:Str->Option Value}{base:Heap}(T:DefAt K "_law_shut" (top 55)) (mx:∀ v,PySem.W.nsIn K mainGlobals "_law_shut" = some (some v)->mg "_law_shut" = some v) (z_len:mg "len" = none) (F__law_closed:Fn P w K mg base 3 "_law_closed" 4 z1q) (F__law_draw:Fn P w K mg base 1 "_law_draw" 2 Z6):Fn P w K mg base 4 "_law_shut" 4 z1A:=by
 obtain ⟨f,fd,hf,F⟩:=T
 have hb:Binds K fd ["_law_pool_here","_law_machine_here","_law_saying_here","_law_many"] []:=F.binds fun _ _ _ _ _ _ us hl=>(by obtain ⟨_,_,_,_,rfl⟩:=ar4 hl;rfl)
 exact Fn.cln <| Y1 F sc__law_shut hb (mx _ hf) rfl fun cdv A outer s H E hcd hr=>(show SB (cxOf CX0 P w K mg base ["_law_pool_here","_law_machine_here","_law_saying_here","_law_many","_law_one","_law_spoil","_law_truth_here","_law_run","_law_kids"] "_law_shut" (Z5 (top 55)) f cdv A outer s H E).nox EX0 (j7 (top 55)) z1Z from
  have nd:(["_law_pool_here","_law_machine_here","_law_saying_here","_law_many","_law_one","_law_spoil","_law_truth_here","_law_run","_law_kids"]:List Str).Nodup:=sc__law_shut.nd
  (Z0 (J7 4 nd (Z7 F__law_draw (hr.mono (by decide)) rfl (z0 (z3 0) (z0 (J2 rfl z_len (z0 (Z9 (z3 1) Z3) Z1)) Z1)))) (Z0 (J7 5 nd (Z7 F__law_draw (hr.mono (by decide)) rfl (z0 (z3 0) (z0 Z3 Z1)))) (Z0 (J7 6 nd (se_c (z0i (hu30 hr)) (se_c z0k (Z9 (Z9 (z3 2) (z40 Z3)) Z3) j8) (se_c zf5 (z3 5) Z3))) (Z0 (J7 7 nd z3Y) (Z0 (J7 8 nd (Y0 Z1)) (Z0 (s_if (sc_c z4N (z3 5) Z3) (Z0 (J7 7 nd (Z7 F__law_closed (hr.mono (by decide)) rfl (z0 (z3 0) (z0 (z3 1) (z0 (z3 4) (z0 (Z7 F__law_draw (hr.mono (by decide)) rfl (z0 (z3 0) (z0 Z3 Z1))) Z1)))))) Z4) Z4) (Z0 (s_if (sc_c z0k (z3 5) Z3) (Z0 (J7 8 nd (Y0 (z0 (Z7 F__law_draw (hr.mono (by decide)) rfl (z0 (z3 0) (z0 (z3 3) Z1))) Z1))) Z4) Z4) (Z0 (y6 (Y0 (z0 (z1B (J2 rfl z_len (z0 (z3 2) Z1)) Z3) (z0 (z3 4) (z0 (z3 6) (z0 (z3 7) (z0 (z3 8) Z1))))))) Z4)))))))))
noncomputable def z9p:G->M Out :=
 (Z2 (sAsg (eFn 1 z21 (z9 (eVar 0) aNil)) (gN 1)) (Z2 (sAsg (e2 fAdd (fun _=>pure (.int 1)) (eFn 2 Z6 (z9 (eVar 1) (z9 (fun _=>pure (.int 3)) aNil)))) (gN 2)) (Z2 (sAsg (eFn 2 z1L (z9 (eVar 1) (z9 (e2 fAdd (fun _=>pure (.int 1)) (eFn 2 Z6 (z9 (eVar 1) (z9 (fun _=>pure (.int 2)) aNil)))) aNil))) (gN 3)) (Z2 (sAsg (eLst (z9 (e2 fIx (eLst (z9 (fun _=>pure (.str "some")) (z9 (fun _=>pure (.str "all")) aNil))) (eFn 2 Z6 (z9 (eVar 1) (z9 (fun _=>pure (.int 2)) aNil)))) (z9 (e2 fIx (eLst (z9 (fun _=>pure (.str "next")) (z9 (fun _=>pure (.str "once")) (z9 (fun _=>pure (.str "ever")) (z9 (fun _=>pure (.str "until")) (z9 (fun _=>pure (.str "unless")) aNil)))))) (eFn 2 Z6 (z9 (eVar 1) (z9 (fun _=>pure (.int 5)) aNil)))) aNil))) (gN 4)) (Z2 (sAsg (eFn 3 z1o (z9 (eVar 1) (z9 (eVar 3) (z9 (fun _=>pure (.int 6)) aNil)))) (gN 5)) (Z2 (sAsg (eLst (z9 (eFn 2 Z6 (z9 (eVar 1) (z9 (j3 fLen (z9 (eVar 5) aNil)) aNil))) (z9 (eFn 2 Z6 (z9 (eVar 1) (z9 (j3 fLen (z9 (eVar 5) aNil)) aNil))) aNil))) (gN 6)) (Z2 (sIf (cOr (fun γ=>do let d ← e2 (fEq false) (e2 fIx (eVar 4) (fun _=>pure (.int 1))) (fun _=>pure (.str "until")) γ;asB d) (fun γ=>do let d ← e2 (fEq false) (e2 fIx (eVar 4) (fun _=>pure (.int 1))) (fun _=>pure (.str "unless")) γ;asB d)) (Z2 (sAsg (e2 fAdd (eVar 5) (eTup (z9 (eTup (z9 (e2 fIx (eVar 4) (fun _=>pure (.int 0))) (z9 (e2 fIx (eVar 4) (fun _=>pure (.int 1))) (z9 (e2 fIx (eVar 6) (fun _=>pure (.int 0))) (z9 (e2 fIx (eVar 6) (fun _=>pure (.int 1))) aNil))))) aNil))) (gN 7)) bNil) (Z2 (sAsg (e2 fAdd (eVar 5) (eTup (z9 (eTup (z9 (e2 fIx (eVar 4) (fun _=>pure (.int 0))) (z9 (e2 fIx (eVar 4) (fun _=>pure (.int 1))) (z9 (e2 fIx (eVar 6) (fun _=>pure (.int 0))) aNil)))) aNil))) (gN 7)) bNil)) (Z2 (sAsg (eFn 3 z1t (z9 (eVar 1) (z9 (eVar 3) (z9 (fun _=>pure (.int 2)) aNil)))) (gN 8)) (Z2 (sAsg (eFn 3 z17 (z9 (eVar 1) (z9 (eVar 3) (z9 (fun _=>pure (.int 6)) aNil)))) (gN 9)) (Z2 (sAsg (eRng true (j3 fLen (z9 (e2 fIx (eVar 9) (fun _=>pure (.int 0))) aNil))) (gN 10)) (Z2 (sAsg (j3 z0w (z9 (x8 [some 10,some 1,none] (Y6 (eVar 7)) (gN 2) (fun _=>pure true) (j3 z0w (z9 (x8 [some 1,none] (Y6 (eVar 0)) (gN 1) (fun γ=>do let d ← e2 (fEq false) (eFn 2 Z6 (z9 (eVar 0) (z9 (fun _=>pure (.int 2)) aNil))) (fun _=>pure (.int 0)) γ;asB d) (eVar 1)) aNil))) aNil)) (gN 11)) (Z2 (sAsg (j3 z0w (z9 (x8 [some 1,some 9,some 7,some 2,none] (z0J (eVar 2)) (gN 4) (fun _=>pure true) (eFn 4 z1A (z9 (eVar 0) (z9 (eVar 1) (z9 (eVar 2) (z9 (eVar 3) aNil)))))) aNil)) (gN 12)) (Z2 (sAsg (eFn 5 w8 (z9 (eVar 9) (z9 (eVar 7) (z9 (eVar 11) (z9 (eVar 8) (z9 (eVar 12) aNil)))))) (gN 13)) (Z2 (sIf (cNot (cVal (eFn 2 Y4 (z9 (eFnP 4 1 [] [] y9 (z9 (eVar 9) (z9 (eVar 7) (z9 (eVar 11) (z9 (eVar 12) aNil)))) (z9 (eVar 8) aNil)) (z9 (eVar 13) aNil))))) (Z2 (sRet (fun _=>pure (.bl false))) bNil) bNil) (Z2 (sAsg (e2 fAdd (J9 (eVar 11) z0d (z0e (eNeg (fun _=>pure (.int 1))))) (eTup (z9 (j3 z0w (z9 (x8 [some 11,none] (Y6 (eVar 10)) (gN 1) (fun γ=>do let d ← e2 (fIn true) (eVar 1) (e2 fIx (eVar 0) (eNeg (fun _=>pure (.int 1)))) γ;asB d) (eVar 1)) aNil)) aNil))) (gN 14)) (Z2 (sAsg (eFn 5 w8 (z9 (eVar 9) (z9 (eVar 7) (z9 (eVar 14) (z9 (eVar 8) (z9 (eVar 12) aNil)))))) (gN 13)) (Z2 (sIf (cNot (cVal (eFn 2 Y4 (z9 (eFnP 4 1 [] [] y9 (z9 (eVar 9) (z9 (eVar 7) (z9 (eVar 14) (z9 (eVar 12) aNil)))) (z9 (eVar 8) aNil)) (z9 (eVar 13) aNil))))) (Z2 (sRet (fun _=>pure (.bl false))) bNil) bNil) (Z2 (sAsg (eFn 5 w8 (z9 (eVar 9) (z9 (eVar 7) (z9 (eVar 14) (z9 (eTup aNil) (z9 (eVar 12) aNil)))))) (gN 13)) (Z2 (sRet (eFn 2 Y4 (z9 (eFnP 4 0 [] [c_FREE] y9 (z9 (eVar 9) (z9 (eVar 7) (z9 (eVar 14) (z9 (eVar 12) aNil)))) aNil) (z9 (eVar 13) aNil)))) bNil)))))))))))))))))))
noncomputable def m_law:List D->M D:=runF 15 z9p
theorem sc_law:FnScope ["_law_script","_law_pool_here","_law_many","_law_names_here","_law_words","_law_rows","_law_last","_law_saying_here","_law_wants","_law_machine_here","_law_full","_law_sets","_law_thing","_law_due","_law_second"] ["_law_script"] (Z5 (top 56)):=⟨rfl,rfl,rfl,by decide +kernel,rfl,by decide +kernel,by decide +kernel⟩
end FT
set_option maxHeartbeats 2000000
namespace FT
open PySem PySem.Spec PyProof.Rows L2
inductive Rw where
 | mark (x:Str)
 | one (w:Str) (ps:List Nat)
 | two (w v:Str) (ps:List Nat)
def Rw.d:Rw->D
 | .mark x=>.tup [.str "mark",.str x]
 | .one w ps=>.tup (.str w :: stD ps)
 | .two w v ps=>.tup (.str w :: .str v :: stD ps)
def Rw.ws:Rw->List Str
 | .mark x=>[x]
 | .one w _=>[w]
 | .two w v _=>[w,v]
def Rw.ps:Rw->List Nat
 | .mark _=>[]
 | .one _ ps=>ps
 | .two _ _ ps=>ps
def Rw.ok:Rw->Prop
 | .mark x=>x.length≤8
 | .one w ps=>w.length≤8/\w≠"mark"/\w≠"some"/\w≠"all"/\ps.length≤2
 | .two w v ps=>w.length≤8/\v.length≤8/\w≠"mark"/\(w = "some"∨w = "all")/\ps.length≤2
theorem sl1 (d:D) (l:List D):fSl (.tup (d :: l)) (some 1) none=pure (.tup l):=by
 rw [sl_tup]
 have:=z4O (d :: l) 1
 rw [show (some (1:Int))=some ((1:Nat):Int) from rfl,this]
 rfl
theorem slh1 (d:D) (l:List D):fSl (.tup (d :: l)) none (some 1)=pure (.tup [d]):=by
 rw [sl_tup,show (some (1:Int))=some ((1:Nat):Int) from rfl,z3x]
 rfl
theorem slh2 (c d:D) (l:List D):fSl (.tup (c :: d :: l)) none (some 2)=pure (.tup [c,d]):=by
 rw [sl_tup,show (some (2:Int))=some ((2:Nat):Int) from rfl,z3x]
 rfl
theorem z4j {w:Str}{neg:Bool}:fIn neg (.str w) c_RUNS=pure (.bl (decide (w∈(["some","all"]:List Str)) != neg)):=z2N (l:=["some","all"])
theorem z6f {a b:Str}(h:a≠b):decide (a=b)=false:=decide_eq_false h
theorem zd3 {r:Rw}(h:r.ok):z2B [r.d]=pure (.tup (r.ws.map .str)):=by
 show cln (runF 1 z1Y [r.d])=_
 rw [z0t (d:=.tup (r.ws.map .str)),v3]
 ·show z1Y [some r.d]=_
  unfold z1Y
  cases r with
  | mark x =>
   refine (p_if true ?_).trans ?_
   ·unfold Rw.d
    simp only [Bool.bne_false,List.getElem?_cons_zero,q5,Z8,decide_true,e2,eVar,z0C,ix0]
   rw [if_pos rfl,zu8]
   refine z2W _ ?_
   unfold Rw.d
   simp only [List.getElem?_cons_zero,Z8,J9,eVar,z0d,z0e,sl1]
   rfl
  | one w ps =>
   have n1:=z6f h.2.1
   refine (p_if false ?_).trans ?_
   ·unfold Rw.d
    simp only [List.getElem?_cons_zero,q5,Z8,bne_self_eq_false,e2,eVar,z0C,ix0,n1]
   rw [if_neg (by decide),z3b]
   refine z2W _ ?_
   have n2:decide (w∈(["some","all"]:List Str))=false:=decide_eq_false (by simp [h.2.2.1,h.2.2.2.1])
   unfold Rw.d
   simp only [Bool.false_eq_true,List.getElem?_cons_zero,q5,Z8,bne_self_eq_false,e2,eIf,J9,eVar,if_false,ix0,n2,z0d,z0e,z4j,slh1]
   rfl
  | two w v ps =>
   have n1:=z6f h.2.2.1
   refine (p_if false ?_).trans ?_
   ·unfold Rw.d
    simp only [List.getElem?_cons_zero,q5,Z8,bne_self_eq_false,e2,eVar,z0C,ix0,n1]
   rw [if_neg (by decide),z3b]
   refine z2W _ ?_
   have n2:decide (w∈(["some","all"]:List Str))=true:=decide_eq_true (by simp [h.2.2.2.1])
   unfold Rw.d
   simp only [Bool.bne_false,List.getElem?_cons_zero,q5,Z8,e2,eIf,J9,eVar,if_true,ix0,n2,z0d,z0e,z4j,slh2]
   rfl
theorem z8w (l:List D) (n:Nat):fSl (.tup l) (some (n:Int)) none=pure (.tup (l.drop n)):=by rw [sl_tup,z4O]
theorem zi6 {r:Rw}(h:r.ok):z0W [r.d]=pure (.tup (stD r.ps)):=by
 show cln (runF 1 z1V [r.d])=_
 rw [z0t (d:=.tup (stD r.ps)),v3]
 ·show z1V [some r.d]=_
  unfold z1V
  have hw:=zd3 h
  cases r with
  | mark x =>
   refine (p_if true ?_).trans ?_
   ·unfold Rw.d
    simp only [Bool.bne_false,List.getElem?_cons_zero,q5,Z8,decide_true,e2,eVar,z0C,ix0]
   rw [if_pos rfl,zu8]
   refine z2W _ ?_
   simp only [List.length_nil,aNil,Z8,eTup]
   rfl
  | one w ps =>
   have n1:=z6f h.2.1
   refine (p_if false ?_).trans ?_
   ·unfold Rw.d
    simp only [List.getElem?_cons_zero,q5,Z8,bne_self_eq_false,e2,eVar,z0C,ix0,n1]
   rw [if_neg (by decide),z3b]
   refine z2W _ ?_
   simp only [List.getElem?_cons_zero,List.length_cons,List.length_nil,Nat.reduceAdd,z9,aNil,Z8,j3,eFn,J9,eVar,hw,if_true,Y3,z0d,z0e]
   unfold Rw.d
   rw [z8w]
   rfl
  | two w v ps =>
   have n1:=z6f h.2.2.1
   refine (p_if false ?_).trans ?_
   ·unfold Rw.d
    simp only [List.getElem?_cons_zero,q5,Z8,bne_self_eq_false,e2,eVar,z0C,ix0,n1]
   rw [if_neg (by decide),z3b]
   refine z2W _ ?_
   simp only [List.getElem?_cons_zero,List.length_cons,List.length_nil,Nat.reduceAdd,z9,aNil,Z8,j3,eFn,J9,eVar,hw,if_true,Y3,z0d,z0e]
   unfold Rw.d
   rw [z8w]
   rfl
structure SGd (S:List Rw):Prop where
 l1:1≤S.length
 l2:S.length≤15
 ok:∀ (i:Nat) (r:Rw),S[i]?=some r->r.ok/\∀ p∈r.ps,p<i
theorem zB0 (g0:Int) (gr sm:List Int) (s c:Int) (r:AH) (n:Int) (hn:0<n) (hn2:n<1073741824) (hg:gr.length≤63) :
 ∃ gr',gr'.length≤gr.length+1/\Z6 [.ref 2,.int n] (Pool (g0 :: gr) sm s c r)=.ok (.int (g0 % n)) (Pool gr' sm s c r):=by
 unfold Z6 runF z1G Pool z2k
 have hl:gr.length≤sizeLine:=Nat.le_trans hg (by decide)
 by_cases h0:g0 / n=0
 ·refine ⟨gr,by omega,?_⟩
  simp [Z2,bNil,sIf,sAsg,sRet,z1h,e2,j3,z9,aNil,eVar,fIx,seqD,getL,fLen,fGt,fCmp,fI,asB,gIx,gN,fSet,fDiv,fIC,eM1,z38,z3X,updL,fEq,eqD,fMod,atI,ixN,hn,hn2,h0,seqIndex?,hl]
 ·refine ⟨g0 / n :: gr,by simp,?_⟩
  simp [Z2,bNil,sIf,sAsg,sRet,z1h,e2,j3,z9,aNil,eVar,fIx,seqD,getL,fLen,fGt,fCmp,fI,asB,gIx,gN,fSet,fDiv,fIC,eM1,z38,z3X,updL,fEq,eqD,fMod,atI,ixN,hn,hn2,h0]
theorem zx8 (sm:List Int) (s c:Int) (r:AH) (n:Int) (hn:0<n) (hn2:n<1073741824) (hs:0≤s) (hs2:s<2147483647) (hc:0≤c) (hc2:c<1000000) (hm:sm.length≤63) :
 ∃ s' d,Z6 [.ref 2,.int n] (Pool [] sm s c r)=.ok (.int d) (Pool [] sm s' (c+1) r)/\0≤d/\d<n/\0≤s'/\s'<2147483647:=by
 have k1:-18446744073709551616<c+1:=by omega
 have k2:c+1<18446744073709551616:=by omega
 have k3:-18446744073709551616<s:=by omega
 have k4:s<18446744073709551616:=by omega
 have key:∀ x:Int,(∃ y:Int,Z6 [.ref 2,.int n] (Pool [] sm s c r)=.ok (.int ((((s * 48271+x % 2147483629 * ((c+1) * (c+1)+1)+97 * (c+1)) % 2147483647) ^ 5) % 2147483629 / 64 % n)) (Pool [] sm ((s * 48271+x % 2147483629 * ((c+1) * (c+1)+1)+97 * (c+1)) % 2147483647) (c+1) r)) ->
  ∃ s' d,Z6 [.ref 2,.int n] (Pool [] sm s c r)=.ok (.int d) (Pool [] sm s' (c+1) r)/\0≤d/\d<n/\0≤s'/\s'<2147483647:=fun x ⟨_,e⟩ =>
  ⟨_,_,e,Int.emod_nonneg _ (by omega),Int.emod_lt_of_pos _ hn,Int.emod_nonneg _ (by decide),Int.emod_lt_of_pos _ (by decide)⟩
 have p1:∀ z:Int,-18446744073709551616<z % 2147483647:=fun z=>by omega
 have p2:∀ z:Int,z % 2147483647<18446744073709551616:=fun z=>by omega
 have p3:∀ z:Int,-18446744073709551616<z % 2147483629:=fun z=>by omega
 have p4:∀ z:Int,z % 2147483629<18446744073709551616:=fun z=>by omega
 cases sm with
 | nil =>
  refine key 0 ⟨0,?_⟩
  unfold Z6 runF z1G Pool z2k
  simp [Z2,bNil,sIf,sAsg,sRet,z1h,e2,j3,z9,aNil,eVar,fIx,seqD,getL,fLen,fGt,fCmp,fI,asB,gIx,gN,fSet,fDiv,fIC,eM1,z38,z3X,updL,fEq,eqD,fMod,fAdd,fMul,z4m,fPow,atI,ixN,hn,hn2,k1,k2,k3,k4,p1,p2,p3,p4]
 | cons m0 sm =>
  have hl:(0:Int)<(sm.length:Int)+1:=by omega
  have hi:0≤(c+1) % ((sm.length:Int)+1):=Int.emod_nonneg _ (by omega)
  have hi2:(c+1) % ((sm.length:Int)+1)<(sm.length:Int)+1:=Int.emod_lt_of_pos _ hl
  obtain ⟨x,hx⟩:∃ x,(D.int m0 :: sm.map D.int)[((c+1) % ((sm.length:Int)+1)).toNat]?=some (.int x):=by
   have e:(D.int m0 :: sm.map D.int)=(m0 :: sm).map D.int:=rfl
   rw [e,List.getElem?_map,List.getElem?_eq_getElem (by simp;omega)]
   exact ⟨_,rfl⟩
  have hx2:∀ hj,(D.int m0 :: List.map D.int sm)[((c+1) % ((sm.length:Int)+1)).toNat]'hj=D.int x:=fun hj=>Option.some.inj ((List.getElem?_eq_getElem hj).symm.trans hx)
  refine key x ⟨0,?_⟩
  unfold Z6 runF z1G Pool z2k
  simp [Z2,bNil,sIf,sAsg,sRet,z1h,e2,j3,z9,aNil,eVar,fIx,seqD,getL,fLen,fGt,fCmp,fI,asB,gIx,gN,fSet,fDiv,fIC,eM1,z38,z3X,updL,fEq,eqD,fMod,fAdd,fMul,z4m,fPow,atI,ixN,hn,hn2,k1,k2,k3,k4,p1,p2,p3,p4,hi,hi2,hl,hx,hx2]
theorem draw {h:AH}{k n:Int}{r:AH}(p:PS h k r) (hk:k<1000000) (hn:0<n) (hn2:n<1073741824):∃ d h',Z6 [.ref 2,.int n] h=.ok (.int d) h'/\0≤d/\d<n/\PS h' (k+1) r:=by
 obtain ⟨gr,sm,s,c,rfl,h1,h2,h3,h4,h5,h6⟩:=p
 cases gr with
 | nil =>
  obtain ⟨s',d,e,q1,q2,q3,q4⟩:=zx8 sm s c r n hn hn2 h1 h2 h3 (by omega) h6
  exact ⟨d,_,e,q1,q2,[],sm,s',c+1,rfl,q3,q4,by omega,by omega,by simp,h6⟩
 | cons g0 gr =>
  simp at h5
  obtain ⟨gr',l,e⟩:=zB0 g0 gr sm s c r n hn hn2 (by omega)
  exact ⟨_,_,e,Int.emod_nonneg _ (by omega),Int.emod_lt_of_pos _ hn,gr',sm,s,c,rfl,h1,h2,h3,by omega,by omega,h6⟩
theorem z1b {h:AH}{k n:Int}{r:AH}{Q:D->AH->Prop}(p:PS h k r) (hk:k<1000000) (hn:0<n) (hn2:n<1073741824) (z:∀ d h',0≤d->d<n->PS h' (k+1) r->Q (.int d) h'):W (Z6 [.ref 2,.int n]) h Q:=by
 obtain ⟨d,h',e,d0,d1,p'⟩:=draw p hk hn hn2
 exact ⟨_,_,e,z d h' d0 d1 p'⟩
theorem z8M {ns:List Int}(hn:ns.length≤63):W (z21 [.fl (ns.map .int)]) [] (fun d h'=>d=.ref 2/\PS h' 0 []):=by
 refine z1I ?_
 show W (z2c [some (.fl (ns.map .int)),none]) [] _
 unfold z2c z0M
 rw [w_cons];simp only [List.set_cons_succ,List.set_cons_zero,j9,W_pure,z0r,e2,eVar,gN,sAsg]
 have src:∀ (γ:G) (h:AH),γ[0]?=some (some (.fl (ns.map .int)))->z1g (eVar 0) γ h=.ok (.con (ns.map .int)) h:=fun γ h e=>by
  unfold z1g eVar
  rw [e]
  rfl
 refine W.of (z44 (src:=.con (ns.map .int)) (fun d=>match d with | .int t=>decide (1000000000000000000≤t) | _=>false) (fun d=>d) (src _ _ rfl) (fun _=>trivial) (by simp [Src.items];omega) fun d hd=>?_) ?_
 ·obtain ⟨t,ht,rfl⟩:=List.mem_map.mp hd
  refine ⟨[some (.int t)],fun h=>rfl,fun j=>?_,fun _ j=>rfl⟩
  simp only [List.getElem?_cons_zero,bindM,pureM,zm7,z4f,q5]
 rw [show (Src.con (ns.map D.int)).items=ns.map D.int from rfl,z2J]
 rw [w_cons];simp only [List.getElem?_cons_succ,List.getElem?_cons_zero,List.length_nil,j9,W_pure,z9,aNil,z1O,eLst,eVar,sRet]
 refine W.of (z44 (src:=.con (ns.map .int)) (fun d=>match d with | .int t=>decide (t<1000000000000000000) | _=>false) (fun d=>d) (src _ _ rfl) (fun _=>trivial) (by simp [Src.items];omega) fun d hd=>?_) ?_
 ·obtain ⟨t,ht,rfl⟩:=List.mem_map.mp hd
  refine ⟨[some (.int t)],fun h=>rfl,fun j=>?_,fun _ j=>rfl⟩
  simp only [List.getElem?_cons_zero,bindM,pureM,zm7,z2R,q5]
 rw [show (Src.con (ns.map D.int)).items=ns.map D.int from rfl,z2J]
 refine W.of (a:=.ref 2) (h':=Pool (ns.filter fun i=>decide (1000000000000000000≤i)) (ns.filter fun i=>decide (i<1000000000000000000)) 5 0 []) ?_ ?_
 ·unfold newL
  rw [if_pos (by simp;decide)]
  rfl
 ·refine ⟨rfl,_,_,5,0,rfl,by decide,by decide,by decide,by decide,?_,?_⟩
  ·exact Nat.le_trans (List.length_filter_le _ _) hn
  ·exact Nat.le_trans (List.length_filter_le _ _) hn
theorem z84 {h:AH}{k:Int}{r:AH}{i:Nat}{start:Str}{ns:List Str}(p:PS h k r) (hk:k<900000) (lo:low start) (hs:start.length≤4) (e:r[i]?=some (.lst (ns.map .str))) (hn:ns.length≤7) :
 W (runF 9 z1D [.ref 2,.str start,.ref (i+3)]) h (fun d h'=>∃ x j,d=.str x/\PS h' (k+5) (r++j)/\z5G x/\x∉ns):=by
 refine z1I ?_
 show W (z1D [some (.ref 2),some (.str start),some (.ref (i+3)),none,none,none,none,none,none]) h _
 unfold z1D
 rw [show ("abcdefghijklmnopqrstuvwxyz":Str)=abc from rfl]
 rw [w_cons];simp only [List.set_cons_succ,List.set_cons_zero,j9,W_pure,z0r,e2,eVar,gN,sAsg]
 rw [w_cons];simp only [List.getElem?_cons_succ,List.getElem?_cons_zero,List.set_cons_succ,List.set_cons_zero,j9,W_pure,z0r,eVar,gN,sAsg]
 rw [w_cons]
 refine z0L (fun c γ h=>∃ x w,γ=[some (.ref 2),some (.str start),some (.ref (i+3)),some (.str abc),some (.str x),w,none,none,none]/\PS h (k+1+c) r/\low x/\x.length≤4+c) (fun _ _=>False) ?_
 simp only [List.getElem?_cons_zero,List.length_cons,List.length_nil,Nat.reduceAdd,z1F,j9,z1e,W_pure,z9,aNil,z0r,z1O,eFn,eVar,if_true]
 refine z1b p (by omega) (by decide) (by decide) fun d h1 d0 d1 p1=>?_
 refine ⟨d.toNat,by rw [Int.toNat_of_nonneg d0],by omega,⟨start,none,rfl,by simpa using p1,lo,by omega⟩,?_,?_,fun _ _ q=>q.elim⟩
 ·rintro c γ h2 hc ⟨x,w,rfl,p2,lx,hx⟩
  rw [w_cons];simp only [List.getElem?_cons_succ,List.getElem?_cons_zero,List.length_cons,List.length_nil,List.set_cons_succ,List.set_cons_zero,Nat.reduceAdd,z1F,j9,z1e,W_pure,z9,aNil,z0r,e2,eFn,eVar,gN,if_true,sAsg,z4Z]
  refine z1b p2 (by omega) (by decide) (by decide) fun d h1 d0 d1 p1=>?_
  refine z4i (k:=k) (r:=r) d0 d1 (by omega) ?_
  refine ⟨_,_,rfl,p1.up (by omega),z5O lx (by omega) (by omega),by rw [len_app,z3I];omega⟩
 rintro γ h2 ⟨x,w,rfl,p2,lx,hx⟩
 rw [w_cons];simp only [List.getElem?_cons_zero,List.length_cons,List.length_nil,List.set_cons_succ,List.set_cons_zero,Nat.reduceAdd,z1F,j9,z1e,W_pure,z9,aNil,z0r,eFn,eVar,gN,if_true,sAsg]
 refine z1b (p2.up (show _≤k+4 by omega)) (by omega) (by decide) (by decide) fun l h3 l0 l1 p3=>?_
 rw [w_cons];simp only [List.set_cons_succ,List.set_cons_zero,j9,W_pure,z9,aNil,z0r,eLst,gN,sAsg]
 rw [show [D.str "yes",D.str "no",D.str "not",D.str "and",D.str "or",D.str "step",D.str "some",D.str "all",D.str "next",D.str "once",D.str "ever",D.str "until",D.str "unless"]=words.map D.str from rfl]
 refine z2X p3 (by decide) fun h4 p4=>?_
 rw [w_cons]
 refine z0L (fun c γ h=>∃ w w',γ=[some (.ref 2),some (.str start),some (.ref (i+3)),some (.str abc),some (.str x),w,some (.int l),some (.ref (r.length+3)),w']/\PS h (k+5) (r++[.lst (words.map .str)])/\∀ c':Nat,c'<c->cand x l c'∈words∨cand x l c'∈ns) (fun d h=>∃ c:Nat,d=.str (cand x l c)/\cand x l c∉words/\cand x l c∉ns/\PS h (k+5) (r++[.lst (words.map .str)])) ?_
 rw [W_pure]
 refine ⟨26,rfl,by decide,⟨_,_,rfl,p4.up (by omega),fun c' hc=>by omega⟩,?_,?_,?_⟩
 ·rintro c γ h5 hc ⟨w,w',rfl,p5,hb⟩
  rw [w_cons];simp only [List.getElem?_cons_succ,List.getElem?_cons_zero,List.set_cons_succ,List.set_cons_zero,j9,W_pure,z1W,z0r,e2,eVar,gN,sAsg]
  have m1:fMod (.int (l+c)) (.int 26)=pure (.int ((l+c) % 26)):=rfl
  rw [m1,W_pure]
  refine z4i (k:=k) (r:=r) (Int.emod_nonneg _ (by decide)) (Int.emod_lt_of_pos _ (by decide)) (by omega) ?_
  rw [w_cons];simp only [Bool.false_eq_true,List.getElem?_cons_succ,List.getElem?_cons_zero,j9,z1e,W_pure,cAnd,z0r,if_false,sIf,z4Z]
  refine W.of (z9U p5 z3m) ?_
  rw [q5,W_pure]
  by_cases q1:cand x l c∈words
  ·have:(decide (x++{ cps:=#[((l+(c:Int)) % 26).toNat+97] }∈words) != true)=false:=by
    rw [show decide (x++{ cps:=#[((l+(c:Int)) % 26).toNat+97] }∈words)=true from decide_eq_true q1];rfl
   rw [this]
   simp only [Bool.false_eq_true,if_false]
   refine ⟨_,_,rfl,p5,fun c' hc'=>?_⟩
   by_cases e':c'=c
   ·subst e';exact .inl q1
   ·exact hb c' (by omega)
  ·have:(decide (x++{ cps:=#[((l+(c:Int)) % 26).toNat+97] }∈words) != true)=true:=by
    rw [show decide (x++{ cps:=#[((l+(c:Int)) % 26).toNat+97] }∈words)=false from decide_eq_false q1];rfl
   rw [this]
   simp only [if_true]
   refine W.of (z9U p5 (z05 e)) ?_
   by_cases q2:cand x l c∈ns
   ·have:(decide (x++{ cps:=#[((l+(c:Int)) % 26).toNat+97] }∈ns) != true)=false:=by
     rw [show decide (x++{ cps:=#[((l+(c:Int)) % 26).toNat+97] }∈ns)=true from decide_eq_true q2];rfl
    rw [this]
    simp only [Bool.false_eq_true,W_pure,q5,if_false]
    refine ⟨_,_,rfl,p5,fun c' hc'=>?_⟩
    by_cases e':c'=c
    ·subst e';exact .inr q2
    ·exact hb c' (by omega)
   ·have:(decide (x++{ cps:=#[((l+(c:Int)) % 26).toNat+97] }∈ns) != true)=true:=by
     rw [show decide (x++{ cps:=#[((l+(c:Int)) % 26).toNat+97] }∈ns)=false from decide_eq_false q2];rfl
    rw [this]
    simp only [W_pure,q5,if_true]
    rw [w_cons];simp only [List.getElem?_cons_succ,List.getElem?_cons_zero,j9,W_pure,z1O,eVar,sRet]
    exact ⟨c,rfl,q1,q2,p5⟩
 ·rintro γ h5 ⟨w,w',rfl,p5,hb⟩
  exact (zk8 l0 hn hb).elim
 ·rintro d h5 ⟨c,rfl,q1,q2,p5⟩
  refine ⟨cand x l c,[.lst (words.map .str)],rfl,p5,⟨?_,?_,?_,q1⟩,q2⟩
  ·unfold cand;rw [len_app,z3I];omega
  ·unfold cand;rw [len_app,z3I];omega
  ·exact z5O lx (by omega) (by omega)
theorem z8W {h:AH}{k:Int}{r:AH}{i:Nat}{start:Str}{ns:List Str}(p:PS h k r) (c:CL r) (hk:k<900000) (lo:low start) (hs:start.length≤4) (e:r[i]?=some (.lst (ns.map .str))) (hn:ns.length≤7) :
 W (z2b [.ref 2,.str start,.ref (i+3)]) h (fun d h'=>∃ x,d=.str x/\PS h' (k+5) r/\z5G x/\x∉ns) :=
 z5j p c ((z84 p hk lo hs e hn).mono fun d h1 ⟨x,j,e,p1,g,n⟩=>⟨_,j,p1,by subst e;rfl,fun h2 p2=>⟨x,e,p2,g,n⟩⟩)
theorem z7X {h:AH}{k:Int}{r:AH}{n:Nat}(p:PS h k r) (cl:CL r) (hk:k<800000) (hn:n≤8) {Q:D->AH->Prop}(z:∀ ns h',ns.length=n->NS ns->PS h' (k+45) (r++[.lst (ns.map .str)])->Q (.ref (r.length+3)) h') :
 W (z1L [.ref 2,.int n]) h Q:=by
 refine za2 p cl ?_
 refine z1I ?_
 show W (z1N [some (.ref 2),some (.int n),none,none,none,none]) h _
 unfold z1N
 rw [show ("abcdefghijklmnopqrstuvwxyz":Str)=abc from rfl]
 refine z1R (.str abc) _ rfl rfl ?_
 refine z1R (.str "") _ rfl rfl ?_
 rw [w_cons]
 refine z0L (fun c γ h=>∃ x w,γ=[some (.ref 2),some (.int n),some (.str abc),some (.str x),w,none]/\PS h (k+1+c) r/\low x/\x.length≤c) (fun _ _=>False) ?_
 refine zh3 p cl ?_
 simp only [List.getElem?_cons_zero,List.length_cons,List.length_nil,List.set_cons_succ,List.set_cons_zero,Nat.reduceAdd,z1F,j9,z1e,W_pure,z9,aNil,z0r,z1O,e2,eFn,eLst,eVar,if_true]
 refine z2X p (by decide) fun h1 p1=>?_
 refine z1b p1 (by omega) (by decide) (by decide) fun d h2 d0 d1 p2=>?_
 obtain ⟨v,hv,ea⟩:∃ v:Nat,v≤4/\atI [D.int 0,D.int 0,D.int 1,D.int 4] d=some (.int v):=by
  have:d=0∨d=1∨d=2∨d=3:=by omega
  rcases this with rfl | rfl | rfl | rfl
  ·exact ⟨0,by decide,rfl⟩
  ·exact ⟨0,by decide,rfl⟩
  ·exact ⟨1,by decide,rfl⟩
  ·exact ⟨4,by decide,rfl⟩
 refine ze5 p2 z3m ea ?_
 refine ⟨_,_,p2,rfl,fun h2 p2=>⟨v,rfl,by omega,⟨_,none,rfl,by simpa using p2,zj4,by rw [zh2];omega⟩,?_,?_,fun _ _ q=>q.elim⟩⟩
 ·rintro c γ h3 hc ⟨x,w,rfl,p3,lx,hx⟩
  rw [w_cons];simp only [List.getElem?_cons_succ,List.getElem?_cons_zero,List.length_cons,List.length_nil,List.set_cons_succ,List.set_cons_zero,Nat.reduceAdd,z1F,j9,z1e,W_pure,z9,aNil,z0r,e2,eFn,eVar,gN,if_true,sAsg,z4Z]
  refine z1b p3 (by omega) (by decide) (by decide) fun d h1 d0 d1 p1=>?_
  refine z4i (k:=k) (r:=r) d0 d1 (by omega) ?_
  refine ⟨_,_,rfl,p1.up (by omega),z5O lx (by omega) (by omega),by rw [len_app,z3I];omega⟩
 rintro γ h3 ⟨x,w,rfl,p3,lx,hx⟩
 refine z3Z ?_
 simp only [List.set_cons_succ,List.set_cons_zero,j9,W_pure,aNil,eLst]
 refine z2X p3 (by decide) fun h4 p4=>?_
 rw [w_cons]
 refine z0L (fun c γ h=>∃ ns w,γ=[some (.ref 2),some (.int n),some (.str abc),some (.str x),w,some (.ref (r.length+3))]/\PS h (k+5+5 * c) (r++[.lst (ns.map .str)])/\ns.length=c/\NS ns) (fun _ _=>False) ?_
 simp only [List.getElem?_cons_succ,List.getElem?_cons_zero,W_pure,z0r,z1O,eVar]
 refine ⟨n,rfl,by omega,⟨[],_,rfl,p4.up (by omega),rfl,⟨List.nodup_nil,by simp⟩⟩,?_,?_,fun _ _ q=>q.elim⟩
 ·rintro c γ h5 hc ⟨ns,w,rfl,p5,l5,n5⟩
  rw [w_cons];simp only [List.getElem?_cons_succ,List.getElem?_cons_zero,List.length_cons,List.length_nil,List.set_cons_succ,List.set_cons_zero,Nat.reduceAdd,z4A,z1F,j9,z1e,W_pure,z9,aNil,z0r,eFn,eM1,eVar,if_true,z1h,z4Z]
  refine z3B p5 z3m ?_
  refine (z8W p5 (cl.put (z37 ns)) (by omega) lx (by omega) z3m (by omega)).mono fun y h6 ⟨z,ey,p6,gz,nz⟩=>?_
  subst ey
  refine z4p p6 z3m (by simp;omega) fun h7 p7=>?_
  refine ⟨ns++[z],_,rfl,?_,by simp [l5],⟨?_,?_⟩⟩
  ·have:=p7.up (k':=k+5+5 * ((c+1:Nat):Int)) (by omega)
   simpa using this
  ·rw [List.nodup_append]
   refine ⟨n5.1,by simp,fun a ha b hb=>?_⟩
   simp at hb
   subst hb
   exact fun e=>nz (e ▸ ha)
  ·intro y hy
   rcases List.mem_append.mp hy with q | q
   ·exact n5.2 y q
   ·simp at q;subst q;exact gz
 ·rintro γ h5 ⟨ns,w,rfl,p5,l5,n5⟩
  exact z5u _ rfl ⟨k+45,_,r.length,_,rfl,p5.up (by omega),Nat.le_refl _,z3m,z37 ns,fun h2 p2=>z ns h2 l5 n5 p2⟩
theorem zn7 {ns ss:List Str}(hn:NS ns) (hl:ns.length≤8) (s:ss.Sublist ns):MK (z2t ss) :=
 ⟨by rw [z55];exact Nat.le_trans s.length_le hl,fun x hx=>hn.2 _ (s.subset (sortS_mem.mp hx)),z70 (s.nodup hn.1)⟩
theorem z71 {γ:G}{h:AH}{k:Int}{r:AH}{m:Nat}{dn:Int}(p:PS h k r) (hk:k<900000) (hm:m≤40) (e0:γ[0]?=some (some (.ref 2))) (e3:γ[3]?=some (some (.int m))) (e4:γ[4]?=some (some (.int dn))) {Q:D->AH->Prop}(z:∀ l h',l.Pairwise (·<·)->(∀ x∈l,x<m)->PS h' (k+m) r->Q (.tup (stD l)) h') :
 W (clE (j3 z0w (z9 (x8 [some 0,some 4,none] (z0J (eVar 3)) (gN 2) (fun γ=>do let d ← e2 fLt (eFn 2 Z6 (z9 (eVar 0) (z9 (fun _=>pure (.int 6)) aNil))) (eVar 1) γ;asB d) (eVar 2)) aNil)) γ) h Q:=by
 refine zh3 p trivial ?_
 simp only [j9,W_pure,z9,aNil,e2,j3,eFn,eVar]
 refine z6A (r:=r) (l:=[]) (fun c xs k'=>∃ l:List Nat,xs=stD l/\l.Pairwise (·<·)/\(∀ x∈l,x<c)/\l.length≤c/\k'=k+c) ?_
 refine W.of (z3u (n:=m) (by dsimp only [eVar];rw [e3];rfl) (by omega)) ?_
 refine ⟨_,by simpa using p,⟨[],rfl,by simp,by simp,by simp,by simp⟩,fun _ _ _ _=>trivial,?_,?_⟩
 ·rintro c d h6 k6 xs hd ⟨l,rfl,l1,l2,l3,rfl⟩ p6
  obtain ⟨rfl,hc⟩:=z30 hd
  simp only [capG,List.map_cons,List.map_nil,e0,e4,Option.join_some,Option.join_none]
  simp only [List.getElem?_cons_succ,List.getElem?_cons_zero,List.length_cons,List.length_nil,List.set_cons_succ,List.set_cons_zero,Nat.reduceAdd,z1F,j9,z1e,W_pure,eVar,gN,if_true]
  refine z1b p6 (by omega) (by decide) (by decide) fun t h7 t0 t1 p7=>?_
  simp only [W_pure,q5,z2R]
  by_cases q:t<dn
  ·rw [decide_eq_true q]
   simp only [if_true]
   refine ⟨_,p7,by rw [Y2];omega,l++[c],(z4e _ _),?_,?_,by simp;omega,by omega⟩
   ·rw [List.pairwise_append]
    exact ⟨l1,by simp,fun a ha b hb=>by simp at hb;subst hb;exact l2 a ha⟩
   ·intro x hx
    rcases List.mem_append.mp hx with q | q
    ·have:=l2 x q;omega
    ·simp at q;omega
  ·rw [decide_eq_false q]
   simp only [Bool.false_eq_true,if_false]
   exact ⟨_,p7,l,rfl,l1,fun x hx=>by have:=l2 x hx;omega,by omega,by omega⟩
 rintro h6 xs k6 ⟨l,rfl,l1,l2,l3,rfl⟩ p6
 rw [show (Src.con (z0j m)).items.length=m by simp [Src.items,z0j]] at l2 p6
 exact z3j (i:=0) p6 rfl ⟨_,_,p6,zb0 l,fun h7 p7=>z l h7 l1 l2 p7⟩
theorem z6H {γ:G}{h:AH}{k:Int}{r:AH}{i:Nat}{ns:List Str}(p:PS h k r) (hk:k<900000) (e:r[i]?=some (.lst (ns.map .str))) (hn:ns.length≤8) (hg:NS ns) (e0:γ[0]?=some (some (.ref 2))) (e1:γ[1]?=some (some (.ref (i+3)))) {Q:D->AH->Prop}(z:∀ ss h',MK ss->PS h' (k+ns.length) r->Q (.tup (ss.map .str)) h') :
 W (clE (j3 z0w (z9 (j3 z2S (z9 (x8 [some 0,none] (z1g (eVar 1)) (gN 1) (fun γ=>do let d ← e2 (fEq false) (eFn 2 Z6 (z9 (eVar 0) (z9 (fun _=>pure (.int 2)) aNil))) (fun _=>pure (.int 1)) γ;asB d) (eVar 1)) aNil)) aNil)) γ) h Q:=by
 refine zh3 p trivial ?_
 simp only [j9,W_pure,z9,aNil,e2,j3,eFn,eVar]
 refine z6A (r:=r) (l:=[]) (fun c xs k'=>∃ ss:List Str,xs=ss.map .str/\ss.Sublist (ns.take c)/\k'=k+c) ?_
 have sr:z1g (eVar 1) γ h=.ok (.lst (i+3) (ns.map .str)) h:=by
  have g:getL (i+3) h=.ok (ns.map .str) h:=by unfold getL;rw [p.get,e]
  unfold z1g eVar
  rw [e1]
  show (getL (i+3) >>= fun xs=>pure (Src.lst (i+3) xs)) h=_
  rw [M.bind_ok g]
  rfl
 refine W.of sr ?_
 refine ⟨_,by simpa using p,⟨[],rfl,by simp,by simp⟩,fun h' k' xs' ph=>?_,?_,?_⟩
 ·show h'[i+3]?=_
  rw [ph.get,z05 e]
 ·rintro c d h9 k9 xs' hd ⟨ss,rfl,ls,rfl⟩ p9
  have hd':(ns.map D.str)[c]?=some d:=hd
  rw [List.getElem?_map] at hd'
  obtain ⟨y,ey,rfl⟩:=Option.map_eq_some_iff.mp hd'
  obtain ⟨lc,ey'⟩:=List.getElem?_eq_some_iff.mp ey
  have tk:ns.take (c+1)=ns.take c++[y]:=by rw [← ey',List.take_succ_eq_append_getElem lc]
  have l8:ss.length≤8:=Nat.le_trans ls.length_le (by rw [List.length_take];omega)
  simp only [capG,List.map_cons,List.map_nil,e0,e1,Option.join_some,Option.join_none]
  simp only [List.getElem?_cons_succ,List.getElem?_cons_zero,List.length_cons,List.length_nil,List.set_cons_succ,List.set_cons_zero,Nat.reduceAdd,z1F,j9,z1e,W_pure,eVar,gN,if_true]
  refine z1b p9 (by omega) (by decide) (by decide) fun t h10 t0 t1 p10=>?_
  simp only [W_pure,q5,z2E]
  by_cases q:t=1
  ·rw [decide_eq_true q]
   simp only [Bool.not_false,Bool.true_bne,if_true]
   exact ⟨_,p10,by simp;omega,ss++[y],by simp,by rw [tk];exact ls.append (List.Sublist.refl _),by omega⟩
  ·rw [decide_eq_false q]
   simp only [Bool.false_bne,Bool.false_eq_true,if_false]
   exact ⟨_,p10,ss,rfl,by rw [tk];exact ls.trans (List.sublist_append_left _ _),by omega⟩
 rintro h9 xs' k9 ⟨ss,rfl,ls,rfl⟩ p9
 rw [show (Src.lst (i+3) (ns.map D.str)).items.length=ns.length by simp [Src.items]] at ls p9
 rw [List.take_length] at ls
 have l8:ss.length≤8:=Nat.le_trans ls.length_le hn
 refine W_of (zj7 (ss:=ss) (h:=h9) (by rw [p9.get,show r.length+([]:AH).length=r.length+0 from rfl,at_E];rfl) (by omega)) ?_
 have p11:=p9.app [.lst ((z2t ss).map .str)]
 rw [List.append_assoc] at p11
 rw [show h9.length=r.length+1+3 by rw [p9.len];simp]
 exact z3j (i:=1) p11 rfl ⟨_,_,p11,by simp only [z01];exact z37 _,fun h12 p12=>z (z2t ss) h12 (zn7 hg hn ls) p12⟩
theorem z8r {h:AH}{k:Int}{r:AH}{i most:Nat}{ns:List Str}(p:PS h k r) (hk:k<700000) (hm0:1≤most) (hm:most≤40) (e:r[i]?=some (.lst (ns.map .str))) (hn:ns.length≤8) (hg:NS ns) {Q:D->AH->Prop}(z:∀ st mk h',MA st mk->st.length≤most->PS h' (k+2000) r->Q (maD st mk) h') :
 W (z17 [.ref 2,.ref (i+3),.int most]) h Q:=by
 refine z5j p trivial ?_
 refine z1I ?_
 show W (z18 [some (.ref 2),some (.ref (i+3)),some (.int most),none,none,none,none,none]) h _
 unfold z18
 refine z2j (fun d h1=>∃ m:Nat,1≤m/\m≤most/\d=.int m/\PS h1 (k+1) r) ?_ ?_
 ·simp only [List.getElem?_cons_succ,List.getElem?_cons_zero,List.length_cons,List.length_nil,Nat.reduceAdd,z1F,j9,z1e,W_pure,z9,aNil,e2,eFn,eVar,if_true]
  refine z1b p (by omega) (by omega) (by omega) fun d h1 d0 d1 p1=>?_
  rw [z1W,W_pure]
  exact ⟨(1+d).toNat,by omega,by omega,by rw [Int.toNat_of_nonneg (by omega)],p1⟩
 rintro _ h1 ⟨m,m1,m2,rfl,p1⟩
 refine z2j (fun d h1=>∃ t:Int,d=.int t/\PS h1 (k+2) r) ?_ ?_
 ·simp only [List.getElem?_cons_zero,List.length_cons,List.length_nil,List.set_cons_succ,List.set_cons_zero,Nat.reduceAdd,z1F,j9,z1e,W_pure,z9,aNil,e2,eFn,eVar,if_true]
  refine z1b p1 (by omega) (by decide) (by decide) fun d h1 d0 d1 p1=>?_
  rw [z1W,W_pure]
  exact ⟨_,rfl,p1.up (by omega)⟩
 rintro _ h3 ⟨dn,rfl,p3⟩
 refine z2j (fun d h1=>d=.ref (r.length+3)/\PS h1 (k+2) (r++[.lst (stsD [])])) ?_ ?_
 ·simp only [j9,W_pure,aNil,eLst]
  exact z2X p3 (by decide) fun h4 p4=>⟨rfl,p4⟩
 rintro _ h4 ⟨rfl,p4⟩
 refine z2j (fun d h1=>d=.ref (r.length+1+3)/\PS h1 (k+2) (r++[.lst (stsD []),.lst (mksD [])])) ?_ ?_
 ·simp only [j9,W_pure,aNil,eLst]
  exact z2X p4 (by decide) fun h5 p5=>⟨by simp,by rw [List.append_assoc] at p5;exact p5⟩
 rintro _ h5 ⟨rfl,p5⟩
 refine z6V (fun γ h=>∃ st mk w,γ=[some (.ref 2),some (.ref (i+3)),some (.int most),some (.int m),some (.int dn),some (.ref (r.length+0+3)),some (.ref (r.length+1+3)),w]/\PS h (k+2000) (r++[.lst (stsD st),.lst (mksD mk)])/\st.length=m/\mk.length=m/\AM st mk m) ?_ ?_
 ·refine z0L (fun c γ h=>∃ st mk w,γ=[some (.ref 2),some (.ref (i+3)),some (.int most),some (.int m),some (.int dn),some (.ref (r.length+0+3)),some (.ref (r.length+1+3)),w]/\PS h (k+2+48 * c) (r++[.lst (stsD st),.lst (mksD mk)])/\st.length=c/\mk.length=c/\AM st mk m) (fun _ _=>False) ?_
  simp only [List.getElem?_cons_succ,List.getElem?_cons_zero,List.set_cons_succ,List.set_cons_zero,W_pure,z9,aNil,e2,eFn,eVar]
  refine ⟨m,rfl,by omega,⟨[],[],_,rfl,p5.up (by omega),rfl,rfl,by simp,by simp,by simp⟩,?_,?_,fun _ _ q=>q.elim⟩
  ·rintro c γ h6 hc ⟨st,mk,w,rfl,p6,l1,l2,am⟩
   refine z7F (i:=0) rfl p6 rfl (by simp [stsD];omega) (fun v k'=>∃ l:List Nat,v=.tup (stD l)/\l.Pairwise (·<·)/\(∀ x∈l,x<m)/\k'=k+2+48 * c+m) ?_ ?_
   ·exact z71 p6 (by omega) (by omega) rfl rfl rfl fun l h' q1 q2 p7=>⟨_,p7,l,rfl,q1,q2,rfl⟩
   rintro _ _ h7 ⟨l,rfl,q1,q2,rfl⟩ p7
   rw [List.set_cons_zero,show stsD st++[D.tup (stD l)]=stsD (st++[l]) by simp [stsD]] at p7
   refine z7F (i:=1) rfl p7 rfl (by simp [mksD];omega) (fun v k'=>∃ ss:List Str,v=.tup (ss.map .str)/\MK ss/\k'=k+2+48 * c+m+ns.length) ?_ ?_
   ·exact z6H p7 (by omega) (z05 e) hn hg rfl rfl fun ss h' q1 p8=>⟨_,p8,ss,rfl,q1,rfl⟩
   rintro _ _ h8 ⟨ss,rfl,q3,rfl⟩ p8
   rw [List.set_cons_succ,List.set_cons_zero,show mksD mk++[D.tup (ss.map .str)]=mksD (mk++[ss]) by simp [mksD]] at p8
   refine z1a ⟨_,_,_,rfl,p8.up (by omega),by simp [l1],by simp [l2],?_,?_,?_⟩
   ·intro l hl
    rcases List.mem_append.mp hl with q | q
    ·exact am.1 l q
    ·simp at q;subst q;exact q1
   ·intro l hl
    rcases List.mem_append.mp hl with q | q
    ·exact am.2.1 l q
    ·simp at q;subst q;exact q2
   ·intro l hl
    rcases List.mem_append.mp hl with q | q
    ·exact am.2.2 l q
    ·simp at q;subst q;exact q3
  ·rintro γ h6 ⟨st,mk,w,rfl,p6,l1,l2,am⟩
   exact ⟨st,mk,w,rfl,p6.up (by omega),l1,l2,am⟩
 ·rintro γ h6 ⟨st,mk,w,rfl,p6,l1,l2,am⟩
  refine z7l (fun d h1=>d=maD st mk/\h1=h6) ?_ ?_
  ·simp only [List.getElem?_cons_succ,List.getElem?_cons_zero,List.length_cons,List.length_nil,Nat.reduceAdd,z1F,j9,z1e,W_pure,z9,aNil,j3,eTup,eVar]
   refine z3j (i:=0) p6 rfl ?_
   refine z3j (i:=1) p6 rfl ?_
   rw [if_pos (by decide)]
   exact ⟨rfl,rfl⟩
  rintro _ _ ⟨rfl,rfl⟩
  refine ⟨_,_,p6,?_,fun h2 q2=>z st mk h2 ⟨by omega,by omega,by omega,am.1,by rw [l1];exact am.2.1,am.2.2⟩ (by omega) q2⟩
  unfold maD stsD mksD
  simp only [z01,x6,Bool.and_true,Bool.and_eq_true]
  exact ⟨z14 fun a=>zb0 a,z14 fun a=>by simp only [z01];exact z37 _⟩
theorem z3t {i n:Nat}(h2:i<n):J8 [.int i,.int 0,.int n]=pure (.bl true):=by
 have h1:(0:Int)≤i:=by omega
 have h3:(i:Int)<n:=by omega
 show cln (runF 3 z0Z [.int i,.int 0,.int n])=_
 rw [z0t (d:=.bl true),v3]
 show z0Z [some (.int i),some (.int 0),some (.int n)]=_
 unfold z0Z
 refine z2W _ ?_
 simp only [List.getElem?_cons_succ,List.getElem?_cons_zero,q5,Z8,decide_eq_true h1,decide_eq_true h3,e3,eAnd,eIsi,eNot,eVar,if_true,z3e,z57,z2R]
 rfl
theorem z4o {xs:List D}{m n:Nat}(h0:m≤xs.length) (h1:xs.length≤n):Y5 [.tup xs,.int m,.int n]=pure (.bl true):=by
 have h2:(xs.length:Int)≤n:=by omega
 have h3:(m:Int)≤xs.length:=by omega
 show cln (runF 3 z19 [.tup xs,.int m,.int n])=_
 rw [z0t (d:=.bl true),v3]
 show z19 [some (.tup xs),some (.int m),some (.int n)]=_
 unfold z19
 refine z2W _ ?_
 simp only [List.getElem?_cons_succ,List.getElem?_cons_zero,z9,aNil,q5,Z8,decide_eq_true h2,decide_eq_true h3,e3,eAnd,j3,eIsi,eVar,if_true,z2s,z57,Y3]
 rfl
theorem z9e {mr:G->M (List D)}{ma:G->M D}{γ:G}{ds:List D}{t:Int}{d:D}(e:mr γ=pure ds) (ea:ma γ=pure (.int t)) (hd:atI ds t=some d) (hl:ds.length≤1000) (c:z01 0 d=true):clE (e2 fIx (eLst mr) ma) γ=pure d:=by
 refine z9v c fun h=>?_
 have e1:eLst mr γ h=.ok (.ref h.length) (h++[.lst ds]):=by
  have e0:mr γ h=.ok ds h:=by rw [e];rfl
  unfold eLst
  exact (M.bind_ok e0).trans (z2r (by omega))
 exact ⟨d,_,e2_h e1 (by rw [ea];rfl) (ix_h z0c hd),rfl,_,rfl⟩
theorem Rw.refs (r:Rw) {n:Nat}:z01 n r.d=true:=by
 cases r with
 | mark x=>rfl
 | one w ps=>simp only [Rw.d,z01,x6,Bool.true_and];exact z2h ps
 | two w v ps=>simp only [Rw.d,z01,x6,Bool.true_and];exact z2h ps
theorem zA3 {h:AH}{k:Int}{r:AH}{i a:Nat}{ns:List Str}(p:PS h k r) (c:CL r) (hk:k<900000) (e:r[i]?=some (.lst (ns.map .str))) (hn:NS ns) (hl:ns.length≤8) (ha:a≤100) :
 W (z2A [.ref 2,.ref (i+3),.int (a:Nat)]) h (fun d h'=>∃ w:Rw,d=w.d/\w.ok/\(∀ q∈w.ps,q<a)/\PS h' (k+3) r):=by
 refine z5j p c ?_
 refine z1I ?_
 show W (z2C [some (.ref 2),some (.ref (i+3)),some (.int (a:Nat)),none,none,none,none,none]) h _
 unfold z2C
 refine z2j (fun d h1=>∃ t:Nat,d=.int t/\t<20/\PS h1 (k+1) r) ?_ ?_
 ·simp only [List.getElem?_cons_zero,List.length_cons,List.length_nil,Nat.reduceAdd,z1F,j9,z1e,W_pure,z9,aNil,eFn,eVar,if_true]
  refine z1b p (by omega) (by decide) (by decide) fun d h2 d0 d1 p2=>?_
  obtain ⟨d,rfl⟩:=Int.eq_ofNat_of_zero_le d0
  exact ⟨d,rfl,by omega,p2⟩
 rintro _ h1 ⟨t,rfl,ht,p1⟩
 have fin:∀ (w:Rw) (h':AH) (j:AH),w.ok->(∀ q∈w.ps,q<a)->PS h' (k+3) (r++j)->runW (fun d h1=>∃ k' j,PS h1 k' (r++j)/\z01 3 d=true/\∀ h2,PS h2 k' r->∃ w:Rw,d=w.d/\w.ok/\(∀ q∈w.ps,q<a)/\PS h2 (k+3) r) (.rt w.d) h':=fun w h' j ok lt p'=>⟨k+3,j,p',w.refs,fun h2 p2=>⟨w,rfl,ok,lt,p2⟩⟩
 show W (Z2 _ _ [some (.ref 2),some (.ref (i+3)),some (.int (a:Nat)),some (.int (t:Nat)),none,none,none,none]) h1 _
 by_cases leaf:a=0∨t<4
 ·refine q_if true ?_ ?_
  ·rcases leaf with rfl | lt
   ·simp only [Bool.bne_false,List.getElem?_cons_succ,List.getElem?_cons_zero,q5,Z8,cOr,e2,eVar,z2E,z2R]
    rfl
   ·by_cases a0:a=0
    ·subst a0
     simp only [Bool.bne_false,List.getElem?_cons_succ,List.getElem?_cons_zero,q5,Z8,cOr,e2,eVar,z2E,z2R]
     rfl
    ·have n1:decide ((a:Int)=0)=false:=decide_eq_false (by omega)
     have n2:decide ((t:Int)<4)=true:=decide_eq_true (by omega)
     simp only [Bool.false_eq_true,List.getElem?_cons_succ,List.getElem?_cons_zero,q5,Z8,bne_self_eq_false,cOr,e2,eVar,z2E,if_false,z2R,n1,n2]
  rw [if_pos rfl]
  refine z0T ?_
  refine z1R (.int (t % 6:Nat)) [some (.ref 2),some (.ref (i+3)),some (.int (a:Nat)),some (.int (t % 6:Nat)),none,none,none,none] (by simp only [List.getElem?_cons_succ,List.getElem?_cons_zero,Z8,e2,eVar];rfl) rfl ?_
  refine z0T ?_
  refine q_if (decide (1<t % 6)) ?_ ?_
  ·simp only [List.getElem?_cons_succ,List.getElem?_cons_zero,q5,Z8,e2,eVar,z4S]
   congr 1
   rw [Bool.eq_iff_iff,decide_eq_true_eq,decide_eq_true_eq]
   omega
  by_cases mk:1<t % 6
  ·rw [decide_eq_true mk,if_pos rfl]
   refine z0T ?_
   refine z7l (fun d h'=>∃ x j,d=(Rw.mark x).d/\z5G x/\PS h' (k+3) (r++j)) ?_ ?_
   ·simp only [List.getElem?_cons_succ,List.getElem?_cons_zero,List.length_cons,List.length_nil,Nat.reduceAdd,z1F,j9,z1e,W_pure,z9,aNil,e2,j3,eFn,eLst,eTup,eVar,if_true]
    refine z2X p1 (by simp) fun h2 p2=>?_
    show W (getL (i+3) >>= fun x=>getL (r.length+3) >>= fun y=>newL (x++y)) h2 _
    rw [j9]
    refine z3B p2 (z05 e) ?_
    rw [j9]
    refine z3B p2 z3m ?_
    refine z2X p2 (by simp;omega) fun h3 p3=>?_
    refine z9W p3 (z05 (z05 e)) ?_
    rw [List.length_map]
    rw [show fAdd (.int (ns.length:Int)) (.int 1)=pure (.int ((ns.length:Int)+1)) from rfl,W_pure]
    have ln:((ns.length:Nat):Int)≤8:=by omega
    refine z1b (n:=(ns.length:Int)+1) p3 (by omega) (by omega) (by omega) fun d h4 d0 d1 p4=>?_
    obtain ⟨d,rfl⟩:=Int.eq_ofNat_of_zero_le d0
    obtain ⟨x,ex,gx⟩:∃ x,(ns.map D.str++[D.str "unborne"])[d]?=some (.str x)/\z5G x:=by
     by_cases hd:d<ns.length
     ·exact ⟨ns[d],by rw [List.getElem?_append_left (by rw [List.length_map];exact hd),List.getElem?_map,List.getElem?_eq_getElem hd];rfl,hn.2 _ (List.getElem_mem hd)⟩
     ·exact ⟨"unborne",by rw [List.getElem?_append_right (by rw [List.length_map];omega),List.length_map,show d - ns.length=0 by omega];rfl,z4Y⟩
    refine ze5 p4 z3m (z03 ex) ?_
    rw [if_pos (by decide)]
    rw [List.append_assoc] at p4
    exact ⟨x,_,rfl,gx,p4.up (by omega)⟩
   ·rintro _ h2 ⟨x,j,rfl,gx,p2⟩
    exact fin (.mark x) h2 j gx.2.1 (by simp [Rw.ps]) p2
  ·rw [decide_eq_false mk,if_neg (by decide)]
   refine z0m ?_
   have:t % 6=0∨t % 6=1:=by omega
   obtain ⟨w,ew,ok⟩:∃ w:Str,atI [D.str "yes",D.str "no"] ((t % 6:Nat):Int)=some (.str w)/\(Rw.one w []).ok:=by
    rcases this with q | q
    ·rw [q];exact ⟨"yes",rfl,by decide +kernel,by decide +kernel,by decide +kernel,by decide +kernel,by decide⟩
    ·rw [q];exact ⟨"no",rfl,by decide +kernel,by decide +kernel,by decide +kernel,by decide +kernel,by decide⟩
   refine z0T ?_
   refine z5u (Rw.one w []).d ?_ (fin (.one w []) h1 [] ok (by simp [Rw.ps]) (by rw [List.append_nil];exact p1.up (by omega)))
   have e1:=z9e (mr:=z9 (fun _=>pure (.str "yes")) (z9 (fun _=>pure (.str "no")) aNil)) (ma:=eVar 3) (γ:=[some (.ref 2),some (.ref (i+3)),some (.int (a:Nat)),some (.int (t % 6:Nat)),none,none,none,none]) rfl rfl ew (by decide) rfl
   unfold eTup
   rw [z9,e1]
   rfl
 ·have a1:a≠0:=fun q=>leaf (.inl q)
  have t4:4≤t:=Nat.le_of_not_lt fun q=>leaf (.inr q)
  refine q_if false ?_ ?_
  ·have n1:decide ((a:Int)=0)=false:=decide_eq_false (by omega)
   have n2:decide ((t:Int)<4)=false:=decide_eq_false (by omega)
   simp only [Bool.false_eq_true,List.getElem?_cons_succ,List.getElem?_cons_zero,q5,Z8,bne_self_eq_false,cOr,e2,eVar,z2E,if_false,z2R,n1,n2]
  rw [if_neg (by decide)]
  refine z0m ?_
  refine z2j (fun d h'=>∃ o:Nat,d=.int o/\o<a/\PS h' (k+2) r) ?_ ?_
  ·have mn:fMin [.int (a:Nat),.int 3]=pure (.int ((min a 3:Nat):Int)):=by
    show pure (D.int (if (3:Int)<a then 3 else a))=_
    congr 2
    split<;>omega
   simp only [List.getElem?_cons_succ,List.getElem?_cons_zero,List.length_cons,List.length_nil,Nat.reduceAdd,z1F,j9,z1e,W_pure,z9,aNil,e2,j3,eFn,eVar,if_true,mn,z1J]
   refine z1b p1 (by omega) (by omega) (by omega) fun d h2 d0 d1 p2=>?_
   obtain ⟨d,rfl⟩:=Int.eq_ofNat_of_zero_le d0
   rw [show fSub (.int ((a:Int) - 1)) (.int (d:Int))=pure (.int ((a:Int) - 1 - d)) from rfl,W_pure]
   refine ⟨a - 1 - d,?_,by omega,p2.up (by omega)⟩
   congr 1
   omega
  rintro _ h2 ⟨o,rfl,ho,p2⟩
  refine z2j (fun d h'=>∃ o:Nat,d=.int o/\o<a/\PS h' (k+3) r) ?_ ?_
  ·simp only [List.getElem?_cons_succ,List.getElem?_cons_zero,List.length_cons,List.length_nil,List.set_cons_succ,List.set_cons_zero,Nat.reduceAdd,z1F,j9,z1e,W_pure,z9,aNil,eFn,eVar,if_true]
   refine z1b p2 (by omega) (by omega) (by omega) fun d h2 d0 d1 p2=>?_
   obtain ⟨d,rfl⟩:=Int.eq_ofNat_of_zero_le d0
   exact ⟨d,rfl,by omega,p2.up (by omega)⟩
  rintro _ h3 ⟨u,rfl,hu,p3⟩
  have p3':PS h3 (k+3) (r++[]):=by rw [List.append_nil];exact p3
  show W (Z2 _ _ [some (.ref 2),some (.ref (i+3)),some (.int (a:Nat)),some (.int (t:Nat)),some (.int (o:Nat)),some (.int (u:Nat)),none,none]) h3 _
  refine q_if (decide (t<8)) ?_ ?_
  ·simp only [List.getElem?_cons_succ,List.getElem?_cons_zero,q5,Z8,e2,eVar,z2R]
   congr 1
   rw [Bool.eq_iff_iff,decide_eq_true_eq,decide_eq_true_eq]
   omega
  by_cases t8:t<8
  ·rw [decide_eq_true t8,if_pos rfl]
   refine z0T ?_
   obtain ⟨w,ew,ok,lt⟩:∃ w:Rw,atI [(Rw.one "not" [o]).d,(Rw.one "and" [o,u]).d,(Rw.one "or" [u,o]).d,(Rw.one "step" [o]).d] (((t:Nat):Int) - 4)=some w.d/\w.ok/\∀ q∈w.ps,q<a:=by
    have:t=4∨t=5∨t=6∨t=7:=by omega
    rcases this with rfl | rfl | rfl | rfl
    ·exact ⟨.one "not" [o],rfl,⟨by decide +kernel,by decide +kernel,by decide +kernel,by decide +kernel,by simp⟩,by simp [Rw.ps];omega⟩
    ·exact ⟨.one "and" [o,u],rfl,⟨by decide +kernel,by decide +kernel,by decide +kernel,by decide +kernel,by simp⟩,by simp [Rw.ps];omega⟩
    ·exact ⟨.one "or" [u,o],rfl,⟨by decide +kernel,by decide +kernel,by decide +kernel,by decide +kernel,by simp⟩,by simp [Rw.ps];omega⟩
    ·exact ⟨.one "step" [o],rfl,⟨by decide +kernel,by decide +kernel,by decide +kernel,by decide +kernel,by simp⟩,by simp [Rw.ps];omega⟩
   refine z5u w.d (z9e (ds:=[(Rw.one "not" [o]).d,(Rw.one "and" [o,u]).d,(Rw.one "or" [u,o]).d,(Rw.one "step" [o]).d]) ?_ (t:=((t:Nat):Int) - 4) (by simp only [List.getElem?_cons_succ,List.getElem?_cons_zero,Z8,e2,eVar,z1J]) ew (by simp) w.refs) (fin w h3 [] ok lt p3')
   simp only [List.getElem?_cons_succ,List.getElem?_cons_zero,List.length_cons,List.length_nil,Nat.reduceAdd,z9,aNil,Z8,eTup,eVar,if_true,z4a,z4n]
   rfl
  rw [decide_eq_false t8,if_neg (by decide)]
  refine z0m ?_
  obtain ⟨w,ew,hw⟩:∃ w:Str,atI [D.str "some",D.str "all"] ((t % 2:Nat):Int)=some (.str w)/\(w = "some"∨w = "all"):=by
   have:t % 2=0∨t % 2=1:=by omega
   rcases this with q | q
   ·rw [q];exact ⟨_,rfl,.inl rfl⟩
   ·rw [q];exact ⟨_,rfl,.inr rfl⟩
  have wl:w.length≤8:=by rcases hw with rfl | rfl<;>decide +kernel
  have wm:w≠"mark":=by rcases hw with rfl | rfl<;>decide +kernel
  refine z1R (.str w) [some (.ref 2),some (.ref (i+3)),some (.int (a:Nat)),some (.int (t:Nat)),some (.int (o:Nat)),some (.int (u:Nat)),some (.str w),none] (z9e (ds:=[.str "some",.str "all"]) (by simp only [z9,aNil,Z8]) (t:=((t % 2:Nat):Int)) (by simp only [List.getElem?_cons_succ,List.getElem?_cons_zero,Z8,e2,eVar];rfl) ew (by simp) rfl) rfl ?_
  obtain ⟨v,ev,vl⟩:∃ v:Str,atI [D.str "next",D.str "once",D.str "ever",D.str "until",D.str "unless",D.str "until"] (((t / 2:Nat):Int) - 4)=some (.str v)/\v.length≤8:=by
   have:t / 2=4∨t / 2=5∨t / 2=6∨t / 2=7∨t / 2=8∨t / 2=9:=by omega
   rcases this with q | q | q | q | q | q
   ·rw [q];exact ⟨_,rfl,by decide +kernel⟩
   ·rw [q];exact ⟨_,rfl,by decide +kernel⟩
   ·rw [q];exact ⟨_,rfl,by decide +kernel⟩
   ·rw [q];exact ⟨_,rfl,by decide +kernel⟩
   ·rw [q];exact ⟨_,rfl,by decide +kernel⟩
   ·rw [q];exact ⟨_,rfl,by decide +kernel⟩
  refine z1R (.str v) [some (.ref 2),some (.ref (i+3)),some (.int (a:Nat)),some (.int (t:Nat)),some (.int (o:Nat)),some (.int (u:Nat)),some (.str w),some (.str v)] (z9e (ds:=[.str "next",.str "once",.str "ever",.str "until",.str "unless",.str "until"]) (by simp only [z9,aNil,Z8]) (t:=((t / 2:Nat):Int) - 4) (by simp only [List.getElem?_cons_succ,List.getElem?_cons_zero,Z8,e2,eVar];rfl) ev (by simp) rfl) rfl ?_
  refine q_if (decide (v = "until"∨v = "unless")) ?_ ?_
  ·simp only [Bool.bne_false,List.getElem?_cons_succ,List.getElem?_cons_zero,q5,Z8,cOr,e2,eVar,z0C]
   by_cases v1:v = "until"
   ·simp [v1]
   ·simp [v1]
  by_cases two:v = "until"∨v = "unless"
  ·rw [decide_eq_true two,if_pos rfl]
   refine z0T ?_
   exact z5u (Rw.two w v [u,o]).d (by simp only [List.getElem?_cons_succ,List.getElem?_cons_zero,List.length_cons,List.length_nil,Nat.reduceAdd,z9,aNil,Z8,eTup,eVar];rfl) (fin (.two w v [u,o]) h3 [] ⟨wl,vl,wm,hw,by simp⟩ (by simp [Rw.ps];omega) p3')
  ·rw [decide_eq_false two,if_neg (by decide)]
   refine z0m ?_
   exact z5u (Rw.two w v [o]).d (by simp only [List.getElem?_cons_succ,List.getElem?_cons_zero,List.length_cons,List.length_nil,Nat.reduceAdd,z9,aNil,Z8,eTup,eVar,if_true,z4n];rfl) (fin (.two w v [o]) h3 [] ⟨wl,vl,wm,hw,by simp⟩ (by simp [Rw.ps];omega) p3')
theorem z6h (S:List Rw) {n:Nat}:x6 n (S.map Rw.d)=true:=z14 fun r=>r.refs
theorem z90 {h:AH}{k:Int}{r:AH}{i:Nat}{ns:List Str}{most:Nat}(p:PS h k r) (c:CL r) (hk:k<800000) (e:r[i]?=some (.lst (ns.map .str))) (hn:NS ns) (hl:ns.length≤8) (h1:1≤most) (h2:most≤14) {Q:D->AH->Prop}(z:∀ S h',SGd S->S.length≤most->PS h' (k+50) r->Q (.tup (S.map Rw.d)) h') :
 W (z1o [.ref 2,.ref (i+3),.int (most:Nat)]) h Q:=by
 refine z5j p c ?_
 refine z1I ?_
 show W (z1s [some (.ref 2),some (.ref (i+3)),some (.int (most:Nat)),none,none]) h _
 unfold z1s
 refine z2j (fun d h1=>d=.ref (r.length+0+3)/\PS h1 k (r++[.lst []])) ?_ ?_
 ·simp only [j9,W_pure,aNil,eLst]
  refine z2X p (by simp) fun h1 p1=>⟨rfl,p1⟩
 rintro _ h3 ⟨rfl,p3⟩
 rw [w_cons]
 refine z0L (fun n γ h=>∃ (S:List Rw) (w:Option D),γ=[some (.ref 2),some (.ref (i+3)),some (.int (most:Nat)),some (.ref (r.length+0+3)),w]/\PS h (k+1+3 * n) (r++[.lst (S.map Rw.d)])/\S.length=n/\∀ (i:Nat) (r:Rw),S[i]?=some r->r.ok/\∀ p∈r.ps,p<i) (fun _ _=>False) ?_
 simp only [List.getElem?_cons_succ,List.getElem?_cons_zero,List.length_cons,List.length_nil,List.set_cons_succ,List.set_cons_zero,Nat.reduceAdd,z1F,j9,z1e,W_pure,z9,aNil,z0r,z1O,e2,eFn,eVar,if_true]
 refine z1b p3 (by omega) (by omega) (by omega) fun d h4 d0 d1 p4=>?_
 obtain ⟨d,rfl⟩:=Int.eq_ofNat_of_zero_le d0
 rw [show fAdd (.int 1) (.int (d:Int))=pure (.int ((1+d:Nat):Int)) by show pure (D.int (1+(d:Int)))=_;congr 2,W_pure]
 refine ⟨1+d,rfl,by omega,⟨[],none,rfl,p4.up (by omega),rfl,fun i r e=>by simp at e⟩,?_,?_,fun _ _ q=>q.elim⟩
 ·rintro n _ h5 hn5 ⟨S,w,rfl,p5,l5,o5⟩
  refine z7F (r:=r) (l:=[.lst (S.map Rw.d)]) (a:=3) (i:=0) (xs:=S.map Rw.d) rfl p5 rfl (by rw [List.length_map];omega) (fun v k'=>∃ w:Rw,v=w.d/\w.ok/\(∀ q∈w.ps,q<n)/\k'=k+1+3 * n+3) ?_ ?_
  ·simp only [List.getElem?_cons_succ,List.getElem?_cons_zero,List.length_cons,List.length_nil,List.set_cons_succ,List.set_cons_zero,Nat.reduceAdd,z1F,j9,z1e,W_pure,z9,aNil,eFn,eVar,if_true]
   exact (zA3 p5 (c.put (z6h S)) (by omega) (z05 e) hn hl (by omega)).mono fun d h6 ⟨w,e6,ok,lt,p6⟩=>⟨_,p6,w,e6,ok,lt,rfl⟩
  ·rintro _ _ h6 ⟨w,rfl,ok,lt,rfl⟩ p6
   refine z1a ⟨S++[w],_,rfl,?_,by simp [l5],?_⟩
   ·rw [List.map_append]
    exact p6.up (by omega)
   ·intro i rr e'
    by_cases hi:i<S.length
    ·rw [List.getElem?_append_left hi] at e'
     exact o5 i rr e'
    ·rw [List.getElem?_append_right (by omega)] at e'
     have:i - S.length=0:=by
      have:=(List.getElem?_eq_some_iff.mp e').1
      simp at this
      omega
     rw [this] at e'
     have e':=Option.some.inj e'
     subst e'
     exact ⟨ok,fun q hq=>by have:=lt q hq;omega⟩
 ·rintro _ h5 ⟨S,w,rfl,p5,l5,o5⟩
  refine z7l (fun d h'=>d=.tup (S.map Rw.d)/\PS h' (k+50) (r++[.lst (S.map Rw.d)])) ?_ ?_
  ·simp only [List.getElem?_cons_succ,List.getElem?_cons_zero,j9,W_pure,z9,aNil,j3,eVar]
   exact z3j (r:=r) (l:=[.lst (S.map Rw.d)]) (i:=0) p5 rfl ⟨rfl,p5.up (by omega)⟩
  ·rintro _ h6 ⟨rfl,p6⟩
   exact ⟨_,_,p6,by simp only [z01];exact z6h S,fun h7 p7=>z S h7 ⟨by omega,by omega,o5⟩ (by omega) p7⟩
theorem zb2 {p r:List Nat}{n:Nat}(hr:0<r.length):J4 [rnD p r,.int n]=pure (.int (sAt p r n)):=by
 unfold J4
 rw [z0t,v3]
 show z1i [some (rnD p r),some (.int n),none,none]=_
 unfold z1i rnD sAt
 simp only [List.getElem?_cons_succ,List.getElem?_cons_zero,List.length_cons,List.length_nil,List.set_cons_succ,List.set_cons_zero,Nat.reduceAdd,z9,aNil,q5,Z2,bNil,Z8,e2,j3,eVar,J6,gN,z1k,gT,if_true,Y3,z2R,sAsg,sIf,sRet,Y2]
 by_cases h:n<p.length
 ·rw [decide_eq_true (show (n:Int)<p.length by omega),if_pos h]
  simp only [Z8,if_true,ix_tup (z5J h)]
 ·rw [decide_eq_false (show ¬ (n:Int)<p.length by omega),if_neg h]
  simp only [Bool.false_eq_true,List.getElem?_cons_succ,List.getElem?_cons_zero,z7s hr h,Z8,if_false,ix_tup (z5J (Nat.mod_lt _ hr)),Y3,z9K (show (0:Int)<r.length by omega),Y2,z1J]
theorem za9 {p r:List Nat}{n:Nat}(hr:0<r.length):z0a [rnD p r,.int n]=pure (.int (sAt p r n)):=by
 unfold z0a
 rw [z0t,v3]
 show z32 [some (rnD p r),some (.int n)]=_
 unfold z32 rnD sAt
 simp only [List.getElem?_cons_succ,List.getElem?_cons_zero,z9,aNil,q5,Z2,bNil,Z8,e2,j3,eVar,ix0,Y3,z2R,sIf,sRet,Y2]
 by_cases h:n<p.length
 ·rw [decide_eq_true (show (n:Int)<p.length by omega),if_pos h]
  simp only [Z8,if_true,ix_tup (z5J h)]
 ·rw [decide_eq_false (show ¬ (n:Int)<p.length by omega),if_neg h]
  simp only [Bool.false_eq_true,List.getElem?_cons_succ,List.getElem?_cons_zero,z7s hr h,Z8,if_false,ix0,ix1,ix_tup (z5J (Nat.mod_lt _ hr)),Y3,z9K (show (0:Int)<r.length by omega),Y2,z1J]
theorem z9u {b c:Bool}:Y4 [.bl b,.bl c]=pure (.bl (b == c)):=by
 unfold Y4
 rw [z0t,v3]
 cases b<;>cases c<;>rfl
def mD (S:D) (mk:List (List Str)):D:=.tup [S,.tup (mksD mk)]
def wD (w:Str×Str):D:=.tup [.str w.1,.str w.2]
theorem z9r {S:D}{mk:List (List Str)}{i:Nat}{n:Str}(hi:i<mk.length):z2o [mD S mk,.int (i:Nat),.str n]=pure (.bl (bear n mk i)):=by
 unfold z2o
 rw [z0t,v3]
 show z4B [some (mD S mk),some (.int (i:Nat)),some (.str n)]=_
 unfold z4B mD bear
 by_cases h:n = ""
 ·subst h;simp only [Bool.bne_false,List.getElem?_cons_succ,List.getElem?_cons_zero,q5,Z2,bNil,Z8,decide_true,e2,eOr,eVar,z0C,if_true,ix1,sRet];rfl
 ·simp only [Bool.bne_false,Bool.false_eq_true,List.getElem?_cons_succ,List.getElem?_cons_zero,q5,Z2,bNil,Z8,bne_self_eq_false,decide_eq_false h,e2,eOr,eVar,z0C,if_false,z2N,ix1,ix_tup (ze8 hi),sRet]
  simp
def z1d (mk:List (List Str)) (l:List Nat) (n:Str):Bool:=l.any fun i=>bear n mk i
theorem z4r {S:D}{mk:List (List Str)}{l:List Nat}{n:Str}(hl:l.length≤1000000) (hi:∀ x∈l,x<mk.length):z0V [mD S mk,.tup (stD l),.str n]=pure (.bl (z1d mk l n)):=by
 unfold z0V
 rw [z0t,v3]
 show z2y [some (mD S mk),some (.tup (stD l)),some (.str n)]=_
 unfold z2y
 have e:=z2Q (γ:=[some (mD S mk),some (.tup (stD l)),some (.str n)]) (cap:=[some 0,some 2,none]) (mi:=Y6 (eVar 1)) (g:=gN 2) (k:=fun _=>pure true) (me:=eFn 3 z2o (z9 (eVar 0) (z9 (eVar 2) (z9 (eVar 1) aNil)))) (items:=stD l) true (fun _=>true) (fun d=>bear n mk (numD d)) rfl (by rw [Y2];exact hl) fun d hd=>?_
 ·rw [z2W _ e,filter_tt,if_pos rfl,ze7 _ (fun x=>bear n mk x)]
  rfl
 ·obtain ⟨x,hx,rfl⟩:=z59 hd
  refine ⟨[some (mD S mk),some (.str n),some (.int (x:Nat))],?_,rfl,fun _=>?_⟩
  ·simp only [List.getElem?_cons_succ,List.getElem?_cons_zero,List.map_cons,List.map_nil,List.set_cons_succ,List.set_cons_zero,Option.join_some,capG,gN]
  ·simp only [List.getElem?_cons_succ,List.getElem?_cons_zero,List.length_cons,List.length_nil,Nat.reduceAdd,z9,aNil,z9r (hi x hx),Z8,eFn,eVar,if_true];rfl
def z20 (mk:List (List Str)) (ri:List Nat) (ws:List (Str×Str)):Bool:=ws.all fun w=>z1d mk ri w.2 || !(z1d mk ri w.1)
def wOf:D->Str×Str
 | .tup [.str a,.str b]=>(a,b)
 | _=>("","")
theorem zk1 {S:D}{mk:List (List Str)}{pa ri:List Nat}{ws:List (Str×Str)}(hl:ri.length≤1000000) (hw:ws.length≤1000) (hi:∀ x∈ri,x<mk.length):z13 [mD S mk,rnD pa ri,.tup (ws.map wD)]=pure (.bl (z20 mk ri ws)):=by
 unfold z13
 rw [z0t,v3]
 show z2T [some (mD S mk),some (rnD pa ri),some (.tup (ws.map wD)),none]=_
 unfold z2T
 have e:=z2Q (γ:=[some (mD S mk),some (rnD pa ri),some (.tup (ws.map wD)),some (.tup (stD ri))]) (cap:=[some 0,some 3,none,none]) (mi:=Y6 (eVar 2)) (g:=gT 2 (J6 (gN 2) (J6 (gN 3) z1k))) (k:=fun _=>pure true)
  (me:=eOr (eFn 3 z0V (z9 (eVar 0) (z9 (eVar 1) (z9 (eVar 3) aNil)))) (eNot (eFn 3 z0V (z9 (eVar 0) (z9 (eVar 1) (z9 (eVar 2) aNil)))))) (items:=ws.map wD) false (fun _=>true) (fun d=>z1d mk ri (wOf d).2 || !(z1d mk ri (wOf d).1)) rfl (by rw [List.length_map];omega) fun d hd=>?_
 ·rw [z87 (.tup (stD ri)) [some (mD S mk),some (rnD pa ri),some (.tup (ws.map wD)),some (.tup (stD ri))] (by unfold rnD;simp only [List.getElem?_cons_succ,List.getElem?_cons_zero,Z8,e2,eVar,ix1]) rfl,z2W _ e,filter_tt,if_neg (by decide),List.all_map]
  rfl
 ·obtain ⟨⟨a,b⟩,hx,rfl⟩:=List.mem_map.mp hd
  refine ⟨[some (mD S mk),some (.tup (stD ri)),some (.str a),some (.str b)],?_,rfl,fun _=>?_⟩
  ·unfold wD;simp only [List.getElem?_cons_succ,List.getElem?_cons_zero,List.length_cons,List.length_nil,List.map_cons,List.map_nil,List.set_cons_succ,List.set_cons_zero,Nat.reduceAdd,Option.join_some,Z8,capG,J6,gN,z1k,gT,if_true]
  ·by_cases q:z1d mk ri b=true
   ·rw [zA4 (by simp only [List.getElem?_cons_succ,List.getElem?_cons_zero,List.length_cons,List.length_nil,Nat.reduceAdd,z9,aNil,Z8,z4r hl hi,eFn,eVar,if_true,q])]
    show _=pure (D.bl (z1d mk ri b || !(z1d mk ri a)))
    rw [q];rfl
   ·rw [zz9 (by simp only [List.getElem?_cons_succ,List.getElem?_cons_zero,List.length_cons,List.length_nil,Nat.reduceAdd,z9,aNil,Z8,z4r hl hi,eFn,eVar,eq_false_of_ne_true q,if_true])]
    simp only [List.getElem?_cons_succ,List.getElem?_cons_zero,List.length_cons,List.length_nil,Nat.reduceAdd,z9,aNil,q5,Z8,z4r hl hi,eFn,eNot,eVar,if_true]
    show _=pure (D.bl (z1d mk ri b || !(z1d mk ri a)))
    rw [eq_false_of_ne_true q];rfl
theorem ze3 {S:D}{mk:List (List Str)}{ri:List Nat}{ws:List (Str×Str)}(hl:ri.length≤1000) (hw:ws.length≤1000) (hi:∀ x∈ri,x<mk.length) (hb:∀ w∈ws,w.2≠""):v5 [mD S mk,.tup (stD ri),.tup (ws.map wD)]=pure (.bl (z20 mk ri ws)):=by
 unfold v5
 refine z5m rfl fun h=>?_
 refine z1I ?_
 show W (z0O [some (mD S mk),some (.tup (stD ri)),some (.tup (ws.map wD)),none,none,none]) h _
 unfold z0O z0M
 rw [w_cons]
 refine z4g (fun c γ h'=>∃ x y z,γ=[some (mD S mk),some (.tup (stD ri)),some (.tup (ws.map wD)),x,y,z]/\(∃ j,h'=h++j)/\∀ i w,i<c->ws[i]?=some w->(z1d mk ri w.2 || !(z1d mk ri w.1))=true) (fun d h'=>d=.bl false/\(∃ j,h'=h++j)/\z20 mk ri ws=false) ?_
 refine W_eq (v:=Src.con (ws.map wD)) rfl ?_
 refine ⟨⟨none,none,none,rfl,⟨[],by simp⟩,fun i w hi=>by omega⟩,fun _ _ _ _=>trivial,?_,?_,?_⟩
 ·rintro c d γ h' hd ⟨x,y,z,rfl,⟨j,rfl⟩,no⟩
  have hd':(ws.map wD)[c]?=some d:=hd
  rw [List.getElem?_map] at hd'
  obtain ⟨⟨a,b⟩,ew,rfl⟩:=Option.map_eq_some_iff.mp hd'
  have bne:=hb _ (List.mem_of_getElem? ew)
  refine W_eq (v:=[some (mD S mk),some (.tup (stD ri)),some (.tup (ws.map wD)),some (.str a),some (.str b),z]) (by unfold wD;simp only [List.length_cons,List.length_nil,List.set_cons_succ,List.set_cons_zero,Nat.reduceAdd,Z8,J6,gN,z1k,gT,if_true]) ?_
  have pk:∀ (n:Str) (cap0:Nat) (γ:G) (kk:G->M Bool) (f:Nat->Bool),γ[cap0]?=some (some (.str n))->γ[0]?=some (some (mD S mk))->γ[1]?=some (some (.tup (stD ri)))->(∀ x∈ri,kk [some (.str n),some (mD S mk),some (.int (x:Nat))]=pure (f x)) ->
   x8 [some cap0,some 0,none] (Y6 (eVar 1)) (gN 2) kk (eVar 2) γ=newL (stD (ri.filter f)):=fun n cap0 γ kk f e0 e1 e2 hk=>by
   rw [z2n (items:=stD ri) (fun d=>f (numD d)) (fun d=>d) (by unfold Y6 eVar;rw [e2];rfl) (by rw [Y2];omega) fun d hd=>?_]
   ·rw [zd5 ri f]
   ·obtain ⟨x,hx,rfl⟩:=z59 hd
    exact ⟨[some (.str n),some (mD S mk),some (.int (x:Nat))],by simp only [List.map_cons,List.map_nil,List.set_cons_succ,List.set_cons_zero,Option.join_some,capG,e0,e1,gN],hk x hx,fun _=>rfl⟩
  refine z3Z ?_
  rw [pk a 3 _ _ (fun x=>bear a mk x) rfl rfl rfl (fun x hx=>by
   unfold bear mD
   by_cases q:a = ""
   ·subst q;simp only [Bool.bne_false,List.getElem?_cons_succ,List.getElem?_cons_zero,q5,Z8,cOr,decide_true,e2,eVar,z0C,if_true,ix1];rfl
   ·simp only [Bool.bne_false,Bool.false_eq_true,List.getElem?_cons_succ,List.getElem?_cons_zero,q5,Z8,bne_self_eq_false,cOr,decide_eq_false q,e2,eVar,z0C,if_false,z2N,ix1,ix_tup (ze8 (hi x hx))];simp)]
  refine zs8 (by rw [Y2];exact Nat.le_trans (List.length_filter_le _ _) (by omega)) ?_
  show W (Z2 _ _ [some (mD S mk),some (.tup (stD ri)),some (.tup (ws.map wD)),some (.str a),some (.str b),some (.ref (h++j).length)]) _ _
  have lr:∀ (h2:AH) (n:Nat) (xs:List D),h2[n]?=some (.lst xs)->fLen [.ref n] h2=.ok (.int xs.length) h2:=fun h2 n xs e=>by unfold fLen seqD getL;simp [e]
  have gt:(h++j++[O.lst (stD (ri.filter fun x=>bear a mk x))])[(h++j).length]?=some (.lst (stD (ri.filter fun x=>bear a mk x))):=by simp
  have hh:∃ j',h++j++[O.lst (stD (ri.filter fun x=>bear a mk x))]=h++j':=⟨j++[O.lst (stD (ri.filter fun x=>bear a mk x))],by rw [List.append_assoc]⟩
  generalize h++j++[O.lst (stD (ri.filter fun x=>bear a mk x))]=h2 at gt hh
  have ba:z1d mk ri a=true↔0<(ri.filter fun x=>bear a mk x).length:=by
   unfold z1d
   rw [List.any_eq_true,List.length_pos_iff_exists_mem]
   simp [List.mem_filter]
  have bb:z1d mk ri b=false↔(stD (ri.filter fun x=>decide (b∈(mk[x]?).getD []))).isEmpty=true:=by
   unfold z1d
   rw [List.isEmpty_iff,List.any_eq_false]
   unfold stD bear
   rw [List.map_eq_nil_iff,List.filter_eq_nil_iff]
   simp [bne]
  have c1:(do let d ← e2 fGt (j3 fLen (z9 (eVar 5) aNil)) (fun _=>pure (.int 0)) [some (mD S mk),some (.tup (stD ri)),some (.tup (ws.map wD)),some (.str a),some (.str b),some (.ref (h++j).length)];asB d) h2=.ok (z1d mk ri a) h2:=by
   simp only [List.getElem?_cons_succ,List.getElem?_cons_zero,z9,aNil,Z8,e2,j3,eVar]
   rw [M.bind_ok (M.bind_ok (lr h2 _ _ gt) ▸ rfl:((fLen [D.ref (h++j).length] >>= fun d=>fGt d (.int 0)) h2)=.ok (.bl (decide ((0:Int)<(stD (ri.filter fun x=>bear a mk x)).length))) h2)]
   show Res.ok (decide _) h2=_
   congr 1
   rw [Bool.eq_iff_iff,decide_eq_true_eq,ba,Y2]
   omega
  have c3:=pk b 4 [some (mD S mk),some (.tup (stD ri)),some (.tup (ws.map wD)),some (.str a),some (.str b),some (.ref (h++j).length)] (fun γ=>do let d ← e2 (fIn false) (eVar 0) (e2 fIx (e2 fIx (eVar 1) (fun _=>pure (.int 1))) (eVar 2)) γ;asB d) (fun x=>decide (b∈(mk[x]?).getD [])) rfl rfl rfl (fun x hx=>by
   unfold mD
   simp only [Bool.bne_false,List.getElem?_cons_succ,List.getElem?_cons_zero,q5,Z8,e2,eVar,z2N,ix1,ix_tup (ze8 (hi x hx))])
  have c2:=zj5 (neg:=false) (h:=h2) (j:=[]) (by rw [List.append_nil];exact congrFun c3 h2) (by rw [Y2];exact Nat.le_trans (List.length_filter_le _ _) (by omega))
  rw [Bool.bne_false] at c2
  refine zd6 (z1d mk ri a && !(z1d mk ri b)) ?_ ?_
  ·by_cases q:z1d mk ri a=true
   ·rw [q] at c1 ⊢
    rw [zj8 c1,c2,Bool.true_and]
    congr 1
    rw [Bool.eq_iff_iff,← bb]
    cases z1d mk ri b<;>simp
   ·rw [eq_false_of_ne_true q] at c1 ⊢
    rw [zc9 c1,Bool.false_and]
  ·by_cases q:(z1d mk ri a && !(z1d mk ri b))=true
   ·rw [q]
    refine z0T (z5u (.bl false) rfl ⟨rfl,hh,?_⟩)
    unfold z20
    rw [List.all_eq_false]
    refine ⟨(a,b),List.mem_of_getElem? ew,?_⟩
    rw [Bool.and_eq_true] at q
    simp only [Bool.not_eq_true']  at q
    simp [q.1,q.2]
   ·rw [eq_false_of_ne_true q]
    refine z0m (z1a ⟨_,_,_,rfl,hh,fun i w hi' he=>?_⟩)
    by_cases ic:i=c
    ·subst ic
     rw [ew] at he
     cases he
     cases h1:z1d mk ri a<;>cases h2:z1d mk ri b<;>simp_all
    ·exact no i w (by omega) he
 ·rintro γ h' ⟨x,y,z,rfl,hj,all⟩
  refine z5u (.bl true) rfl ⟨?_,hj⟩
  congr 1
  unfold z20
  symm
  rw [List.all_eq_true]
  intro w hw
  obtain ⟨i,hi⟩:=List.getElem?_of_mem hw
  have:=(List.getElem?_eq_some_iff.mp hi).1
  exact all i w (by simpa [Src.items] using this) hi
 ·rintro d h' ⟨rfl,hj,e⟩
  exact ⟨by rw [e],hj⟩
theorem z5L {l:List Str}{t:Nat}(h:t<l.length):atI (l.map D.str) (t:Int)=some (.str l[t]):=z03 (by rw [List.getElem?_map,List.getElem?_eq_getElem h];rfl)
theorem z94 {h:AH}{k:Int}{r:AH}{i:Nat}{ns:List Str}{Q:D->AH->Prop}(p:PS h k r) (cl:CL r) (hk:k<500000) (e:r[i]?=some (.lst (ns.map .str))) (hn:ns.length≤8) (hg:NS ns) {mo:Nat}(hmo:mo≤4)
 (z:∀ (wl:List (Str×Str)) h',wl.length≤4->(∀ w∈wl,w.2≠"")->PS h' (k+20) r->Q (.tup (wl.map wD)) h'):W (z1t [.ref 2,.ref (i+3),.int (mo:Nat)]) h Q:=by
 refine z5j p cl ?_
 refine z1I ?_
 show W (z1m [some (.ref 2),some (.ref (i+3)),some (.int (mo:Nat)),none,none,none,none]) h _
 unfold z1m
 have p0:PS h k (r++[]):=by simpa using p
 let so:List Str:="" :: "" :: "unborne" :: ns
 refine z3Z ?_
 simp only [List.getElem?_cons_succ,List.getElem?_cons_zero,List.set_cons_succ,List.set_cons_zero,j9,W_pure,z9,aNil,e2,eLst,eVar]
 refine z7u p0 (by decide) fun h1 p1=>?_
 refine zt2 (i:=0) p1 rfl (z05 e) (by simp;omega) fun h2 p2=>?_
 rw [show [D.str "",D.str "",D.str "unborne"]++ns.map D.str=so.map D.str from rfl] at p2
 refine z3Z ?_
 simp only [List.set_cons_succ,List.set_cons_zero,j9,W_pure,aNil,eLst]
 refine z7u p2 (by decide) fun h3 p3=>?_
 rw [w_cons]
 refine z0L (fun c γ h=>∃ (wl:List (Str×Str)) (x y:Option D),γ=[some (.ref 2),some (.ref (i+3)),some (.int (mo:Nat)),some (.ref (r.length+1+3)),some (.ref (r.length+2+3)),x,y]/\PS h (k+1+2 * c) (r++[.lst [.str "",.str "",.str "unborne"],.lst (so.map D.str),.lst (wl.map wD)])/\wl.length=c/\∀ w∈wl,w.2≠"") (fun _ _=>False) ?_
 simp only [List.getElem?_cons_succ,List.getElem?_cons_zero,List.length_cons,List.length_nil,Nat.reduceAdd,z1F,j9,z1e,W_pure,z9,aNil,z1W,z0r,z1O,e2,eFn,eVar,if_true]
 refine z1b p3 (by omega) (by omega) (by omega) fun d h4 d0 d1 p4=>?_
 obtain ⟨d,rfl⟩:=Int.eq_ofNat_of_zero_le d0
 have sl:so.length=ns.length+3:=rfl
 refine ⟨d,rfl,by omega,⟨[],_,_,rfl,by simpa using p4,rfl,by simp⟩,?_,?_,fun _ _ q=>q.elim⟩
 ·rintro c γ h5 hc ⟨wl,x,y,rfl,p5,l5,n5⟩
  refine z3Z ?_
  simp only [List.getElem?_cons_succ,List.getElem?_cons_zero,List.length_cons,List.length_nil,List.set_cons_succ,List.set_cons_zero,Nat.reduceAdd,z1F,j9,z1e,W_pure,z9,aNil,e2,j3,eFn,eVar,if_true]
  refine z9X (i:=1) p5 rfl ?_
  rw [List.length_map]
  refine z1b p5 (by omega) (by omega) (by omega) fun t h6 t0 t1 p6=>?_
  obtain ⟨t,rfl⟩:=Int.eq_ofNat_of_zero_le t0
  refine zr1 (i:=1) p6 rfl (z5L (by omega)) ?_
  refine z7I ?_
  simp only [List.getElem?_cons_succ,List.getElem?_cons_zero,List.length_cons,List.length_nil,Nat.reduceAdd,z4A,z1F,j9,z1e,W_pure,z9,aNil,e2,j3,eFn,eM1,eTup,eVar,if_true,z4Z]
  refine z5R (i:=2) p6 rfl ?_
  refine z9X (i:=1) p6 rfl ?_
  rw [List.length_map,z1J,W_pure]
  refine z1b p6 (by omega) (by omega) (by omega) fun u h7 u0 u1 p7=>?_
  obtain ⟨u,rfl⟩:=Int.eq_ofNat_of_zero_le u0
  rw [z1W,W_pure,show (2:Int)+(u:Int)=((u+2:Nat):Int) by omega]
  refine zr1 (i:=1) p7 rfl (z5L (by omega)) ?_
  simp only [if_true,z4a]
  refine z7C (i:=2) p7 rfl (by simp;omega) fun h8 p8=>?_
  refine ⟨wl++[(so[t],so[u+2])],_,_,rfl,?_,by simp [l5],?_⟩
  ·have:=p8.up (k':=k+1+2 * ((c+1:Nat):Int)) (by omega)
   simpa [wD] using this
  ·intro w hw
   rcases List.mem_append.mp hw with q | q
   ·exact n5 w q
   ·simp at q
    subst q
    show so[u+2]≠""
    have e':so[u+2]=(Str.ofString "unborne" :: ns)[u]'(by simp;omega):=rfl
    rw [e']
    have m:=List.getElem_mem (l:=Str.ofString "unborne" :: ns) (n:=u) (by simp;omega)
    rcases List.mem_cons.mp m with q | q
    ·rw [q];decide
    ·have:=(hg.2 _ q).1
     intro z
     rw [z] at this
     exact absurd this (by decide)
 ·rintro γ h5 ⟨wl,x,y,rfl,p5,l5,n5⟩
  refine z9H ?_
  simp only [List.getElem?_cons_succ,List.getElem?_cons_zero,j9,W_pure,z9,aNil,j3,eVar]
  refine z3j (i:=2) p5 rfl ⟨k+20,_,p5.up (by omega),?_,fun h2 p2=>z wl h2 (by omega) n5 p2⟩
  simp only [z01]
  exact z14 fun w=>rfl
theorem zy5 (i:Int):z1C [.int i]=pure (.bl true):=by
 unfold z1C
 rw [z0t,v3]
 show z24 [some (.int i)]=_
 unfold z24
 simp only [List.getElem?_cons_zero,q5,Z2,bNil,Z8,eAnd,eIsi,eNot,eVar,z3e,sRet]
 rfl
theorem z6t {i a b:Int}(h1:a≤i) (h2:i≤b):J1 [.int i,.int a,.int b]=pure (.bl true):=by
 unfold J1
 rw [z0t,v3]
 show z0P [some (.int i),some (.int a),some (.int b)]=_
 unfold z0P
 simp only [List.getElem?_cons_succ,List.getElem?_cons_zero,List.length_cons,List.length_nil,Nat.reduceAdd,z9,aNil,q5,Z2,bNil,Z8,decide_eq_true h1,decide_eq_true h2,e3,eAnd,eFn,eVar,if_true,z57,zy5,sRet]
theorem z4b (xs:List D):z0h [.tup xs]=pure (.bl true):=by
 unfold z0h
 rw [z0t,v3]
 show z2z [some (.tup xs)]=_
 unfold z2z
 simp only [List.getElem?_cons_zero,Z2,bNil,Z8,eIsi,eVar,z2s,sRet]
 rfl
theorem z7v {xs:List D}{a b:Int}(h1:a≤xs.length) (h2:(xs.length:Int)≤b):z04 [.tup xs,.int a,.int b]=pure (.bl true):=by
 unfold z04
 rw [z0t,v3]
 show z1l [some (.tup xs),some (.int a),some (.int b)]=_
 unfold z1l
 simp only [List.getElem?_cons_succ,List.getElem?_cons_zero,List.length_cons,List.length_nil,Nat.reduceAdd,z9,aNil,q5,Z2,bNil,Z8,decide_eq_true h1,decide_eq_true h2,e3,eAnd,j3,eFn,eVar,if_true,z4b,z57,Y3,sRet]
theorem zs3 (x y:D):z04 [.tup [x,y],.int 2,.int 2]=pure (.bl true):=z7v (xs:=[x,y]) (Int.le_refl _) (Int.le_refl _)
theorem zt6 (a b c d e:D):z04 [.tup [a,b,c,d,e],.int 5,.int 5]=pure (.bl true):=z7v (xs:=[a,b,c,d,e]) (Int.le_refl _) (Int.le_refl _)
theorem zi2 (b:Bool):z1X [.bl b]=pure (.bl true):=by
 unfold z1X
 rw [z0t,v3]
 show z2D [some (.bl b)]=_
 unfold z2D
 cases b
 ·simp only [Bool.false_eq_true,List.getElem?_cons_zero,q5,Z2,bNil,Z8,e2,eOr,eVar,if_false,sRet,show fIs false (.bl false) (.bl false)=pure (.bl true) from rfl,show fIs false (.bl false) (.bl true)=pure (.bl false) from rfl]
 ·simp only [List.getElem?_cons_zero,q5,Z2,bNil,Z8,e2,eOr,eVar,if_true,sRet,show fIs false (.bl true) (.bl true)=pure (.bl true) from rfl]
structure Rn (n:Nat) (p r:List Nat):Prop where
 ne:0<r.length
 l:p.length+r.length≤20
 lt:∀ x∈p++r,x<n
theorem z3G {me:G->M D}{γ:G}{xs:List D}(e:me γ=pure (.tup xs)):Y6 me γ=pure (.con xs):=funext fun h=>z6a (by rw [e];rfl)
theorem z5f {ma mb:G->M D}{γ:G}{p r:List Nat}(h:p.length+r.length≤1000) (ea:ma γ=pure (.tup (stD p))) (eb:mb γ=pure (.tup (stD r))):e2 fAdd ma mb γ=pure (.tup (stD (p++r))):=by
 simp only [Z8,bindB,Z2,bNil,sAsg,z1h,sRet,sIf,FT.e2,FT.e3,eVar,gN,gT,J6,z1k,eFn,z9,aNil,j3,eTup,eNeg,q5,z0b,cVal,cNot,cAnd,cOr,eAnd,eOr,eNot,eIf,z0e,z0d,J9,eIsi,z4J,z3e,z4v,z2s,capG,List.map_cons,List.map_nil,Option.join_some,Option.join_none,List.getElem?_cons_succ,List.getElem?_cons_zero,List.set_cons_succ,List.set_cons_zero,List.length_cons,List.length_nil,Nat.reduceAdd,Nat.reduceLeDiff,if_true,if_false,Bool.not_true,Bool.not_false,ite_true,ite_false,reduceIte,Bool.false_eq_true,reduceCtorEq,z1W,z1J,z4S,z4f,z2R,z57,z2E,z4a,z4n,Y3,ix0,ix1,ix2,ixl2,ixl3,z0C,Bool.true_bne,Bool.false_bne,Bool.bne_false,Bool.bne_true,bne_self_eq_false,decide_true,decide_false,ea,eb,z6y (x:=stD p) (y:=stD r) (by rw [Y2,Y2];omega),zv7]
theorem zl7 {n:Nat}{p r:List Nat}(g:Rn n p r) (hn:n≤40):z2w [rnD p r]=pure (.bl true):=by
 have ne:=g.ne
 have l:=g.l
 unfold z2w
 rw [z0t,v3]
 show z31 [some (rnD p r),none,none]=_
 unfold z31
 have e:=z2Q (γ:=[some (rnD p r),some (.tup (stD p)),some (.tup (stD r))]) (cap:=[none]) (mi:=Y6 (e2 fAdd (eVar 1) (eVar 2))) (g:=gN 0) (k:=fun _=>pure true) (me:=eFn 3 J1 (z9 (eVar 0) (z9 (fun _=>pure (.int 0)) (z9 (e2 fSub (fun _=>pure c_MOST) (fun _=>pure (.int 1))) aNil)))) (items:=stD (p++r)) false (fun _=>true) (fun _=>true) (z3G (z5f (by omega) rfl rfl)) (by rw [Y2,List.length_append];omega) fun d hd=>?_
 ·refine (p_if false ?_).trans ?_
  ·simp only [Bool.not_true,List.getElem?_cons_zero,List.length_cons,List.length_nil,Nat.reduceAdd,z9,aNil,Z8,cNot,cVal,eFn,eVar,if_true,rnD,z0b,zs3]
  rw [if_neg (by decide),z3b]
  rw [z87 (rnD p r) [some (rnD p r),some (.tup (stD p)),some (.tup (stD r))] rfl rfl]
  refine (p_if false ?_).trans ?_
  ·simp only [Bool.false_eq_true,Bool.not_true,List.getElem?_cons_succ,List.getElem?_cons_zero,List.length_cons,List.length_nil,Nat.reduceAdd,z9,aNil,Z8,cNot,cOr,cVal,eFn,eVar,if_false,if_true,z4b,z0b]
  rw [if_neg (by decide),z3b]
  refine (p_if false ?_).trans ?_
  ·simp only [Bool.false_eq_true,List.getElem?_cons_succ,List.getElem?_cons_zero,z9,aNil,z1W,q5,Z8,bne_self_eq_false,cOr,decide_eq_false (show ¬(400:Int)<(p.length:Int)+r.length by omega),decide_eq_false (show ¬(r.length:Int)=0 by omega),e2,j3,eVar,z2E,z4S,if_false,Y3,show c_NUMBERS=D.int 400 from rfl,Y2]
  rw [if_neg (by decide),z3b,z2W _ e,filter_tt,if_neg (by decide)]
  show pure (Out.rt (D.bl ((stD (p++r)).all fun _=>true)))=_;rw [List.all_eq_true.mpr fun _ _=>rfl]
 ·obtain ⟨x,hx,rfl⟩:=z59 hd
  have:=g.lt x hx
  refine ⟨[some (.int (x:Nat))],by simp only [List.map_cons,List.map_nil,List.set_cons_zero,capG,gN],rfl,fun _=>?_⟩
  simp only [List.getElem?_cons_zero,List.length_cons,List.length_nil,Nat.reduceAdd,z9,aNil,Z8,e2,eFn,eVar,z6t (i:=(x:Int)) (a:=0) (b:=40 - 1) (by omega) (by omega),if_true,show c_MOST=D.int 40 from rfl,z1J]
theorem zw6 {l:List Nat}{n:Nat}(h0:0<l.length) (h:∀ x∈l,x<n):∃ m:Int,z6R [.tup (stD l)]=pure (.int m)/\m<n:=by
 have l0:0<(zN l).length:=by unfold zN;simpa using h0
 refine ⟨maxI (zN l),?_,?_⟩
 ·unfold z6R
  dsimp only
  rw [z6E]
  dsimp only
  rw [if_pos l0]
 ·obtain ⟨x,hx,e⟩:=List.mem_map.mp (show maxI (zN l)∈l.map fun (x:Nat)=>(x:Int) from z9A l0)
  have:=h x hx
  omega
theorem z0x {ma:G->M D}{mr:G->M (List D)}{γ:G}{x:D}{xs:List D}(e:ma γ=pure x) (e':mr γ=pure xs):z9 ma mr γ=pure (x :: xs):=by
 unfold z9;rw [e,Z8,e',Z8]
def prD (st:List (List Nat)):D->Bool
 | .tup [.int x,.int y]=>decide (y.toNat∈nx st x.toNat)
 | _=>false
theorem zo1 {st:List (List Nat)}{mk:List (List Str)}{p r:List Nat}(g:Rn st.length p r) (q:MA st mk):∃ b,z1x [maD st mk,rnD p r]=pure (.bl b):=by
 have ne:=g.ne
 have l:=g.l
 have l2:=q.l2
 obtain ⟨m,em,hm⟩:=zw6 (l:=p++r) (n:=st.length) (by rw [List.length_append];omega) g.lt
 have e:∃ b,clE (j3 (fAll false) (z9 (x8 [some 0,none,none] (iZip (eVar 4) (e2 fAdd (J9 (eVar 4) (z0e (fun _=>pure (.int 1))) z0d) (J9 (eVar 3) z0d (z0e (fun _=>pure (.int 1)))))) (gT 2 (J6 (gN 1) (J6 (gN 2) z1k))) (fun _=>pure true) (e2 (fIn false) (eVar 2) (e2 fIx (e2 fIx (eVar 0) (fun _=>pure (.int 0))) (eVar 1)))) aNil)) [some (maD st mk),some (rnD p r),some (.tup (stD p)),some (.tup (stD r)),some (.tup (stD (p++r)))]=pure (.bl b):=⟨_,z2Q (γ:=[some (maD st mk),some (rnD p r),some (.tup (stD p)),some (.tup (stD r)),some (.tup (stD (p++r)))]) (cap:=[some 0,none,none]) (mi:=iZip (eVar 4) (e2 fAdd (J9 (eVar 4) (z0e (fun _=>pure (.int 1))) z0d) (J9 (eVar 3) z0d (z0e (fun _=>pure (.int 1)))))) (g:=gT 2 (J6 (gN 1) (J6 (gN 2) z1k))) (k:=fun _=>pure true) (me:=e2 (fIn false) (eVar 2) (e2 fIx (e2 fIx (eVar 0) (fun _=>pure (.int 0))) (eVar 1))) (items:=zipD (stD (p++r)) (stD ((p++r).drop 1++r.take 1))) false (fun _=>true) (prD st) ?_ ?_ fun d hd=>?_⟩
 ·obtain ⟨b,e⟩:=e
  refine ⟨b,?_⟩
  unfold z1x
  rw [z0t,v3]
  show z28 [some (maD st mk),some (rnD p r),none,none,none]=_
  unfold z28
  refine (p_if false ?_).trans ?_
  ·simp only [Bool.not_true,List.getElem?_cons_succ,List.getElem?_cons_zero,List.length_cons,List.length_nil,Nat.reduceAdd,z9,aNil,Z8,cNot,cVal,eFn,eVar,if_true,zl7 g l2,z0b]
  rw [if_neg (by decide),z3b,z87 (rnD p r) [some (maD st mk),some (rnD p r),some (.tup (stD p)),some (.tup (stD r)),none] rfl rfl,z87 (.tup (stD (p++r))) [some (maD st mk),some (rnD p r),some (.tup (stD p)),some (.tup (stD r)),some (.tup (stD (p++r)))] (z5f (by omega) rfl rfl) rfl]
  refine (p_if false ?_).trans ?_
  ·simp only [List.getElem?_cons_succ,List.getElem?_cons_zero,z9,aNil,q5,Z8,decide_eq_false (show ¬(st.length:Int)≤m by omega),e2,j3,eVar,em,z4f,z2L,Y3,z1y]
  rw [if_neg (by decide),z3b]
  exact z2W _ e
 ·have e1:J9 (eVar 4) (z0e (fun _=>pure (.int 1))) z0d [some (maD st mk),some (rnD p r),some (.tup (stD p)),some (.tup (stD r)),some (.tup (stD (p++r)))]=pure (.tup (stD ((p++r).drop 1))):=by
   simp only [List.getElem?_cons_succ,List.getElem?_cons_zero,Z8,J9,eVar,z0d,z0e]
   rw [sl_tup,show (some (1:Int))=some ((1:Nat):Int) from rfl,z4O]
   unfold stD
   rw [List.map_drop]
  have e2:J9 (eVar 3) z0d (z0e (fun _=>pure (.int 1))) [some (maD st mk),some (rnD p r),some (.tup (stD p)),some (.tup (stD r)),some (.tup (stD (p++r)))]=pure (.tup (stD (r.take 1))):=by
   simp only [List.getElem?_cons_succ,List.getElem?_cons_zero,Z8,J9,eVar,z0d,z0e]
   rw [sl_tup,show (some (1:Int))=some ((1:Nat):Int) from rfl,z3x]
   unfold stD
   rw [List.map_take]
  have e3:=z5f (p:=(p++r).drop 1) (r:=r.take 1) (by rw [List.length_drop,List.length_take,List.length_append];omega) e1 e2
  unfold iZip
  rw [z0x rfl (z0x e3 rfl),Z8]
 ·unfold zipD
  rw [List.length_zipWith,Y2,List.length_append]
  omega
 ·obtain ⟨i,hi,ei⟩:=List.getElem_of_mem hd
  obtain ⟨x,y,ex,ey,rfl⟩:=z9F (i:=i) (by rw [List.getElem?_eq_getElem hi,ei])
  obtain ⟨a,rfl,ea⟩:=z6m ex
  obtain ⟨b,rfl,eb⟩:=z6m ey
  have ha:=g.lt a (List.mem_of_getElem? ea)
  refine ⟨[some (maD st mk),some (.int (a:Nat)),some (.int (b:Nat))],by simp only [List.getElem?_cons_zero,List.length_cons,List.length_nil,List.map_cons,List.map_nil,List.set_cons_succ,List.set_cons_zero,Nat.reduceAdd,Option.join_some,Z8,capG,J6,gN,z1k,gT,if_true],rfl,fun _=>?_⟩
  simp only [Bool.bne_false,List.getElem?_cons_succ,List.getElem?_cons_zero,Z8,e2,eVar,z73,z2L,z6q ha]
  simp [prD]
theorem zu6 {n:Nat}{p r:List Nat}(g:Rn n p r):z1z [rnD p r,.int (n:Nat)]=pure (.bl true):=by
 have ne:=g.ne
 have l:=g.l
 unfold z1z
 refine z5m rfl fun h=>?_
 refine z1I ?_
 show W (z22 [some (rnD p r),some (.int (n:Nat)),none]) h _
 unfold z22
 refine q_if false ?_ ?_
 ·have t1:Y5 [.tup [.tup (stD p),.tup (stD r)],.int 2,.int 2]=pure (.bl true):=z4o (m:=2) (n:=2) (Nat.le_refl _) (Nat.le_refl _)
  have t2:Y5 [.tup (stD p),.int 0,.int 400]=pure (.bl true):=z4o (m:=0) (n:=400) (Nat.zero_le _) (by rw [Y2];omega)
  have t3:Y5 [.tup (stD r),.int 1,.int 400]=pure (.bl true):=z4o (m:=1) (n:=400) (by rw [Y2];omega) (by rw [Y2];omega)
  simp only [Bool.false_eq_true,Bool.not_true,List.getElem?_cons_zero,List.length_cons,List.length_nil,Nat.reduceAdd,z9,aNil,Z8,cNot,cOr,cVal,e2,eFn,eVar,if_false,if_true,ix0,ix1,rnD,t1,t2,t3,z0b]
 rw [if_neg (by decide)]
 refine z0m ?_
 refine q_if false ?_ ?_
 ·simp only [List.getElem?_cons_zero,z9,aNil,z1W,q5,Z8,decide_eq_false (show ¬(400:Int)<(p.length:Int)+r.length by omega),e2,j3,eVar,z4S,ix0,ix1,Y3,rnD,Y2]
 rw [if_neg (by decide)]
 refine z0m ?_
 rw [w_cons]
 refine z4g (fun c γ h'=>∃ x,γ=[some (rnD p r),some (.int (n:Nat)),x]/\h'=h) (fun _ _=>False) ?_
 refine W_eq (z3G (z5f (p:=p) (r:=r) (by omega) (by unfold rnD;simp only [List.getElem?_cons_zero,Z8,e2,eVar,ix0]) (by unfold rnD;simp only [List.getElem?_cons_zero,Z8,e2,eVar,ix1]))) ⟨⟨none,rfl,rfl⟩,fun _ _ _ _=>trivial,?_,?_,fun _ _ q=>q.elim⟩
 ·rintro c d _ _ ed ⟨x,rfl,rfl⟩
  obtain ⟨a,rfl,ea⟩:=z6m ed
  have ha:=g.lt a (List.mem_of_getElem? ea)
  refine W_eq (v:=[some (rnD p r),some (.int (n:Nat)),some (.int (a:Nat))]) (by simp only [List.set_cons_succ,List.set_cons_zero,gN]) ?_
  refine q_if false ?_ ?_
  ·simp only [Bool.not_true,List.getElem?_cons_succ,List.getElem?_cons_zero,List.length_cons,List.length_nil,Nat.reduceAdd,z9,aNil,Z8,cNot,cVal,eFn,eVar,if_true,z3t ha,z0b]
  rw [if_neg (by decide)]
  exact z0m (z1a ⟨_,rfl,rfl⟩)
 ·rintro _ _ ⟨x,rfl,rfl⟩
  exact Y9 (.bl true) rfl ⟨rfl,[],by simp⟩
theorem zp7 {st:List (List Nat)}{mk:List (List Str)}{p r:List Nat}(g:Rn st.length p r):∃ b,z0s [maD st mk,rnD p r]=pure (.bl b):=by
 have ne:=g.ne
 have l:=g.l
 obtain ⟨tl,htl⟩:∃ tl,tl=(p++r)++r.take 1:=⟨_,rfl⟩
 have tll:tl.length≤40:=by rw [htl,List.length_append,List.length_append,List.length_take];omega
 have tl1:1≤tl.length:=by rw [htl,List.length_append,List.length_append];omega
 have tn:∀ x∈tl,x<st.length:=fun x hx=>by
  rw [htl] at hx
  rcases List.mem_append.mp hx with z | z
  ·exact g.lt x z
  ·exact g.lt x (List.mem_append_right _ (List.mem_of_mem_take z))
 refine ⟨(List.range (tl.length - 1)).all fun k=>decide (tl.getD (k+1) 0∈nx st (tl.getD k 0)),?_⟩
 unfold z0s
 refine z5m rfl fun h=>?_
 refine z1I ?_
 show W (z12 [some (maD st mk),some (rnD p r),none,none]) h _
 unfold z12
 refine q_if false ?_ ?_
 ·simp only [Bool.not_true,List.getElem?_cons_succ,List.getElem?_cons_zero,List.length_cons,List.length_nil,Nat.reduceAdd,z9,aNil,Z8,cNot,cVal,e2,j3,eFn,eVar,if_true,z2L,Y3,zu6 g,z1y,z0b]
 rw [if_neg (by decide)]
 refine z0m ?_
 refine z1R (.tup (stD tl)) [some (maD st mk),some (rnD p r),some (.tup (stD tl)),none] ?_ rfl ?_
 ·rw [htl]
  refine z5f (by rw [List.length_append,List.length_take];omega) (z5f (by omega) (by unfold rnD;simp only [List.getElem?_cons_succ,List.getElem?_cons_zero,Z8,e2,eVar,ix0]) (by unfold rnD;simp only [List.getElem?_cons_succ,List.getElem?_cons_zero,Z8,e2,eVar,ix1])) ?_
  unfold rnD
  simp only [List.getElem?_cons_succ,List.getElem?_cons_zero,Z8,e2,J9,eVar,ix1,z0d,z0e]
  rw [sl_tup,show (some (1:Int))=some ((1:Nat):Int) from rfl,z3x]
  unfold stD
  rw [List.map_take]
 rw [w_cons]
 refine z0L (fun c γ h'=>∃ x,γ=[some (maD st mk),some (rnD p r),some (.tup (stD tl)),x]/\h'=h/\∀ k,k<c->tl.getD (k+1) 0∈nx st (tl.getD k 0)) (fun d h'=>d=.bl false/\h'=h/\∃ k,k<tl.length - 1/\tl.getD (k+1) 0∉nx st (tl.getD k 0)) ?_
 refine W_eq (v:=.int ((tl.length - 1:Nat):Int)) ?_ ⟨tl.length - 1,rfl,by omega,⟨none,rfl,rfl,fun k hk=>by omega⟩,?_,?_,?_⟩
 ·simp only [List.getElem?_cons_succ,List.getElem?_cons_zero,z9,aNil,Z8,e2,j3,eVar,Y3,Y2,z1J]
  rw [show (tl.length:Int) - 1=((tl.length - 1:Nat):Int) by omega]
 ·rintro c _ _ hc ⟨x,rfl,rfl,hk⟩
  have g1:tl[c]?=some (tl.getD c 0):=by rw [List.getD_eq_getElem?_getD,List.getElem?_eq_getElem (by omega)];rfl
  have g2:tl[c+1]?=some (tl.getD (c+1) 0):=by rw [List.getD_eq_getElem?_getD,List.getElem?_eq_getElem (by omega)];rfl
  show W (Z2 _ _ [some (maD st mk),some (rnD p r),some (.tup (stD tl)),some (.int (c:Nat))]) _ _
  refine q_if (decide (tl.getD (c+1) 0∈nx st (tl.getD c 0)) != true) ?_ ?_
  ·have i1:fIx (.tup (stD tl)) (.int ((c:Int)+1))=pure (.int (tl.getD (c+1) 0:Nat)):=by
    rw [show (c:Int)+1=((c+1:Nat):Int) by omega]
    exact ix_tup (z03 (by unfold stD;rw [List.getElem?_map,g2];rfl))
   have i2:fIx (.tup (stD tl)) (.int (c:Nat))=pure (.int (tl.getD c 0:Nat)):=ix_tup (z03 (by unfold stD;rw [List.getElem?_map,g1];rfl))
   simp only [Bool.bne_true,List.getElem?_cons_succ,List.getElem?_cons_zero,z1W,q5,Z8,e2,eVar,i1,i2,z73,z2L,z6q (tn _ (List.mem_of_getElem? g1))]
  ·by_cases hin:tl.getD (c+1) 0∈nx st (tl.getD c 0)
   ·rw [decide_eq_true hin,if_neg (by decide)]
    refine z0m (z1a ⟨_,rfl,rfl,fun k hk'=>?_⟩)
    by_cases e:k=c
    ·rw [e];exact hin
    ·exact hk k (by omega)
   ·rw [decide_eq_false hin,if_pos (by decide)]
    refine z0T ?_
    exact Y9 (.bl false) rfl ⟨rfl,rfl,c,hc,hin⟩
 ·rintro _ _ ⟨x,rfl,rfl,hk⟩
  refine Y9 (.bl true) rfl ⟨?_,[],by simp⟩
  rw [List.all_eq_true.mpr]
  intro k hk'
  rw [List.mem_range] at hk'
  exact decide_eq_true (hk k hk')
 ·rintro _ _ ⟨rfl,rfl,k,hk,hn⟩
  refine ⟨?_,[],by simp⟩
  congr 1
  symm
  rw [List.all_eq_false]
  exact ⟨k,List.mem_range.mpr hk,by simpa using hn⟩
def addN (l:List Nat) (x:Nat):List Nat:=if x∈l then l else l++[x]
def dduN (l:List Nat):List Nat:=l.foldl addN []
theorem z6C (l:List Nat) (x:Nat):(addN l x).length≤l.length+1:=by unfold addN;split<;>simp
theorem zk2 (l:List Nat) (x:Nat):addN l x≠[]:=by
 unfold addN
 split
 ·rename_i h;exact List.ne_nil_of_mem h
 ·simp
theorem z4d:∀ (l:List Nat) (a:List Nat),(l.foldl addN a).length≤a.length+l.length
 | [],a=>by simp
 | x :: l,a=>by
  have:=z4d l (addN a x)
  have:=z6C a x
  rw [List.foldl_cons,List.length_cons]
  omega
theorem z7q:∀ (l:List Nat) (a:List Nat),a≠[]∨l≠[]->l.foldl addN a≠[]
 | [],a,h=>by simpa using h
 | x :: l,a,_=>by rw [List.foldl_cons];exact z7q l _ (.inl (zk2 a x))
theorem z3q (l:List Nat):(dduN l).length≤l.length:=by have:=z4d l [];simpa [dduN] using this
theorem z7H {l:List Nat}(h:l≠[]):dduN l≠[]:=z7q l [] (.inr h)
theorem z9l (l:List Nat) (x:Nat):ptD (kvN l) (.inl (x:Int)) (.bl true)=kvN (addN l x):=by
 by_cases h:x∈l
 ·unfold ptD addN
  rw [z7p,decide_eq_true h,if_pos rfl,if_pos h]
  unfold kvN
  rw [List.map_map]
  refine List.map_congr_left fun y _=>?_
  show (if (Sum.inl (y:Int):Key)=.inl (x:Int) then ((Sum.inl (y:Int):Key),D.bl true) else (.inl (y:Int),.bl true))=_
  split<;>rfl
 ·rw [zc4 l h]
  unfold addN
  rw [if_neg h]
theorem zu5 {h:AH}{n:Nat}{l:List Nat}{x:Nat}(e:h[n]?=some (.dK (kvN l))) (hl:l.length<1000):z6Y (.ref n) (.int x) (.bl true) h=.ok () (h.set n (.dK (kvN (addN l x)))):=by
 have:keyD (.int x)=some (.inl (x:Int)):=rfl
 unfold z6Y
 dsimp only
 rw [this]
 dsimp only
 rw [e]
 dsimp only
 rw [if_pos (by rw [ze9];unfold sizeLine;omega),z9l]
theorem zx3 (l:List Nat):z8x (kvN l)=stD l:=by
 unfold z8x kvN stD
 rw [List.map_map]
 rfl
theorem z8n {h:AH}{n:Nat}{l:List Nat}(e:h[n]?=some (.dK (kvN l))) (hl:l.length≤1000):z3Q [.ref n] h=.ok (.ref h.length) (h++[.lst (stD l)]):=by
 have g:z6Q n h=.ok (kvN l) h:=by unfold z6Q;rw [e]
 show (z6Q n >>= fun kvs=>newL (z8x kvs)) h=_
 rw [M.bind_ok g,zx3]
 exact z2r (by rw [Y2];omega)
section
variable {g:D->G->M G}{kb:G->M Bool}{me mv:G->M D}{γ:G}{cap:List (Option Nat)}{mi:G->M Src}
theorem z6j {γ':G}(src:Src) (h1:AH) (hg:∀ j,src.good (h1++j)):∀ (rest pre:List Nat),pre.length+rest.length≤1000 ->
 (∀ x∈rest,∃ γ1,(∀ h,g (.int x) γ' h=.ok γ1 h)/\(∀ h,kb γ1 h=.ok true h)/\(∀ h,me γ1 h=.ok (.int x) h)/\∀ h,mv γ1 h=.ok (.bl true) h) ->
 z1S src g kb me mv h1.length γ' (stD rest) (h1++[.dK (kvN pre)])=.ok () (h1++[.dK (kvN (rest.foldl addN pre))])
 | [],pre,hl,hd=>by
  unfold stD
  rw [List.map_nil]
  unfold z1S
  have c1:src.chk (h1++[.dK (kvN pre)])=.ok () (h1++[.dK (kvN pre)]):=by unfold Src.chk;rw [if_pos (hg _)]
  rw [M.bind_ok c1]
  rfl
 | x :: rest,pre,hl,hd=>by
  obtain ⟨γ1,e1,e2,e3,e4⟩:=hd x (by simp)
  have al:=z6C pre x
  have ih:=z6j (γ':=γ') src h1 hg rest (addN pre x) (by rw [List.length_cons] at hl;omega) fun y hy=>hd y (by simp [hy])
  have c1:src.chk (h1++[.dK (kvN pre)])=.ok () (h1++[.dK (kvN pre)]):=by unfold Src.chk;rw [if_pos (hg _)]
  have c5:z99 h1.length (.int x) (.bl true) (h1++[.dK (kvN pre)])=.ok () (h1++[.dK (kvN (addN pre x))]):=by
   unfold z99
   rw [zu5 (l:=pre) z0c (by rw [List.length_cons] at hl;omega),z6r]
  show z1S src g kb me mv h1.length γ' (.int x :: stD rest) _=_
  unfold z1S
  rw [M.bind_ok c1,M.bind_ok (e1 _),M.bind_ok (e2 _),if_pos rfl,M.bind_ok (e3 _),M.bind_ok (e4 _),M.bind_ok c5,ih,List.foldl_cons]
theorem ze2 {h h1:AH}{src:Src}{V:List Nat}(hi:mi γ h=.ok src h1) (hs:src.items=stD V) (hg:∀ j,src.good (h1++j)) (hl:V.length≤1000)
 (hd:∀ x∈V,∃ γ1,(∀ h,g (.int x) (capG cap γ) h=.ok γ1 h)/\(∀ h,kb γ1 h=.ok true h)/\(∀ h,me γ1 h=.ok (.int x) h)/\∀ h,mv γ1 h=.ok (.bl true) h) :
 z6n cap mi g kb me mv γ h=.ok (.ref h1.length) (h1++[.dK (kvN (dduN V))]):=by
 have r:=z6j (γ':=capG cap γ) (kb:=kb) (me:=me) (mv:=mv) (g:=g) src h1 hg V [] (by simpa using hl) hd
 unfold z6n
 rw [M.bind_ok hi]
 show (z1S src g kb me mv h1.length (capG cap γ) src.items >>= fun _=>(pure (D.ref h1.length):M D)) (h1++[O.dK []])=_
 rw [hs]
 have r':z1S src g kb me mv h1.length (capG cap γ) (stD V) (h1++[.dK []])=_:=r
 rw [M.bind_ok r']
 rfl
end
theorem z9b {p r:List Nat}(hl:p.length+r.length≤1000):z10 [rnD p r]=newL (stD (dduN (p++r))):=by
 have dl:=z3q (p++r)
 rw [List.length_append] at dl
 unfold z10
 refine z9Z (z2h _) (by rw [Y2];omega) fun h=>?_
 refine z1I ?_
 show W (z1n [some (rnD p r)]) h _
 unfold z1n
 have e1:=ze2 (cap:=[none]) (mi:=Y6 (e2 fAdd (e2 fIx (eVar 0) (fun _=>pure (.int 0))) (e2 fIx (eVar 0) (fun _=>pure (.int 1))))) (g:=gN 0) (kb:=fun _=>pure true) (me:=eVar 0) (mv:=fun _=>pure (.bl true)) (γ:=[some (rnD p r)]) (h:=h) (h1:=h) (src:=.con (stD (p++r))) (V:=p++r) (by rw [z3G (z5f (p:=p) (r:=r) hl (by unfold rnD;simp only [List.getElem?_cons_zero,Z8,e2,eVar,ix0]) (by unfold rnD;simp only [List.getElem?_cons_zero,Z8,e2,eVar,ix1]))];rfl) rfl (fun _=>trivial) (by rw [List.length_append];exact hl) fun x _=>⟨[some (.int x)],fun _=>rfl,fun _=>rfl,fun _=>rfl,fun _=>rfl⟩
 refine Y9 _ (z0l e1 (z8n z0c (by omega))) ⟨_,[.dK (kvN (dduN (p++r))),.lst (stD (dduN (p++r)))],rfl,by simp,by simp,z0c⟩
theorem zr2 {p r:List Nat}(hl:p.length+r.length≤900):z0o [rnD p r]=newL (stD (dduN (p++r))):=by
 have dl:=z3q (p++r)
 rw [List.length_append] at dl
 unfold z0o
 refine z9Z (z2h _) (by rw [Y2];omega) fun h=>?_
 refine z1I ?_
 show W (z2a [some (rnD p r),none,none]) h _
 unfold z2a
 have e0:(fun _=>newK []) [some (rnD p r),none,none] h=.ok (.ref h.length) (h++[.dK (kvN [])]):=rfl
 refine z0p (.ref h.length) [some (rnD p r),some (.ref h.length),none] e0 rfl ?_
 rw [w_cons]
 refine z4g (fun c γ h'=>∃ x,γ=[some (rnD p r),some (.ref h.length),x]/\h'=h++[.dK (kvN (((p++r).take c).foldl addN []))]) (fun _ _=>False) ?_
 refine W_eq (z3G (z5f (p:=p) (r:=r) (by omega) (by unfold rnD;simp only [List.getElem?_cons_zero,Z8,e2,eVar,ix0]) (by unfold rnD;simp only [List.getElem?_cons_zero,Z8,e2,eVar,ix1]))) ⟨⟨none,rfl,rfl⟩,fun _ _ _ _=>trivial,?_,?_,fun _ _ q=>q.elim⟩
 ·rintro c d _ _ ed ⟨x,rfl,rfl⟩
  obtain ⟨a,rfl,ea⟩:=z6m ed
  refine W_eq (v:=[some (rnD p r),some (.ref h.length),some (.int (a:Nat))]) (by simp only [List.set_cons_succ,List.set_cons_zero,gN]) ?_
  have fl:=z4d ((p++r).take c) []
  rw [List.length_take,List.length_append] at fl
  have e1:eVar 1 [some (rnD p r),some (.ref h.length),some (.int (a:Nat))]=pure (.ref h.length):=rfl
  have e2:eVar 2 [some (rnD p r),some (.ref h.length),some (.int (a:Nat))]=pure (.int (a:Nat)):=rfl
  rw [w_cons]
  unfold sAsg gDx
  rw [Z8,e1,Z8,e2,Z8,j9,j9]
  refine W_of (zu5 (l:=((p++r).take c).foldl addN []) z0c (by simp at fl;omega)) ?_
  rw [W_pure,W_pure]
  refine z1a ⟨_,rfl,?_⟩
  obtain ⟨hc,ec⟩:=List.getElem?_eq_some_iff.mp ea
  rw [z6r,List.take_succ_eq_append_getElem hc,List.foldl_append,ec]
  rfl
 ·rintro _ _ ⟨x,rfl,rfl⟩
  rw [show (Src.con (stD (p++r))).items.length=(p++r).length from Y2 _,List.take_length]
  refine Y9 _ (z0l (j6 rfl) (z8n (l:=dduN (p++r)) z0c (by omega))) ⟨_,[.dK (kvN (dduN (p++r))),.lst (stD (dduN (p++r)))],rfl,?_,by simp,z0c⟩
  show h++[O.dK (kvN (dduN (p++r)))]++[O.lst (stD (dduN (p++r)))]=_
  simp
end FT
set_option maxHeartbeats 4000000
namespace FT
open PySem PySem.Spec PyProof.Rows L2
theorem clnB {m:M D}{h:AH}{v:D}(c:z01 0 v=true) (z:W m h fun d h'=>d=v/\∃ j,h'=h++j):cln m h=.ok v h:=by
 obtain ⟨d,h',e,rfl,j,rfl⟩:=z
 exact z4K e (z3r (Nat.zero_le _) c)
theorem zi1 {n:Nat}{h:AH}{i j:Nat}{y:D}{ys:List D}(hi:h[i]?=some (.lst [])) (hj:h[j]?=some (.lst (y :: ys))):eqN (n+1) h (.ref i) (.ref j)=some false:=by
 have v1:vw h (.ref i)=.lst []:=by unfold vw;dsimp only;rw [hi]
 have v2:vw h (.ref j)=.lst (y :: ys):=by unfold vw;dsimp only;rw [hj]
 unfold eqN
 rw [v1,v2]
 rfl
theorem z8S {n:Nat}{h:AH}{i j:Nat}{y:D}{ys:List D}(hi:h[i]?=some (.lst [])) (hj:h[j]?=some (.lst (y :: ys))):eqN (n+1) h (.ref j) (.ref i)=some false:=by
 have v1:vw h (.ref i)=.lst []:=by unfold vw;dsimp only;rw [hi]
 have v2:vw h (.ref j)=.lst (y :: ys):=by unfold vw;dsimp only;rw [hj]
 unfold eqN
 rw [v1,v2]
 rfl
theorem z58 {h:AH}{i j:Nat}{xs:List D}{neg:Bool}(ne:xs≠[]) (hi:h[i]?=some (.lst [])) (hj:h[j]?=some (.lst xs)):fEqX neg (.ref i) (.ref j) h=.ok (.bl (false != neg)) h:=by
 obtain ⟨y,ys,rfl⟩:=List.exists_cons_of_ne_nil ne
 exact z4P (zi1 hi hj)
theorem z6p {a b neg:Bool}{h:AH}:fEqX neg (.bl a) (.bl b) h=.ok (.bl ((a == b) != neg)) h:=z4P (by cases a<;>cases b<;>rfl)
theorem z2O {a b neg:Bool}:fEqX neg (.bl a) (.bl b)=pure (.bl ((a == b) != neg)):=funext fun _=>z6p
theorem z4w {ma mb:G->M D}{γ:G}{h h1:AH}(e:ma γ h=.ok (.bl false) h1):eAnd ma mb γ h=.ok (.bl false) h1:=by unfold eAnd;rw [M.bind_ok e];rfl
theorem z49 {ma mb:G->M D}{γ:G}{h h1:AH}(e:ma γ h=.ok (.bl true) h1):eAnd ma mb γ h=mb γ h1:=by unfold eAnd;rw [M.bind_ok e];rfl
structure LR (w v:Str) (ps:List Nat):Prop where
 hw:w = "some"∨w = "all"
 hv:((v = "next"∨v = "once"∨v = "ever")/\∃ a,ps=[a])∨((v = "until"∨v = "unless")/\∃ a b,ps=[a,b])
def lrD (w v:Str) (ps:List Nat):D:=.tup (.str w :: .str v :: stD ps)
theorem lr2 {w v:Str}{a:Nat}{l:List Nat}:fIx (lrD w v (a :: l)) (.int 2)=pure (.int (a:Nat)):=ix_tup (z03 (j:=2) rfl)
theorem lr3 {w v:Str}{a b:Nat}{l:List Nat}:fIx (lrD w v (a :: b :: l)) (.int 3)=pure (.int (b:Nat)):=ix_tup (z03 (j:=3) rfl)
theorem lr0 {w v:Str}{l:List Nat}:fIx (lrD w v l) (.int 0)=pure (.str w):=ix_tup (z03 (j:=0) rfl)
theorem lr1 {w v:Str}{l:List Nat}:fIx (lrD w v l) (.int 1)=pure (.str v):=ix_tup (z03 (j:=1) rfl)
theorem LR.ne {w v:Str}{ps:List Nat}(g:LR w v ps):∃ a l,ps=a :: l:=by
 rcases g.hv with ⟨_,a,rfl⟩ | ⟨_,a,b,rfl⟩
 ·exact ⟨a,[],rfl⟩
 ·exact ⟨a,[b],rfl⟩
theorem zi8 {w v:Str}{ps p r:List Nat}{t:Bool}{h:AH}{i:Nat}(g:LR w v ps) (hr:0<r.length) (hl:p.length+r.length≤100) (e0:h[i]?=some (.lst [])):z0z [lrD w v ps,rnD p r,.bl t,.ref i] h=.ok (.bl false) h:=by
 have dl:=z3q (p++r)
 rw [List.length_append] at dl
 have dn:dduN (p++r)≠[]:=z7H fun z=>by
  have:=congrArg List.length z
  rw [List.length_append,List.length_nil] at this
  omega
 obtain ⟨l,el⟩:∃ l,l=dduN (p++r):=⟨_,rfl⟩
 rw [← el] at dl dn
 obtain ⟨a,ps',rfl⟩:=g.ne
 have here:∀ (γ:G) (h:AH),γ[1]?=some (some (rnD p r))->z1g (eFn 1 z0o (z9 (eVar 1) aNil)) γ h=.ok (.lst h.length (stD l)) (h++[.lst (stD l)]):=fun γ h q=>by
  have e1:eFn 1 z0o (z9 (eVar 1) aNil) γ h=.ok (.ref h.length) (h++[.lst (stD l)]):=fn_h (ds:=[rnD p r]) (ac_h (j6 q) rfl) rfl (by rw [zr2 (by omega),← el];exact z2r (by rw [Y2];omega))
  have gg:getL h.length (h++[O.lst (stD l)])=.ok (stD l) (h++[.lst (stD l)]):=by unfold getL;rw [z0c]
  unfold z1g
  rw [M.bind_ok e1]
  show (getL h.length >>= fun xs=>pure (Src.lst h.length xs)) _=_
  rw [M.bind_ok gg]
  rfl
 have cmp:∀ (γ:G) (h:AH) (c:Int) (b:Nat),γ[0]?=some (some (lrD w v (a :: ps')))->γ[1]?=some (some (rnD p r))->γ[2]?=some (some (.bl t))->fIx (lrD w v (a :: ps')) (.int c)=pure (.int (b:Nat))->x8 [some 0,some 2,none] (z1g (eFn 1 z0o (z9 (eVar 1) aNil))) (gN 2) (fun _=>pure true) (eTup (z9 (e2 fIx (eVar 0) (fun _=>pure (.int c))) (z9 (eVar 2) (z9 (eVar 1) aNil)))) γ h=.ok (.ref (h.length+1)) (h++[.lst (stD l)]++[.lst (l.map fun x=>.tup [.int (b:Nat),.int (x:Nat),.bl t])]):=fun γ h c b q0 q1 q2 q3=>by
  have:=z4F (cap:=[some 0,some 2,none]) (mi:=z1g (eFn 1 z0o (z9 (eVar 1) aNil))) (g:=gN 2) (k:=fun _=>pure true) (me:=eTup (z9 (e2 fIx (eVar 0) (fun _=>pure (.int c))) (z9 (eVar 2) (z9 (eVar 1) aNil)))) (γ:=γ) (h:=h) (fun _=>true) (fun d=>.tup [.int (b:Nat),d,.bl t]) (here γ h q1) (fun j=>z05 z0c) (by rw [show (Src.lst h.length (stD l)).items.length=l.length from Y2 _];omega) fun d hd=>⟨[some (lrD w v (a :: ps')),some (.bl t),some d],by unfold gN capG;simp [q0,q2],rfl,fun _=>by simp only [List.getElem?_cons_succ,List.getElem?_cons_zero,List.length_cons,List.length_nil,Nat.reduceAdd,z9,aNil,Z8,e2,eTup,eVar,if_true,q3,z4n]⟩
  rw [this,filter_tt]
  show newL ((stD l).map _) _=_
  unfold stD
  rw [List.map_map,z2r (by rw [List.length_map];omega)]
  simp [Function.comp_def]
 have en:∀ b:Nat,(l.map fun x=>D.tup [.int (b:Nat),.int (x:Nat),.bl t])≠[]:=fun b z=>dn (List.map_eq_nil_iff.mp z)
 refine clnB rfl (z1I ?_)
 show W (z0B [some (lrD w v (a :: ps')),some (rnD p r),some (.bl t),some (.ref i),none,none]) h _
 unfold z0B z0M
 refine z0p (.ref (h.length+1)) [some (lrD w v (a :: ps')),some (rnD p r),some (.bl t),some (.ref i),some (.ref (h.length+1)),none] (cmp _ _ 2 a rfl rfl rfl lr2) rfl ?_
 obtain ⟨E,hE⟩:∃ E,E=l.map fun x=>D.tup [.int (a:Nat),.int (x:Nat),.bl t]:=⟨_,rfl⟩
 have eE:E≠[]:=by rw [hE];exact en a
 rw [← hE]
 have hh:∃ j,h++[O.lst (stD l)]++[O.lst E]=h++j:=⟨[.lst (stD l),.lst E],by simp⟩
 have f0:(h++[O.lst (stD l)]++[O.lst E])[i]?=some (.lst []):=z05 (z05 e0)
 have f1:(h++[O.lst (stD l)]++[O.lst E])[h.length+1]?=some (.lst E):=by rw [show h.length+1=(h++[O.lst (stD l)]).length by simp];exact z0c
 generalize h++[O.lst (stD l)]++[O.lst E]=h2 at hh f0 f1
 obtain ⟨j2,rfl⟩:=hh
 have q0:(1:Nat)=1:=rfl
 rcases g.hv with ⟨hv,a',ea⟩ | ⟨hv,a',b',ea⟩
 ·cases ea
  rcases hv with rfl | rfl | rfl
  ·refine q_if true ?_ ?_
   ·simp only [Bool.bne_false,List.getElem?_cons_zero,q5,Z8,decide_true,e2,eVar,z0C,lr1]
   rw [if_pos rfl]
   refine z0T ?_
   refine Y9 (h1:=h++j2) (.bl false) ?_ ⟨rfl,_,rfl⟩
   refine z4K (j:=[.lst [.tup [.int (a:Nat),.int (sAt p r 1:Nat),.bl t]]]) (e2_h (j6 rfl) (y:=.ref (h++j2).length) (h2:=h++j2++[.lst [.tup [.int (a:Nat),.int (sAt p r 1:Nat),.bl t]]]) ?_ (z58 (by simp) (z05 f0) z0c)) rfl
   have:eTup (z9 (e2 fIx (eVar 0) (fun _=>pure (.int 2))) (z9 (eFn 2 z0a (z9 (eVar 1) (z9 (fun _=>pure (.int 1)) aNil))) (z9 (eVar 2) aNil))) [some (lrD w "next" [a]),some (rnD p r),some (.bl t),some (.ref i),some (.ref (h.length+1)),none]=pure (.tup [.int (a:Nat),.int (sAt p r 1:Nat),.bl t]):=by
    simp only [Z8,bindB,Z2,bNil,sAsg,z1h,sRet,sIf,FT.e2,FT.e3,eVar,gN,gT,J6,z1k,eFn,z9,aNil,j3,eTup,eNeg,q5,z0b,cVal,cNot,cAnd,cOr,eAnd,eOr,eNot,eIf,z0e,z0d,J9,eIsi,z4J,z3e,z4v,z2s,capG,List.map_cons,List.map_nil,Option.join_some,Option.join_none,List.getElem?_cons_succ,List.getElem?_cons_zero,List.set_cons_succ,List.set_cons_zero,List.length_cons,List.length_nil,Nat.reduceAdd,Nat.reduceLeDiff,if_true,if_false,Bool.not_true,Bool.not_false,ite_true,ite_false,reduceIte,Bool.false_eq_true,reduceCtorEq,z1W,z1J,z4S,z4f,z2R,z57,z2E,z4a,z4n,Y3,ix0,ix1,ix2,ixl2,ixl3,z0C,Bool.true_bne,Bool.false_bne,Bool.bne_false,Bool.bne_true,bne_self_eq_false,decide_true,decide_false,lr2,show z0a [rnD p r,.int 1]=pure (.int (sAt p r 1:Nat)) from za9 (n:=1) hr,z4n]
   unfold eLst
   rw [z0x this rfl,Z8]
   exact z2r (by simp)
  ·refine q_if false ?_ ?_
   ·simp only [Bool.bne_false,List.getElem?_cons_zero,q5,Z8,e2,eVar,z0C,lr1]<;>rfl
   rw [if_neg (by decide)]
   refine z0m (q_if true ?_ ?_)
   ·simp only [Bool.bne_false,List.getElem?_cons_zero,q5,Z8,cOr,decide_true,e2,eVar,z0C,if_true,lr1]<;>rfl
   rw [if_pos rfl]
   refine z0T ?_
   refine q_if (t == false) ?_ ?_
   ·simp only [Bool.bne_false,List.getElem?_cons_succ,List.getElem?_cons_zero,q5,Z8,e2,eVar,z2O,z0C,lr1]<;>cases t<;>rfl
   cases t with
   | false =>
    rw [if_pos (by decide)]
    refine z0T ?_
    exact Y9 (.bl false) (e2_h (j6 rfl) (j6 rfl) (z58 eE f0 f1)) ⟨rfl,_,rfl⟩
   | true =>
    rw [if_neg (by decide)]
    refine z0m (z0T ?_)
    refine Y9 (h1:=h++j2) (.bl false) ?_ ⟨rfl,_,rfl⟩
    refine z4w (e2_h (z0l (j6 rfl) (z54 f0)) (y:=.int 1) rfl rfl)
  ·refine q_if false ?_ ?_
   ·simp only [Bool.bne_false,List.getElem?_cons_zero,q5,Z8,e2,eVar,z0C,lr1]<;>rfl
   rw [if_neg (by decide)]
   refine z0m (q_if true ?_ ?_)
   ·simp only [Bool.bne_false,List.getElem?_cons_zero,q5,Z8,cOr,decide_true,e2,eVar,z0C,lr1]<;>rfl
   rw [if_pos rfl]
   refine z0T ?_
   refine q_if (t == true) ?_ ?_
   ·simp only [Bool.bne_false,List.getElem?_cons_succ,List.getElem?_cons_zero,q5,Z8,decide_true,e2,eVar,z2O,z0C,lr1]<;>cases t<;>rfl
   cases t with
   | true =>
    rw [if_pos (by decide)]
    refine z0T ?_
    exact Y9 (.bl false) (e2_h (j6 rfl) (j6 rfl) (z58 eE f0 f1)) ⟨rfl,_,rfl⟩
   | false =>
    rw [if_neg (by decide)]
    refine z0m (z0T ?_)
    refine Y9 (h1:=h++j2) (.bl false) ?_ ⟨rfl,_,rfl⟩
    refine z4w (e2_h (z0l (j6 rfl) (z54 f0)) (y:=.int 1) rfl rfl)
 ·cases ea
  have nx:decide (v = "next")=false/\decide (v = "once")=false/\decide (v = "ever")=false:=by rcases hv with rfl | rfl<;>exact ⟨rfl,rfl,rfl⟩
  refine q_if false ?_ ?_
  ·simp only [List.getElem?_cons_zero,q5,Z8,bne_self_eq_false,e2,eVar,z0C,lr1,nx.1]
  rw [if_neg (by decide)]
  refine z0m (q_if false ?_ ?_)
  ·simp only [Bool.false_eq_true,List.getElem?_cons_zero,q5,Z8,bne_self_eq_false,cOr,e2,eVar,z0C,if_false,lr1,nx.2.1,nx.2.2]
  rw [if_neg (by decide)]
  refine z0m ?_
  obtain ⟨c,hc,ec⟩:∃ c:Int,c<0/\e2 fAdd (e2 fSub (j3 fLen (z9 (eVar 3) aNil)) (fun _=>pure (.int 2))) (j3 fInt (z9 (eVar 2) aNil)) [some (lrD w v [a,b']),some (rnD p r),some (.bl t),some (.ref i),some (.ref (h.length+1)),none] (h++j2)=.ok (.int c) (h++j2):=by
   refine ⟨(0:Int) - 2+(if t then 1 else 0),by cases t<;>decide,e2_h (e2_h (z0l (j6 rfl) (z54 f0)) (y:=.int 2) rfl rfl) (z0l (d:=.bl t) (j6 rfl) (show fInt [.bl t] (h++j2)=.ok (.int (if t then 1 else 0)) (h++j2) from rfl)) rfl⟩
  refine z0p (.int c) [some (lrD w v [a,b']),some (rnD p r),some (.bl t),some (.ref i),some (.ref (h.length+1)),some (.int c)] ec rfl ?_
  refine q_if false ?_ ?_
  ·simp only [Bool.false_eq_true,List.getElem?_cons_succ,List.getElem?_cons_zero,List.length_cons,List.length_nil,Nat.reduceAdd,z9,aNil,q5,Z8,cAnd,decide_eq_false (show ¬(0:Int)≤c by omega),e2,eFn,eVar,z4f,if_false,if_true]
  rw [if_neg (by decide)]
  refine z0m ?_
  refine q_if ((t == decide (v = "unless")) != true) ?_ ?_
  ·simp only [Bool.bne_false,Bool.bne_true,List.getElem?_cons_succ,List.getElem?_cons_zero,q5,Z8,e2,eVar,z2O,z0C,lr1]
  by_cases tu:t=decide (v = "unless")
  ·rw [← tu,show ((t == t) != true)=false by cases t<;>rfl,if_neg (by decide)]
   refine z0m ?_
   cases t with
   | true =>
    refine q_if true rfl ?_
    rw [if_pos rfl]
    refine z0T ?_
    exact Y9 (.bl false) (e2_h (j6 rfl) (j6 rfl) (z58 eE f0 f1)) ⟨rfl,_,rfl⟩
   | false =>
    refine q_if false rfl ?_
    rw [if_neg (by decide)]
    refine z0m ?_
    refine Y9 (h1:=h++j2) (.bl false) ?_ ⟨rfl,_,rfl⟩
    refine z4K (j:=[.lst (stD l),.lst (l.map fun x=>.tup [.int (b':Nat),.int (x:Nat),.bl false])]) ?_ rfl
    rw [e2_h (f:=fEqX false) (j6 (d:=.ref i) rfl) (cmp _ _ 3 b' rfl rfl rfl lr3) (z58 (en b') (z05 (z05 f0)) (by rw [show (h++j2).length+1=(h++j2++[O.lst (stD l)]).length from (List.length_append (as:=h++j2) (bs:=[O.lst (stD l)])).symm];exact z0c))]
    simp
  ·rw [show ((t == decide (v = "unless")) != true)=true by rw [beq_eq_false_iff_ne.mpr tu];rfl,if_pos rfl]
   refine z0T ?_
   exact Y9 (.bl false) rfl ⟨rfl,_,rfl⟩
def zd4 (d:D) (h:AH):Prop:=∃ c xs,d=.ref c/\h[c]?=some (.lst xs)/\∀ x∈xs,∃ j ys,x=.ref j/\h[j]?=some (.lst ys)/\ys≠[]
theorem z9M {h:AH}{i:Nat}(e:h[i]?=some (.lst [])):∀ {xs:List D},(∀ x∈xs,∃ j ys,x=.ref j/\h[j]?=some (.lst ys)/\ys≠[])->inZ h (.ref i) xs=some false
 | [],_=>rfl
 | x :: xs,hx=>by
  obtain ⟨j,ys,rfl,ej,ne⟩:=hx x (by simp)
  obtain ⟨y,ys',rfl⟩:=List.exists_cons_of_ne_nil ne
  unfold inZ
  rw [z8S e ej,z9M e fun x q=>hx x (by simp [q])]
  rfl
theorem zo0 {d:D}{h:AH}{i:Nat}(e:h[i]?=some (.lst [])) (n:zd4 d h):fInX false (.ref i) d h=.ok (.bl false) h:=by
 obtain ⟨c,xs,rfl,ec,hx⟩:=n
 have g:seqD (.ref c) h=.ok xs h:=by
  show getL c h=_
  unfold getL;rw [ec]
 unfold fInX
 rw [M.bind_ok g]
 show (match inZ h (.ref i) xs with | some b=>Res.ok (D.bl (b != false)) h | none=>.bad)=_
 rw [z9M e hx]
 rfl
theorem zy8 {m:M D}{h:AH}(z:W m h fun d h1=>∃ i xs j,d=.ref i/\h1=h++j/\h.length≤i/\h1[i]?=some (.lst xs)/\∀ x∈xs,∃ j ys,x=.ref j/\h.length≤j/\h1[j]?=some (.lst ys)/\ys≠[]) :
 W (cln m) h fun d h'=>(∃ j,h'=h++j)/\zd4 d h':=by
 obtain ⟨d,h1,e,i,xs,j,rfl,rfl,hi,ei,hx⟩:=z
 cases xs with
 | nil=>exact W_of (z5v e hi ei rfl) ⟨⟨_,rfl⟩,h.length,[],rfl,z0c,by simp⟩
 | cons x xs =>
  refine z9N ⟨_,_,e,i,_,rfl,hi,ei,?_,⟨j,rfl⟩,i,_,rfl,ei,fun y hy=>?_⟩
  ·obtain ⟨j0,ys,rfl,hj,_⟩:=hx x (by simp)
   show x6 h.length (.ref j0 :: xs)=false
   show (z01 h.length (.ref j0) && _)=false
   rw [show z01 h.length (.ref j0)=false by simp [z01];omega]
   rfl
  ·obtain ⟨j0,ys,e1,_,e2,e3⟩:=hx y hy
   exact ⟨j0,ys,e1,e2,e3⟩
def z2G (c n:Nat):List D:=(List.range n).map fun x=>.ref (c+x)
theorem z6X (c n:Nat):z2G c (n+1)=z2G c n++[.ref (c+n)]:=by unfold z2G;rw [List.range_succ,List.map_append];rfl
theorem z7Z (c n:Nat):(z2G c n).length=n:=by unfold z2G;simp
theorem z7D {mi:G->M Src}{γ:G}{h:AH}{n0:Nat}{E:List D}(hi:mi γ h=.ok (.lst n0 E) h) (hE:h[n0]?=some (.lst E)) (hn:E.length≤1000):x8 [none] mi (gN 0) (fun _=>pure true) (eLst (z9 (eVar 0) aNil)) γ h=.ok (.ref h.length) (h++(.lst (z2G (h.length+1) E.length) :: E.map fun d=>.lst [d])):=by
 have:W (x8 [none] mi (gN 0) (fun _=>pure true) (eLst (z9 (eVar 0) aNil)) γ) h fun d h'=>d=.ref h.length/\h'=h++(.lst (z2G (h.length+1) E.length) :: E.map fun d=>.lst [d]):=by
  refine z7k ?_
  refine W_of hi ⟨fun i h'=>i≤E.length/\h'=h++(.lst (z2G (h.length+1) i) :: (E.take i).map fun d=>.lst [d]),⟨Nat.zero_le _,by rw [List.take_zero];rfl⟩,?_,?_,?_⟩
  ·rintro i _ ⟨_,rfl⟩
   exact z05 hE
  ·rintro i d _ e ⟨hi',rfl⟩
   have e':E[i]?=some d:=e
   obtain ⟨ii,ei⟩:=List.getElem?_eq_some_iff.mp e'
   refine W_of (v:=[some d]) rfl (W_of (v:=true) rfl ?_)
   rw [if_pos rfl]
   have len:(h++(O.lst (z2G (h.length+1) i) :: (E.take i).map fun d=>O.lst [d])).length=h.length+1+i:=by simp;omega
   have e4:eLst (z9 (eVar 0) aNil) [some d] (h++(O.lst (z2G (h.length+1) i) :: (E.take i).map fun d=>O.lst [d]))=.ok (.ref (h.length+1+i)) (h++(O.lst (z2G (h.length+1) i) :: (E.take i).map fun d=>O.lst [d])++[.lst [d]]):=by
    show newL [d] _=_
    rw [z2r (by simp),len]
   refine W_of e4 ?_
   refine W_of (z5Y (i:=h.length) (xs:=z2G (h.length+1) i) (z05 am0) (by rw [z7Z];omega)) ⟨ii,?_⟩
   rw [List.append_assoc,List.cons_append,sm0,← z6X,List.take_succ_eq_append_getElem ii,List.map_append,ei]
   rfl
  ·rintro _ ⟨_,rfl⟩
   rw [show (Src.lst n0 E).items.length=E.length from rfl,List.take_length]
   exact ⟨rfl,rfl⟩
 obtain ⟨d,h',e,rfl,rfl⟩:=this
 exact e
theorem zg7 {h:AH}{E:List D}{x:Nat}(hx:x<E.length):(h++(O.lst (z2G (h.length+1) E.length) :: E.map fun d=>O.lst [d]))[h.length+1+x]?=some (.lst [E[x]]):=by
 rw [List.getElem?_append_right (by omega),show h.length+1+x - h.length=x+1 by omega,List.getElem?_cons_succ,List.getElem?_map,List.getElem?_eq_getElem hx]
 rfl
theorem z8j {k:G->M Bool}{ma mb:G->M D}{γ:G}{h h1:AH}(e:k γ h=.ok true h1):eIf k ma mb γ h=ma γ h1:=by unfold eIf;rw [M.bind_ok e];rfl
theorem z64 {k:G->M Bool}{ma mb:G->M D}{γ:G}{h h1:AH}(e:k γ h=.ok false h1):eIf k ma mb γ h=mb γ h1:=by unfold eIf;rw [M.bind_ok e];rfl
theorem z3F {ma:G->M D}{γ:G}{h h1:AH}{x:D}(e:ma γ h=.ok x h1):eLst (z9 ma aNil) γ h=.ok (.ref h1.length) (h1++[.lst [x]]):=by
 have e1:z9 ma aNil γ h=.ok [x] h1:=ac_h e rfl
 unfold eLst
 rw [M.bind_ok e1]
 exact z2r (by simp)
theorem z34 {mr:G->M (List D)}{γ:G}{h h1:AH}{xs:List D}(e:mr γ h=.ok xs h1) (hl:xs.length≤1000):eTup mr γ h=.ok (.tup xs) h1:=by
 unfold eTup
 rw [M.bind_ok e]
 exact congrFun (if_pos (show xs.length≤sizeLine by unfold sizeLine;omega)) h1
theorem z5T {γ:G}{h:AH}:eLst aNil γ h=.ok (.ref h.length) (h++[.lst []]):=z2r (xs:=[]) (Nat.zero_le _)
theorem nw2 {h:AH}{q q' o:O}:(h++[q]++[o])[(h++[q']).length]?=some o:=by
 rw [show (h++[q']).length=(h++[q]).length by simp]
 exact z0c
theorem zo6 {w v:Str}{ps p r:List Nat}{h:AH}(g:LR w v ps) (hr:0<r.length) (hl:p.length+r.length≤100):W (z1r [lrD w v ps,rnD p r,.int 0]) h fun d h'=>(∃ j,h'=h++j)/\zd4 d h':=by
 have dl:=z3q (p++r)
 rw [List.length_append] at dl
 have dn:dduN (p++r)≠[]:=z7H fun z=>by
  have:=congrArg List.length z
  rw [List.length_append,List.length_nil] at this
  omega
 obtain ⟨l,el⟩:∃ l,l=dduN (p++r):=⟨_,rfl⟩
 rw [← el] at dl dn
 obtain ⟨a,b,ea,eb⟩:∃ a b:Nat,fIx (.tup (stD ps)) (.int 0)=pure (.int (a:Nat))/\fIx (.tup (stD ps)) (.int (-1))=pure (.int (b:Nat)):=by
  rcases g.hv with ⟨_,a,rfl⟩ | ⟨_,a,b,rfl⟩
  ·exact ⟨a,a,rfl,rfl⟩
  ·exact ⟨a,b,rfl,rfl⟩
 have pq:z0W [lrD w v ps]=pure (.tup (stD ps)):=zi6 (r:=.two w v ps) (by
  have hw:=g.hw
  refine ⟨by rcases hw with rfl | rfl<;>decide,?_,by rcases hw with rfl | rfl<;>decide,hw,?_⟩
  ·rcases g.hv with ⟨hv,_⟩ | ⟨hv,_⟩
   ·rcases hv with rfl | rfl | rfl<;>decide
   ·rcases hv with rfl | rfl<;>decide
  ·rcases g.hv with ⟨_,a,rfl⟩ | ⟨_,a,b,rfl⟩<;>simp)
 obtain ⟨t,et⟩:∃ t,t=decide (w = "some"):=⟨_,rfl⟩
 have cmp:∀ (γ:G) (h:AH) (n c:Nat) (k1:Nat),γ[k1]?=some (some (.int (c:Nat)))->γ[5]?=some (some (.bl t))->γ[8]?=some (some (.ref n))->h[n]?=some (.lst (stD l))->x8 [some k1,some 5,none] (z1g (eVar 8)) (gN 2) (fun _=>pure true) (eTup (z9 (eVar 0) (z9 (eVar 2) (z9 (eVar 1) aNil)))) γ h=.ok (.ref h.length) (h++[.lst (l.map fun x=>.tup [.int (c:Nat),.int (x:Nat),.bl t])]):=fun γ h n c k1 q0 q1 q2 q3=>by
  have:=z4F (cap:=[some k1,some 5,none]) (mi:=z1g (eVar 8)) (g:=gN 2) (k:=fun _=>pure true) (me:=eTup (z9 (eVar 0) (z9 (eVar 2) (z9 (eVar 1) aNil)))) (γ:=γ) (h:=h) (fun _=>true) (fun d=>.tup [.int (c:Nat),d,.bl t]) (z7d (j6 q2) q3) (fun j=>z05 q3) (by rw [show (Src.lst n (stD l)).items.length=l.length from Y2 _];omega) fun d hd=>⟨[some (.int (c:Nat)),some (.bl t),some d],by unfold gN capG;simp [q0,q1],rfl,fun _=>by simp only [List.getElem?_cons_succ,List.getElem?_cons_zero,List.length_cons,List.length_nil,Nat.reduceAdd,z9,aNil,Z8,eTup,eVar,if_true,z4n]⟩
  rw [this,filter_tt]
  show newL ((stD l).map _) _=_
  unfold stD
  rw [List.map_map,z2r (by rw [List.length_map];omega)]
  rfl
 have en:∀ b:Nat,(l.map fun x=>D.tup [.int (b:Nat),.int (x:Nat),.bl t])≠[]:=fun b z=>dn (List.map_eq_nil_iff.mp z)
 refine zy8 (z1I ?_)
 show W (z1p [some (lrD w v ps),some (rnD p r),some (.int 0),none,none,none,none,none,none,none,none,none,none]) h _
 unfold z1p z0M
 refine z1R (.tup [.str w,.str v]) [some (lrD w v ps),some (rnD p r),some (.int 0),some (.str w),some (.str v),none,none,none,none,none,none,none,none] ?_ rfl ?_
 ·unfold lrD
  simp only [List.getElem?_cons_zero,Z8,J9,eVar,z0d,z0e,slh2]
 refine z1R (.bl t) [some (lrD w v ps),some (rnD p r),some (.int 0),some (.str w),some (.str v),some (.bl t),none,none,none,none,none,none,none] ?_ rfl ?_
 ·simp only [Bool.bne_false,List.getElem?_cons_succ,List.getElem?_cons_zero,Z8,e2,eVar,z0C,et]
 refine z1R (.tup [.int (a:Nat),.int (b:Nat)]) [some (lrD w v ps),some (rnD p r),some (.int 0),some (.str w),some (.str v),some (.bl t),some (.int (a:Nat)),some (.int (b:Nat)),none,none,none,none,none] ?_ rfl ?_
 ·have en1:eNeg (fun _=>pure (.int 1)) [some (lrD w v ps),some (rnD p r),some (.int 0),some (.str w),some (.str v),some (.bl t),none,none,none,none,none,none,none]=pure (.int (-1)):=rfl
  simp only [List.getElem?_cons_zero,List.length_cons,List.length_nil,Nat.reduceAdd,z9,aNil,Z8,e2,eFn,eNeg,eTup,eVar,ea,eb,if_true,pq,z4a]
 by_cases hnx:v = "next"
 ·refine q_if true ?_ ?_
  ·simp only [Bool.bne_false,List.getElem?_cons_succ,List.getElem?_cons_zero,q5,Z8,decide_true,e2,eVar,z0C,hnx]
  rw [if_pos rfl]
  refine z0T ?_
  have e1:eTup (z9 (eVar 6) (z9 (eFn 2 J4 (z9 (eVar 1) (z9 (fun _=>pure (.int 1)) aNil))) (z9 (eVar 5) aNil))) [some (lrD w v ps),some (rnD p r),some (.int 0),some (.str w),some (.str v),some (.bl t),some (.int (a:Nat)),some (.int (b:Nat)),none,none,none,none,none] h=.ok (.tup [.int (a:Nat),.int (sAt p r 1:Nat),.bl t]) h:=by
   have:eTup (z9 (eVar 6) (z9 (eFn 2 J4 (z9 (eVar 1) (z9 (fun _=>pure (.int 1)) aNil))) (z9 (eVar 5) aNil))) [some (lrD w v ps),some (rnD p r),some (.int 0),some (.str w),some (.str v),some (.bl t),some (.int (a:Nat)),some (.int (b:Nat)),none,none,none,none,none]=pure (.tup [.int (a:Nat),.int (sAt p r 1:Nat),.bl t]):=by
    simp only [Z8,bindB,Z2,bNil,sAsg,z1h,sRet,sIf,FT.e2,FT.e3,eVar,gN,gT,J6,z1k,eFn,z9,aNil,j3,eTup,eNeg,q5,z0b,cVal,cNot,cAnd,cOr,eAnd,eOr,eNot,eIf,z0e,z0d,J9,eIsi,z4J,z3e,z4v,z2s,capG,List.map_cons,List.map_nil,Option.join_some,Option.join_none,List.getElem?_cons_succ,List.getElem?_cons_zero,List.set_cons_succ,List.set_cons_zero,List.length_cons,List.length_nil,Nat.reduceAdd,Nat.reduceLeDiff,if_true,if_false,Bool.not_true,Bool.not_false,ite_true,ite_false,reduceIte,Bool.false_eq_true,reduceCtorEq,z1W,z1J,z4S,z4f,z2R,z57,z2E,z4a,z4n,Y3,ix0,ix1,ix2,ixl2,ixl3,z0C,Bool.true_bne,Bool.false_bne,Bool.bne_false,Bool.bne_true,bne_self_eq_false,decide_true,decide_false,show J4 [rnD p r,.int 1]=pure (.int (sAt p r 1:Nat)) from zb2 (n:=1) hr,z4n]
   rw [this];rfl
  refine Y9 _ (z3F (z3F e1)) ⟨_,[.ref h.length],[.lst [.tup [.int (a:Nat),.int (sAt p r 1:Nat),.bl t]],.lst [.ref h.length]],rfl,by simp,by simp,z0c,fun x hx=>?_⟩
  obtain rfl:x=.ref h.length:=by simpa using hx
  exact ⟨_,_,rfl,Nat.le_refl _,z05 z0c,by simp⟩
 ·refine q_if false ?_ ?_
  ·simp only [List.getElem?_cons_succ,List.getElem?_cons_zero,q5,Z8,bne_self_eq_false,decide_eq_false hnx,e2,eVar,z0C]
  rw [if_neg (by decide)]
  refine z0m ?_
  refine z0p (.ref h.length) [some (lrD w v ps),some (rnD p r),some (.int 0),some (.str w),some (.str v),some (.bl t),some (.int (a:Nat)),some (.int (b:Nat)),some (.ref h.length),none,none,none,none] (fn_h (ds:=[rnD p r]) (ac_h (j6 rfl) rfl) rfl (by rw [z9b (by omega),← el];exact z2r (by rw [Y2];omega))) rfl ?_
  have u0:(h++[O.lst (stD l)])[h.length]?=some (.lst (stD l)):=z0c
  by_cases hoe:v = "once"∨v = "ever"
  ·refine q_if true ?_ ?_
   ·have:fIn false (.str v) (.tup [.str "once",.str "ever"])=pure (.bl true):=by
     rw [show [D.str "once",D.str "ever"]=(["once","ever"]:List Str).map D.str from rfl,z2N]
     rw [decide_eq_true (by simpa using hoe)]
     rfl
    simp only [List.getElem?_cons_succ,List.getElem?_cons_zero,List.length_cons,List.length_nil,Nat.reduceAdd,z9,aNil,q5,Z8,e2,eTup,eVar,if_true,z4a,this]
   rw [if_pos rfl]
   refine z0T ?_
   refine z0p _ [some (lrD w v ps),some (rnD p r),some (.int 0),some (.str w),some (.str v),some (.bl t),some (.int (a:Nat)),some (.int (b:Nat)),some (.ref h.length),some (.ref (h++[O.lst (stD l)]).length),none,none,none] (cmp _ _ h.length a 6 rfl rfl rfl u0) rfl ?_
   obtain ⟨E,hE⟩:∃ E,E=l.map fun x=>D.tup [.int (a:Nat),.int (x:Nat),.bl t]:=⟨_,rfl⟩
   have eE:E≠[]:=by rw [hE];exact en a
   have El:E.length≤100:=by rw [hE,List.length_map];omega
   rw [← hE]
   refine z0T ?_
   have kk:(fun γ:G=>(do let d ← e2 (fEqX false) (eVar 5) (e2 (fEq false) (eVar 4) (fun _=>pure (.str "ever"))) γ;asB d:M Bool)) [some (lrD w v ps),some (rnD p r),some (.int 0),some (.str w),some (.str v),some (.bl t),some (.int (a:Nat)),some (.int (b:Nat)),some (.ref h.length),some (.ref (h++[O.lst (stD l)]).length),none,none,none] (h++[O.lst (stD l)]++[O.lst E])=.ok (t == decide (v = "ever")) (h++[O.lst (stD l)]++[O.lst E]):=by
    refine (cb_h (e2_h (j6 rfl) (y:=.bl (decide (v = "ever"))) (e2_h (j6 rfl) (y:=.str "ever") rfl (by rw [z0C];cases decide (v = "ever")<;>rfl)) z6p)).trans ?_
    cases t<;>cases decide (v = "ever")<;>rfl
   have h1:(h++[O.lst (stD l)]).length=h.length+1:=by simp
   cases ht:(t == decide (v = "ever")) with
   | true =>
    rw [ht] at kk
    refine Y9 _ ((z8j kk).trans (z3F (j6 rfl))) ⟨_,[.ref (h++[O.lst (stD l)]).length],[.lst (stD l),.lst E,.lst [.ref (h++[O.lst (stD l)]).length]],rfl,by simp,by simp<;>omega,z0c,fun x hx=>?_⟩
    obtain rfl:x=.ref (h++[O.lst (stD l)]).length:=by simpa using hx
    exact ⟨_,E,rfl,by rw [h1];omega,z05 z0c,eE⟩
   | false =>
    rw [ht] at kk
    refine Y9 _ ((z64 kk).trans (z7D (n0:=(h++[O.lst (stD l)]).length) (E:=E) (z7d (j6 rfl) z0c) z0c (by omega))) ⟨_,z2G ((h++[O.lst (stD l)]++[O.lst E]).length+1) E.length,[.lst (stD l),.lst E]++(.lst (z2G ((h++[O.lst (stD l)]++[O.lst E]).length+1) E.length) :: E.map fun d=>.lst [d]),rfl,by simp,by simp<;>omega,am0,fun x hx=>?_⟩
    unfold z2G at hx
    obtain ⟨y,hy,rfl⟩:=List.mem_map.mp hx
    rw [List.mem_range] at hy
    exact ⟨_,_,rfl,by simp;omega,zg7 hy,by simp⟩
  ·refine q_if false ?_ ?_
   ·have:fIn false (.str v) (.tup [.str "once",.str "ever"])=pure (.bl false):=by
     rw [show [D.str "once",D.str "ever"]=(["once","ever"]:List Str).map D.str from rfl,z2N]
     rw [decide_eq_false (by simpa using hoe)]
     rfl
    simp only [List.getElem?_cons_succ,List.getElem?_cons_zero,List.length_cons,List.length_nil,Nat.reduceAdd,z9,aNil,q5,Z8,e2,eTup,eVar,if_true,z4a,this]
   rw [if_neg (by decide)]
   refine z0m ?_
   have hut:(v = "until"∨v = "unless"):=by
    rcases g.hv with ⟨q,_⟩ | ⟨q,_⟩
    ·rcases q with q | q | q
     ·exact absurd q hnx
     ·exact absurd (.inl q) hoe
     ·exact absurd (.inr q) hoe
    ·exact q
   have h1:(h++[O.lst (stD l)]).length=h.length+1:=by simp
   obtain ⟨c,L,nL,lL,eL⟩:∃ (c:Nat) (L:List D),1≤L.length/\L.length≤2/\eIf (cVal (eVar 5)) (eTup (z9 (eVar 6) (z9 (eLst (z9 (eVar 7) aNil)) aNil))) (eTup (z9 (eVar 7) (z9 (eLst (z9 (eVar 6) (z9 (eVar 7) aNil))) aNil))) [some (lrD w v ps),some (rnD p r),some (.int 0),some (.str w),some (.str v),some (.bl t),some (.int (a:Nat)),some (.int (b:Nat)),some (.ref h.length),none,none,none,none] (h++[O.lst (stD l)])=.ok (.tup [.int (c:Nat),.ref (h.length+1)]) (h++[O.lst (stD l)]++[.lst L]):=by
    cases t with
    | true=>exact ⟨a,[.int (b:Nat)],by simp,by simp,by rw [← h1];exact (z8j (cv_h (j6 rfl))).trans (z34 (ac_h (j6 rfl) (ac_h (z3F (j6 rfl)) rfl)) (by simp))⟩
    | false =>
     refine ⟨b,[.int (a:Nat),.int (b:Nat)],by simp,by simp,(z64 (cv_h (j6 rfl))).trans (z34 (ac_h (j6 rfl) (ac_h (d:=.ref (h.length+1)) (h1:=h++[O.lst (stD l)]++[.lst [.int (a:Nat),.int (b:Nat)]]) (mr:=aNil) ?_ rfl)) (by simp))⟩
     have e1:z9 (eVar 6) (z9 (eVar 7) aNil) [some (lrD w v ps),some (rnD p r),some (.int 0),some (.str w),some (.str v),some (.bl false),some (.int (a:Nat)),some (.int (b:Nat)),some (.ref h.length),none,none,none,none] (h++[O.lst (stD l)])=.ok [.int (a:Nat),.int (b:Nat)] (h++[O.lst (stD l)]):=ac_h (j6 rfl) (ac_h (j6 rfl) rfl)
     unfold eLst
     rw [M.bind_ok e1,← h1]
     exact z2r (by simp)
   refine z0p _ [some (lrD w v ps),some (rnD p r),some (.int 0),some (.str w),some (.str v),some (.bl t),some (.int (a:Nat)),some (.int (b:Nat)),some (.ref h.length),none,some (.int (c:Nat)),some (.ref (h.length+1)),none] eL rfl ?_
   have fL:(h++[O.lst (stD l)]++[O.lst L])[h.length+1]?=some (.lst L):=by rw [← h1];exact z0c
   have hj:∃ j,h++[O.lst (stD l)]++[O.lst L]=h++j:=⟨[.lst (stD l),.lst L],by simp⟩
   have fl:(h++[O.lst (stD l)]++[O.lst L])[h.length]?=some (.lst (stD l)):=z05 u0
   have hlen:h.length≤(h++[O.lst (stD l)]++[O.lst L]).length:=by simp
   generalize h++[O.lst (stD l)]++[O.lst L]=h3 at fL hj fl hlen
   refine z0p (.ref h3.length) [some (lrD w v ps),some (rnD p r),some (.int 0),some (.str w),some (.str v),some (.bl t),some (.int (a:Nat)),some (.int (b:Nat)),some (.ref h.length),none,some (.int (c:Nat)),some (.ref (h.length+1)),some (.ref h3.length)] ((z64 ((cb_h (e2_h (j6 rfl) (z0l (j6 rfl) (z54 fL)) (by rw [z4f];rfl))).trans (by rw [decide_eq_false (show ¬ ((L.length:Nat):Int)≤0 by omega)]))).trans z5T) rfl ?_
   refine q_if (t == decide (v = "unless")) ?_ ?_
   ·simp only [Bool.bne_false,List.getElem?_cons_succ,List.getElem?_cons_zero,q5,Z8,e2,eVar,z2O,z0C]<;>cases t<;>cases decide (v = "unless")<;>rfl
   cases ht:(t == decide (v = "unless")) with
   | false =>
    rw [if_neg (by decide)]
    refine z0m ?_
    obtain ⟨j,rfl⟩:=hj
    exact Y9 _ (j6 rfl) ⟨_,[],j++[.lst []],rfl,by simp,hlen,z0c,by simp⟩
   | true =>
    rw [if_pos rfl]
    refine z0T ?_
    have u2:(h3++[O.lst []])[h.length]?=some (.lst (stD l)):=z05 fl
    refine z9V (i:=h3.length) (xs:=[]) rfl z0c (cmp _ _ h.length c 10 rfl rfl rfl u2) (z05 z0c) (by simp) ?_
    refine z0m ?_
    have s1:(h3++[O.lst []]++[O.lst (l.map fun x=>D.tup [.int (c:Nat),.int (x:Nat),.bl t])]).set h3.length (.lst ([]++[.ref (h3++[O.lst []]).length]))=h3++[O.lst [.ref (h3++[O.lst []]).length]]++[O.lst (l.map fun x=>D.tup [.int (c:Nat),.int (x:Nat),.bl t])]:=by
     rw [List.set_append_left _ _ (by simp),z6r]
     rfl
    rw [s1]
    have s2:(h3++[O.lst []]).length=h3.length+1:=by simp
    obtain ⟨j,rfl⟩:=hj
    refine Y9 _ (j6 rfl) ⟨_,_,j++[O.lst [.ref (h++j++[O.lst []]).length]]++[O.lst (l.map fun x=>D.tup [.int (c:Nat),.int (x:Nat),.bl t])],rfl,by simp,hlen,z05 z0c,fun x hx=>?_⟩
    obtain rfl:x=.ref (h++j++[O.lst []]).length:=by simpa using hx
    refine ⟨_,_,rfl,by rw [s2];omega,?_,en c⟩
    exact nw2
structure Nd where
 one:Nat
 t:Bool
 run:Option (List Nat×List Nat)
 kid:Option Nat
def runD:Option (List Nat×List Nat)->D
 | none=>.non
 | some (p,r)=>rnD p r
def ndD (m:Nat) (n:Nd):D:=.tup [.int (m:Nat),.int (n.one:Nat),.bl n.t,runD n.run,.tup (stD n.kid.toList)]
structure NdOk (N:Nat) (w:Str) (many:Nat) (n:Nd):Prop where
 one:n.one<N
 run:∀ p r,n.run=some (p,r)->Rn N p r/\sAt p r 0=n.one
 kid:∀ k,n.kid=some k->k<many
 odd:n.t=decide (w = "some")->n.run.isSome=true/\n.kid=none
def gd (w:Str) (S:List Nat) (n:Nd):Bool:=!(n.t == decide (w = "some")) && (n.run.isNone && (n.kid.isNone && (n.t == decide (n.one∈S))))
def PC (b:Bool) (d:D) (h:AH):Prop:=∃ c,d=.ref c/\((b=true/\∃ j,h[c]?=some (.lst [.ref j])/\h[j]?=some (.lst []))∨(b=false/\h[c]?=some (.lst [])))
theorem z8z {n:Nat}{h:AH}{i j:Nat}{T:List D}(hi:h[i]?=some (.lst T)) (hj:h[j]?=some (.lst [])):eqN (n+1) h (.ref j) (.ref i)=some T.isEmpty:=by
 have v1:vw h (.ref i)=.lst T:=by unfold vw;dsimp only;rw [hi]
 have v2:vw h (.ref j)=.lst []:=by unfold vw;dsimp only;rw [hj]
 unfold eqN
 rw [v1,v2]
 cases T<;>rfl
theorem zn1 {b:Bool}{d:D}{h:AH}{i:Nat}{T:List D}(e:h[i]?=some (.lst T)) (n:PC b d h):fInX false (.ref i) d h=.ok (.bl (b && T.isEmpty)) h:=by
 obtain ⟨c,rfl,n⟩:=n
 rcases n with ⟨rfl,j,ec,ej⟩ | ⟨rfl,ec⟩
 ·have g:seqD (.ref c) h=.ok [.ref j] h:=by
   show getL c h=_
   unfold getL;rw [ec]
  unfold fInX
  rw [M.bind_ok g]
  show (match inZ h (.ref i) [.ref j] with | some b=>Res.ok (D.bl (b != false)) h | none=>.bad)=_
  unfold inZ
  rw [z8z e ej]
  show Res.ok (D.bl ((T.isEmpty || false) != false)) h=_
  cases T.isEmpty<;>rfl
 ·have g:seqD (.ref c) h=.ok [] h:=by
   show getL c h=_
   unfold getL;rw [ec]
  unfold fInX
  rw [M.bind_ok g]
  rfl
theorem zh6 {M0:D}{w v:Str}{ps:List Nat}{o:D}{t li:Bool}{h:AH}(g:LR w v ps):W (z0Y [M0,lrD w v ps,o,.bl t,.bl li]) h fun d h'=>(∃ j,h'=h++j)/\PC (t == li) d h':=by
 have yn:fIn false (.str w) (.tup [.str "yes",.str "no"])=pure (.bl false):=by
  rw [show [D.str "yes",D.str "no"]=(["yes","no"]:List Str).map D.str from rfl,z2N,decide_eq_false (by rcases g.hw with rfl | rfl<;>decide)]
  rfl
 have rn:fIn false (.str w) c_RUNS=pure (.bl true):=by
  rw [z4j,decide_eq_true (by simpa using g.hw)]
  rfl
 have nm:decide (w = "mark")=false:=by rcases g.hw with rfl | rfl<;>rfl
 have z:W (runF 8 z0D [M0,lrD w v ps,o,.bl t,.bl li]) h fun d h1=>(t == li)=true/\d=.ref (h.length+1)/\h1=h++[.lst [],.lst [.ref h.length]]∨(t == li)=false/\d=.ref h.length/\h1=h++[.lst []]:=by
  refine z1I ?_
  show W (z0D [some M0,some (lrD w v ps),some o,some (.bl t),some (.bl li),none,none,none]) h _
  unfold z0D z0M
  refine z1R (.str w) [some M0,some (lrD w v ps),some o,some (.bl t),some (.bl li),some (.str w),none,none] (by simp only [List.getElem?_cons_succ,List.getElem?_cons_zero,Z8,e2,eVar,lr0]) rfl ?_
  refine q_if false (by simp only [List.getElem?_cons_succ,List.getElem?_cons_zero,List.length_cons,List.length_nil,Nat.reduceAdd,z9,aNil,q5,Z8,e2,eTup,eVar,if_true,z4a,yn]) ?_
  rw [if_neg (by decide)]
  refine z0m (q_if false (by simp only [List.getElem?_cons_succ,List.getElem?_cons_zero,q5,Z8,bne_self_eq_false,e2,eVar,z0C,nm]) ?_)
  rw [if_neg (by decide)]
  refine z0m (q_if true (by simp only [List.getElem?_cons_succ,List.getElem?_cons_zero,q5,Z8,e2,eVar,rn]) ?_)
  rw [if_pos rfl]
  refine z0T ?_
  have kk:(fun γ:G=>(do let d ← e2 (fEqX false) (eVar 3) (eVar 4) γ;asB d:M Bool)) [some M0,some (lrD w v ps),some o,some (.bl t),some (.bl li),some (.str w),none,none] h=.ok (t == li) h:=(cb_h (e2_h (j6 rfl) (j6 rfl) z6p)).trans (by cases t<;>cases li<;>rfl)
  cases ht:(t == li) with
  | true =>
   rw [ht] at kk
   exact Y9 _ ((z8j kk).trans (z3F z5T)) (.inl ⟨rfl,by simp,by simp⟩)
  | false =>
   rw [ht] at kk
   exact Y9 _ ((z64 kk).trans z5T) (.inr ⟨rfl,rfl,rfl⟩)
 obtain ⟨d,h1,e,⟨q,rfl,rfl⟩ | ⟨q,rfl,rfl⟩⟩:=z
 ·have a1:(h++[O.lst [],O.lst [.ref h.length]])[h.length+1]?=some (.lst [.ref h.length]):=by rw [List.getElem?_append_right (by omega),show h.length+1 - h.length=1 by omega];rfl
  have a0:(h++[O.lst [],O.lst [.ref h.length]])[h.length]?=some (.lst []):=am0
  refine z9N ⟨_,_,e,_,_,rfl,by omega,a1,?_,⟨_,rfl⟩,_,rfl,.inl ⟨q,_,a1,a0⟩⟩
  show (z01 h.length (.ref h.length) && _)=false
  simp [z01]
 ·exact W_of (z5v (j:=[.lst []]) e (Nat.le_refl _) z0c rfl) ⟨⟨_,rfl⟩,_,rfl,.inr ⟨q,z0c⟩⟩
theorem zg0 {w v:Str}{ps:List Nat}{t:Bool}(g:LR w v ps):z1E [lrD w v ps,.bl t]=pure (.bl (t == decide (w = "some"))):=by
 have rn:fIn false (.str w) c_RUNS=pure (.bl true):=by
  rw [z4j,decide_eq_true (by simpa using g.hw)]
  rfl
 unfold z1E
 rw [z0t,v3]
 show z2g [some (lrD w v ps),some (.bl t)]=_
 unfold z2g
 simp only [Bool.bne_false,List.getElem?_cons_succ,List.getElem?_cons_zero,q5,Z2,bNil,Z8,e2,eAnd,eVar,z2O,z0C,if_true,lr0,rn,sRet]
structure Cx9 (st:List (List Nat)) (mk:List (List Str)) (w v:Str) (ps:List Nat) (sy:List D) (m:Nat) (ss:List (List Nat)) (X:List Nat) (L:List Nd) (wl:List (Str×Str)):Prop where
 ma:MA st mk
 g:LR w v ps
 sl:sy.length=m+1
 eS:sy[m]?=some (lrD w v ps)
 eX:fIx (.tup (stsD ss)) (.int (m:Nat))=pure (.tup (stD X))
 ok:∀ n∈L,NdOk st.length w L.length n
 l1:1≤L.length
 l3:L.length≤3
 wk:wl.length≤1000
 wn:∀ q∈wl,q.2≠""
section
variable {st:List (List Nat)}{mk:List (List Str)}{w v:Str}{ps:List Nat}{sy:List D}{m:Nat}{ss:List (List Nat)}{X:List Nat}{L:List Nd}{wl:List (Str×Str)}
def T3 (m:Nat) (n:Nd):D:=.tup [.int (m:Nat),.int (n.one:Nat),.bl n.t]
theorem zm5 {m:Nat}{n:Nd}:fSl (ndD m n) none (some 3)=pure (T3 m n):=by
 unfold ndD
 rw [sl_tup,show (some (3:Int))=some ((3:Nat):Int) from rfl,z3x]
 rfl
theorem z8b {k:Nat}(hk:k<L.length):fIx (.tup (L.map (ndD m))) (.int (k:Nat))=pure (ndD m (L[k])):=ix_tup (z03 (by rw [List.getElem?_map,List.getElem?_eq_getElem hk];rfl))
theorem z75 (c:Cx9 st mk w v ps sy m ss X L wl) {n:Nd}(hn:n∈L):z1w [maD st mk,.tup sy,.tup (stsD ss),.tup (L.map (ndD m)),ndD m n,.tup (wl.map wD)]=pure (.bl (gd w X n)):=by
 have nk:=c.ok n hn
 have hX:=c.eX
 have hrow:fIx (.tup sy) (.int (m:Nat))=pure (lrD w v ps):=ix_tup (z03 c.eS)
 obtain ⟨T,eT,lT,hT⟩:∃ T:List D,(∀ (γ:G) (h:AH),γ[3]?=some (some (.tup (L.map (ndD m))))->γ[10]?=some (some (.tup (stD n.kid.toList)))->x8 [some 3,none] (Y6 (eVar 10)) (gN 1) (fun _=>pure true) (J9 (e2 fIx (eVar 0) (eVar 1)) z0d (z0e (fun _=>pure (.int 3)))) γ h=.ok (.ref h.length) (h++[.lst T]))/\T.length≤1/\T.isEmpty=n.kid.isNone:=by
  cases hk:n.kid with
  | none =>
   refine ⟨[],fun γ h q3 q10=>?_,by simp,rfl⟩
   rw [z2n (items:=[]) (fun _=>true) (fun d=>d) (by unfold Y6 eVar;rw [q10];rfl) (by simp) (by simp)]
   exact z2r (by simp)
  | some k =>
   have hkl:=nk.kid k hk
   refine ⟨[T3 m L[k]],fun γ h q3 q10=>?_,by simp,rfl⟩
   rw [z2n (items:=[.int (k:Nat)]) (fun _=>true) (fun _=>T3 m L[k]) (by unfold Y6 eVar;rw [q10];rfl) (by simp) fun d hd=>?_]
   ·exact z2r (by simp)
   ·obtain rfl:d=.int (k:Nat):=by simpa using hd
    exact ⟨[some (.tup (L.map (ndD m))),some (.int (k:Nat))],by unfold gN capG;simp [q3],rfl,fun _=>by simp only [List.getElem?_cons_succ,List.getElem?_cons_zero,Z8,e2,J9,eVar,z8b hkl,z0d,z0e,zm5]⟩
 unfold z1w
 refine z5m rfl fun h=>?_
 refine z1I ?_
 show W (z2x [some (maD st mk),some (.tup sy),some (.tup (stsD ss)),some (.tup (L.map (ndD m))),some (ndD m n),some (.tup (wl.map wD)),none,none,none,none,none,none,none]) h _
 unfold z2x z0M
 refine z1R (ndD m n) [some (maD st mk),some (.tup sy),some (.tup (stsD ss)),some (.tup (L.map (ndD m))),some (ndD m n),some (.tup (wl.map wD)),some (.int (m:Nat)),some (.int (n.one:Nat)),some (.bl n.t),some (runD n.run),some (.tup (stD n.kid.toList)),none,none] rfl rfl ?_
 refine z1R (lrD w v ps) [some (maD st mk),some (.tup sy),some (.tup (stsD ss)),some (.tup (L.map (ndD m))),some (ndD m n),some (.tup (wl.map wD)),some (.int (m:Nat)),some (.int (n.one:Nat)),some (.bl n.t),some (runD n.run),some (.tup (stD n.kid.toList)),some (lrD w v ps),none] (by simp only [List.getElem?_cons_succ,List.getElem?_cons_zero,Z8,e2,eVar,hrow]) rfl ?_
 refine z0p (.ref h.length) [some (maD st mk),some (.tup sy),some (.tup (stsD ss)),some (.tup (L.map (ndD m))),some (ndD m n),some (.tup (wl.map wD)),some (.int (m:Nat)),some (.int (n.one:Nat)),some (.bl n.t),some (runD n.run),some (.tup (stD n.kid.toList)),some (lrD w v ps),some (.ref h.length)] (eT _ _ rfl rfl) rfl ?_
 refine q_if (!(n.t == decide (w = "some"))) (by simp only [List.getElem?_cons_succ,List.getElem?_cons_zero,List.length_cons,List.length_nil,Nat.reduceAdd,z9,aNil,Z8,cNot,cVal,eFn,eVar,if_true,zg0 c.g,z0b]) ?_
 by_cases hs:n.t=decide (w = "some")
 ·rw [← hs,show (!(n.t == n.t))=false by simp,if_neg (by decide)]
  refine z0m ?_
  obtain ⟨hr,hk⟩:=nk.odd hs
  have gf:gd w X n=false:=by unfold gd;rw [← hs];simp
  rw [gf]
  obtain ⟨⟨p,r⟩,er⟩:=Option.isSome_iff_exists.mp hr
  obtain ⟨rn,s0⟩:=nk.run p r er
  rw [er,hk]
  obtain ⟨b,eb⟩:=zo1 rn c.ma
  obtain rfl:T=[]:=by rw [hk] at hT;simpa using hT
  have lr:=rn.l
  have ef:=zk1 (S:=.tup (stsD st)) (mk:=mk) (pa:=p) (ri:=r) (ws:=wl) (by omega) c.wk fun x hx=>by rw [c.ma.l3];exact rn.lt x (List.mem_append_right _ hx)
  have e0:J4 [rnD p r,.int 0]=pure (.int (n.one:Nat)):=by rw [← s0];exact zb2 (n:=0) rn.ne
  refine q_if ((!b) || !(z20 mk r wl)) ?_ ?_
  ·have ef':z13 [maD st mk,rnD p r,.tup (wl.map wD)]=pure (.bl (z20 mk r wl)):=ef
   have eq1:fEqX true (.int (n.one:Nat)) (.int (n.one:Nat))=pure (.bl false):=funext fun h=>(z4P (neg:=true) (z83 n.one n.one)).trans (by simp)
   have efp:eFnP 2 1 [] [] z13 (z9 (eVar 0) (z9 (eVar 9) aNil)) (z9 (eVar 5) aNil) [some (maD st mk),some (.tup sy),some (.tup (stsD ss)),some (.tup (L.map (ndD m))),some (ndD m n),some (.tup (wl.map wD)),some (.int (m:Nat)),some (.int (n.one:Nat)),some (.bl n.t),some (rnD p r),some (.tup (stD (none:Option Nat).toList)),some (lrD w v ps),some (.ref h.length)]=pure (.bl (z20 mk r wl)):=by
    unfold eFnP
    simp only [List.getElem?_cons_succ,List.getElem?_cons_zero,List.length_cons,List.length_nil,Nat.reduceAdd,z9,aNil,Z8,eVar]
    rw [if_pos ⟨trivial,trivial⟩]
    exact ef'
   simp only [Bool.false_eq_true,List.getElem?_cons_succ,List.getElem?_cons_zero,List.length_cons,List.length_nil,Nat.reduceAdd,z9,aNil,q5,Z8,cNot,cOr,cVal,e0,e2,eFn,eVar,eb,efp,eq1,if_false,if_true,runD,z0b]
   cases b<;>cases z20 mk r wl<;>rfl
  ·cases hb:((!b) || !(z20 mk r wl)) with
   | true =>
    rw [if_pos rfl]
    refine z0T ?_
    exact Y9 (.bl false) rfl ⟨rfl,[.lst []],rfl⟩
   | false =>
    rw [if_neg (by decide)]
    refine z0m ?_
    obtain ⟨d,h2,e2',⟨j,rfl⟩,nn⟩:=zo6 (h:=h++[.lst []]) c.g rn.ne (p:=p) (by omega)
    refine Y9 (.bl false) (e2_h (j6 rfl) (fn_h (ds:=[lrD w v ps,rnD p r,.int 0]) (ac_h (j6 rfl) (ac_h (j6 rfl) (ac_h (z0l (j6 rfl) rfl) rfl))) rfl e2') (zo0 (z05 z0c) nn)) ⟨rfl,[.lst []]++j,by simp⟩
 ·rw [show (n.t == decide (w = "some"))=false from beq_eq_false_iff_ne.mpr hs,if_pos (by decide)]
  refine z0T ?_
  have gf:gd w X n=(n.run.isNone && (n.kid.isNone && (n.t == decide (n.one∈X)))):=by unfold gd;rw [beq_eq_false_iff_ne.mpr hs];rfl
  rw [gf]
  cases hr:n.run with
  | some pr =>
   obtain ⟨p,r⟩:=pr
   refine Y9 (h1:=h++[.lst T]) (.bl false) ?_ ⟨rfl,_,rfl⟩
   exact z4w (e2_h (x:=rnD p r) (j6 rfl) (y:=.non) rfl rfl)
  | none =>
   obtain ⟨d,h2,e2',⟨j,rfl⟩,pc⟩:=zh6 (M0:=maD st mk) (o:=.int (n.one:Nat)) (t:=n.t) (li:=decide (n.one∈X)) (h:=h++[.lst T]) c.g
   refine Y9 (h1:=h++[.lst T]++j) (.bl (n.kid.isNone && (n.t == decide (n.one∈X)))) ?_ ⟨rfl,[.lst T]++j,by simp⟩
   refine (z49 (e2_h (x:=.non) (j6 rfl) (y:=.non) rfl rfl)).trans ?_
   refine (e2_h (j6 rfl) (fn_h (ds:=[maD st mk,lrD w v ps,.int (n.one:Nat),.bl n.t,.bl (decide (n.one∈X))]) (ac_h (j6 rfl) (ac_h (j6 rfl) (ac_h (j6 rfl) (ac_h (j6 rfl) (ac_h (e2_h (j6 rfl) (e2_h (j6 rfl) (j6 rfl) (by rw [hX];rfl)) (by rw [z73];cases decide (n.one∈X)<;>rfl)) rfl))))) rfl e2') (zn1 (z05 z0c) pc)).trans ?_
   rw [hT]
   cases n.kid.isNone<;>cases (n.t == decide (n.one∈X))<;>rfl
end
def runOf:D->Option (List Nat×List Nat)
 | .tup [.tup p,.tup r]=>some (p.map numD,r.map numD)
 | _=>none
def ndOf:D->Nd
 | .tup [_,.int o,.bl t,run,.tup k]=>⟨o.toNat,t,runOf run,(k.map numD).head?⟩
 | _=>⟨0,false,none,none⟩
theorem z7Q (l:List Nat):(stD l).map numD=l:=by
 unfold stD
 rw [List.map_map]
 conv=>rhs;rw [← List.map_id l]
 refine List.map_congr_left fun x _=>rfl
theorem z5x (m:Nat) (n:Nd):ndOf (ndD m n)=n:=by
 obtain ⟨o,t,r,k⟩:=n
 show Nd.mk ((o:Int)).toNat t (runOf (runD r)) ((stD k.toList).map numD).head?=_
 rw [z7Q]
 have h1:runOf (runD r)=r:=by
  cases r with
  | none=>rfl
  | some pr =>
   obtain ⟨p,r⟩:=pr
   show some ((stD p).map numD,(stD r).map numD)=_
   rw [z7Q,z7Q]
 have h2:k.toList.head?=k:=by cases k<;>rfl
 rw [h1,h2]
 rfl
section
variable {st:List (List Nat)}{mk:List (List Str)}{w v:Str}{ps:List Nat}{sy:List D}{m:Nat}{ss:List (List Nat)}{X:List Nat}{L:List Nd}{wl:List (Str×Str)}
theorem za4 (f:Nd->Bool):(L.map (ndD m)).all (fun d=>f (ndOf d))=L.all f:=by
 rw [List.all_map]
 congr 1
 funext n
 show f (ndOf (ndD m n))=f n
 rw [z5x]
theorem z9s (c:Cx9 st mk w v ps sy m ss X L wl) {n:Nd}(hn:n∈L):z1T [maD st mk,.tup sy,ndD m n,.int (L.length:Nat)]=pure (.bl true):=by
 have nk:=c.ok n hn
 have sl:=c.sl
 have n1:=nk.one
 unfold z1T
 rw [z0t,v3]
 show z2Y [some (maD st mk),some (.tup sy),some (ndD m n),some (.int (L.length:Nat)),none,none,none,none,none]=_
 unfold z2Y
 have e:=z2Q (γ:=[some (maD st mk),some (.tup sy),some (ndD m n),some (.int (L.length:Nat)),some (.int (m:Nat)),some (.int (n.one:Nat)),some (.bl n.t),some (runD n.run),some (.tup (stD n.kid.toList))]) (cap:=[some 3,none]) (mi:=Y6 (eVar 8)) (g:=gN 1) (k:=fun _=>pure true) (me:=eFn 3 J1 (z9 (eVar 1) (z9 (fun _=>pure (.int 0)) (z9 (e2 fSub (eVar 0) (fun _=>pure (.int 1))) aNil)))) (items:=stD n.kid.toList) false (fun _=>true) (fun _=>true) rfl (by rw [Y2];cases n.kid<;>simp) fun d hd=>?_
 ·refine (p_if false ?_).trans ?_
  ·have:=zt6 (.int (m:Nat)) (.int (n.one:Nat)) (.bl n.t) (runD n.run) (.tup (stD n.kid.toList))
   simp only [Bool.not_true,List.getElem?_cons_succ,List.getElem?_cons_zero,List.length_cons,List.length_nil,Nat.reduceAdd,z9,aNil,Z8,cNot,cVal,eFn,eVar,if_true,ndD,this,z0b]
  rw [if_neg (by decide),z3b,z87 (ndD m n) [some (maD st mk),some (.tup sy),some (ndD m n),some (.int (L.length:Nat)),some (.int (m:Nat)),some (.int (n.one:Nat)),some (.bl n.t),some (runD n.run),some (.tup (stD n.kid.toList))] rfl rfl]
  refine (p_if false ?_).trans ?_
  ·simp only [Bool.false_eq_true,Bool.not_true,List.getElem?_cons_succ,List.getElem?_cons_zero,List.length_cons,List.length_nil,Nat.reduceAdd,z9,aNil,Z8,cNot,cOr,cVal,e2,j3,eFn,eVar,z6t (i:=(m:Int)) (a:=0) (b:=((m+1:Nat):Int) - 1) (by omega) (by omega),z6t (i:=(n.one:Int)) (a:=0) (b:=(st.length:Int) - 1) (by omega) (by omega),if_false,if_true,z2L,Y3,sl,z1y,z1J,z0b]
  rw [if_neg (by decide),z3b]
  refine z2W _ ?_
  rw [zb1 (by simp only [List.getElem?_cons_succ,List.getElem?_cons_zero,List.length_cons,List.length_nil,Nat.reduceAdd,z9,aNil,Z8,eFn,eVar,if_true,zi2]),zb1 (by simp only [List.getElem?_cons_succ,List.getElem?_cons_zero,List.length_cons,List.length_nil,Nat.reduceAdd,z9,aNil,Z8,eFn,eVar,if_true,z4b]),e,filter_tt,if_neg (by decide)]
  rw [List.all_eq_true.mpr fun _ _=>rfl]
 ·obtain ⟨x,hx,rfl⟩:=z59 hd
  have hk:n.kid=some x:=by
   cases hk:n.kid with
   | none=>rw [hk] at hx;simp at hx
   | some k=>rw [hk] at hx;simp at hx;rw [hx]
  have:=nk.kid x hk
  refine ⟨[some (.int (L.length:Nat)),some (.int (x:Nat))],by simp only [List.getElem?_cons_succ,List.getElem?_cons_zero,List.map_cons,List.map_nil,List.set_cons_succ,List.set_cons_zero,Option.join_some,capG,gN],rfl,fun _=>?_⟩
  simp only [List.getElem?_cons_succ,List.getElem?_cons_zero,List.length_cons,List.length_nil,Nat.reduceAdd,z9,aNil,Z8,e2,eFn,eVar,z6t (i:=(x:Int)) (a:=0) (b:=(L.length:Int) - 1) (by omega) (by omega),if_true,z1J]
theorem z7n (c:Cx9 st mk w v ps sy m ss X L wl):y9 [maD st mk,.tup sy,.tup (stsD ss),.tup (L.map (ndD m)),.tup (wl.map wD)]=pure (.bl (L.all (gd w X))):=by
 have l1:=c.l1
 have l3:=c.l3
 unfold y9
 rw [z0t,v3]
 show z1K [some (maD st mk),some (.tup sy),some (.tup (stsD ss)),some (.tup (L.map (ndD m))),some (.tup (wl.map wD))]=_
 unfold z1K
 have e1:=z2Q (γ:=[some (maD st mk),some (.tup sy),some (.tup (stsD ss)),some (.tup (L.map (ndD m))),some (.tup (wl.map wD))]) (cap:=[some 0,some 1,some 3,none]) (mi:=Y6 (eVar 3)) (g:=gN 3) (k:=fun _=>pure true) (me:=eFn 4 z1T (z9 (eVar 0) (z9 (eVar 1) (z9 (eVar 3) (z9 (j3 fLen (z9 (eVar 2) aNil)) aNil))))) (items:=L.map (ndD m)) false (fun _=>true) (fun _=>true) rfl (by rw [List.length_map];omega) fun d hd=>?_
 ·have e2:=z2Q (γ:=[some (maD st mk),some (.tup sy),some (.tup (stsD ss)),some (.tup (L.map (ndD m))),some (.tup (wl.map wD))]) (cap:=[some 0,some 1,some 2,some 3,some 4,none]) (mi:=Y6 (eVar 3)) (g:=gN 5) (k:=fun _=>pure true) (me:=eFn 6 z1w (z9 (eVar 0) (z9 (eVar 1) (z9 (eVar 2) (z9 (eVar 3) (z9 (eVar 5) (z9 (eVar 4) aNil))))))) (items:=L.map (ndD m)) false (fun _=>true) (fun d=>gd w X (ndOf d)) rfl (by rw [List.length_map];omega) fun d hd=>?_
  ·refine (p_if false ?_).trans ?_
   ·simp only [Bool.false_eq_true,Bool.not_true,FT.e2,List.getElem?_cons_succ,List.getElem?_cons_zero,List.length_cons,List.length_map,List.length_nil,Nat.reduceAdd,z9,aNil,q5,Z8,bne_self_eq_false,cNot,cOr,cVal,decide_eq_false (show ¬(L.length:Int)=0 by omega),j3,eFn,eVar,z2E,if_false,if_true,z4b,Y3,z0b]
   rw [if_neg (by decide),z3b]
   refine (p_if false ?_).trans ?_
   ·unfold cNot cVal
    rw [e1,filter_tt,if_neg (by decide),List.all_eq_true.mpr fun _ _=>rfl]
    rfl
   rw [if_neg (by decide),z3b,z2W _ e2,filter_tt,if_neg (by decide),za4]
  ·obtain ⟨n,hn,rfl⟩:=List.mem_map.mp hd
   refine ⟨[some (maD st mk),some (.tup sy),some (.tup (stsD ss)),some (.tup (L.map (ndD m))),some (.tup (wl.map wD)),some (ndD m n)],by simp only [List.getElem?_cons_succ,List.getElem?_cons_zero,List.map_cons,List.map_nil,List.set_cons_succ,List.set_cons_zero,Option.join_some,capG,gN],rfl,fun _=>?_⟩
   rw [z5x]
   simp only [List.getElem?_cons_succ,List.getElem?_cons_zero,List.length_cons,List.length_nil,Nat.reduceAdd,z9,aNil,Z8,eFn,eVar,if_true,z75 c hn]
 ·obtain ⟨n,hn,rfl⟩:=List.mem_map.mp hd
  refine ⟨[some (maD st mk),some (.tup sy),some (.tup (L.map (ndD m))),some (ndD m n)],by simp only [List.getElem?_cons_succ,List.getElem?_cons_zero,List.map_cons,List.map_nil,List.set_cons_succ,List.set_cons_zero,Option.join_some,capG,gN],rfl,fun _=>?_⟩
  simp only [List.getElem?_cons_succ,List.getElem?_cons_zero,List.length_cons,List.length_map,List.length_nil,Nat.reduceAdd,z9,aNil,Z8,j3,eFn,eVar,if_true,z9s c hn,Y3]
end
section
variable {st:List (List Nat)}{mk:List (List Str)}{w v:Str}{ps:List Nat}{sy:List D}{m:Nat}{ss:List (List Nat)}{X:List Nat}{L:List Nd}{wl:List (Str×Str)}
theorem ixn0 {n:Nd}:fIx (ndD m n) (.int 0)=pure (.int (m:Nat)):=ix_tup (z03 (j:=0) rfl)
theorem ixn1 {n:Nd}:fIx (ndD m n) (.int 1)=pure (.int (n.one:Nat)):=ix_tup (z03 (j:=1) rfl)
theorem ixn2 {n:Nd}:fIx (ndD m n) (.int 2)=pure (.bl n.t):=ix_tup (z03 (j:=2) rfl)
theorem ixn3 {n:Nd}:fIx (ndD m n) (.int 3)=pure (runD n.run):=ix_tup (z03 (j:=3) rfl)
theorem ixn4 {n:Nd}:fIx (ndD m n) (.int 4)=pure (.tup (stD n.kid.toList)):=ix_tup (z03 (j:=4) rfl)
theorem zy6 {p r:List Nat}{neg:Bool}:fIs neg (rnD p r) .non=pure (.bl (false != neg)):=rfl
theorem zB8 {neg:Bool}:fIs neg .non .non=pure (.bl (true != neg)):=rfl
theorem zu9 (c:Cx9 st mk w v ps sy m ss X L wl) {n:Nd}(hn:n∈L):∃ b,z0f [maD st mk,.tup sy,.tup (wl.map wD),ndD m n,.int (L.length:Nat)]=pure (.bl b)/\(n.run=none->b=true):=by
 have nk:=c.ok n hn
 have sl:=c.sl
 have n1:=nk.one
 have t5:Y5 [ndD m n,.int 5,.int 5]=pure (.bl true):=z4o (m:=5) (n:=5) (Nat.le_refl _) (Nat.le_refl _)
 have nu1:J8 [.int (m:Nat),.int 0,.int ((m+1:Nat):Int)]=pure (.bl true):=z3t (by omega)
 have nu2:J8 [.int (n.one:Nat),.int 0,.int (st.length:Nat)]=pure (.bl true):=z3t n1
 have tail:∀ h,W (Z2 (sIf (cNot (cVal (eIsi "tuple" (e2 fIx (eVar 3) (fun _=>pure (.int 4)))))) (Z2 (sRet (fun _=>pure (.bl false))) bNil) bNil) (Z2 (sRet (clE (e2 (fEqX false) (x8 [some 4,none] (Y6 (e2 fIx (eVar 3) (fun _=>pure (.int 4)))) (gN 1) (cNot (cVal (eFn 3 J8 (z9 (eVar 1) (z9 (fun _=>pure (.int 0)) (z9 (eVar 0) aNil)))))) (eVar 1)) (eLst aNil)))) bNil) [some (maD st mk),some (.tup sy),some (.tup (wl.map wD)),some (ndD m n),some (.int (L.length:Nat))]) h (runW fun d h'=>d=.bl true/\∃ j,h'=h++j):=fun h=>by
  refine q_if false (by simp only [List.getElem?_cons_succ,List.getElem?_cons_zero,Z8,cNot,cVal,e2,eIsi,eVar,z2s,ixn4,z0b]<;>rfl) ?_
  rw [if_neg (by decide)]
  refine z0m ?_
  refine Y9 (h1:=h) (.bl true) ?_ ⟨rfl,[],by simp⟩
  have e:=z2n (γ:=[some (maD st mk),some (.tup sy),some (.tup (wl.map wD)),some (ndD m n),some (.int (L.length:Nat))]) (cap:=[some 4,none]) (mi:=Y6 (e2 fIx (eVar 3) (fun _=>pure (.int 4)))) (g:=gN 1) (k:=cNot (cVal (eFn 3 J8 (z9 (eVar 1) (z9 (fun _=>pure (.int 0)) (z9 (eVar 0) aNil)))))) (me:=eVar 1) (items:=stD n.kid.toList) (fun _=>false) (fun d=>d) (z3G (by simp only [List.getElem?_cons_succ,List.getElem?_cons_zero,Z8,e2,eVar,ixn4])) (by rw [Y2];cases n.kid<;>simp) fun d hd=>?_
  ·rw [show (stD n.kid.toList).filter (fun _=>false)=[] from List.filter_eq_nil_iff.mpr (by simp),List.map_nil] at e
   refine (congrFun (z9v (v:=.bl true) rfl fun h=>?_) h).trans rfl
   refine ⟨_,_,z4C (neg:=false) (congrFun e h) (by simp),by simp,_,by rw [List.append_assoc]⟩
  ·obtain ⟨x,hx,rfl⟩:=z59 hd
   have hk:n.kid=some x:=by
    cases hk:n.kid with
    | none=>rw [hk] at hx;simp at hx
    | some k=>rw [hk] at hx;simp at hx;rw [hx]
   exact ⟨[some (.int (L.length:Nat)),some (.int (x:Nat))],by simp only [List.getElem?_cons_succ,List.getElem?_cons_zero,List.map_cons,List.map_nil,List.set_cons_succ,List.set_cons_zero,Option.join_some,capG,gN],by simp only [Bool.not_true,List.getElem?_cons_succ,List.getElem?_cons_zero,List.length_cons,List.length_nil,Nat.reduceAdd,z9,aNil,Z8,cNot,cVal,eFn,eVar,if_true,z3t (nk.kid x hk),z0b],fun q=>by cases q⟩
 have head:∀ (b:Bool),(∀ h,W (Z2 (sIf (fun γ=>do let d ← e2 (fIs true) (e2 fIx (eVar 3) (fun _=>pure (.int 3))) (fun _=>pure .non) γ;asB d) (Z2 (sIf (cOr (cNot (cVal (eFn 2 z0s (z9 (eVar 0) (z9 (e2 fIx (eVar 3) (fun _=>pure (.int 3))) aNil))))) (cNot (cVal (eFn 3 v5 (z9 (eVar 0) (z9 (e2 fIx (e2 fIx (eVar 3) (fun _=>pure (.int 3))) (fun _=>pure (.int 1))) (z9 (eVar 2) aNil))))))) (Z2 (sRet (fun _=>pure (.bl false))) bNil) bNil) (Z2 (sIf (fun γ=>do let d ← e2 (fEqX true) (eFn 2 z0a (z9 (e2 fIx (eVar 3) (fun _=>pure (.int 3))) (z9 (fun _=>pure (.int 0)) aNil))) (e2 fIx (eVar 3) (fun _=>pure (.int 1))) γ;asB d) (Z2 (sRet (fun _=>pure (.bl false))) bNil) bNil) bNil)) bNil) (Z2 (sIf (cNot (cVal (eIsi "tuple" (e2 fIx (eVar 3) (fun _=>pure (.int 4)))))) (Z2 (sRet (fun _=>pure (.bl false))) bNil) bNil) (Z2 (sRet (clE (e2 (fEqX false) (x8 [some 4,none] (Y6 (e2 fIx (eVar 3) (fun _=>pure (.int 4)))) (gN 1) (cNot (cVal (eFn 3 J8 (z9 (eVar 1) (z9 (fun _=>pure (.int 0)) (z9 (eVar 0) aNil)))))) (eVar 1)) (eLst aNil)))) bNil)) [some (maD st mk),some (.tup sy),some (.tup (wl.map wD)),some (ndD m n),some (.int (L.length:Nat))]) h (runW fun d h'=>d=.bl b/\∃ j,h'=h++j))->z0f [maD st mk,.tup sy,.tup (wl.map wD),ndD m n,.int (L.length:Nat)]=pure (.bl b):=fun b z=>by
  unfold z0f
  refine z5m rfl fun h=>?_
  refine z1I ?_
  show W (z0Q [some (maD st mk),some (.tup sy),some (.tup (wl.map wD)),some (ndD m n),some (.int (L.length:Nat))]) h _
  unfold z0Q
  refine q_if false (by simp only [Bool.false_eq_true,Bool.not_true,List.getElem?_cons_succ,List.getElem?_cons_zero,List.length_cons,List.length_nil,Nat.reduceAdd,z9,aNil,Z8,cNot,cOr,cVal,e2,j3,eFn,eVar,if_false,if_true,ixn0,Y3,nu1,sl,t5,z0b]) ?_
  rw [if_neg (by decide)]
  refine z0m (q_if false (by simp only [Bool.false_eq_true,Bool.not_true,List.getElem?_cons_succ,List.getElem?_cons_zero,List.length_cons,List.length_nil,Nat.reduceAdd,z9,aNil,Z8,cNot,cOr,cVal,e2,j3,eFn,eIsi,eVar,if_false,if_true,z4J,z2L,ixn1,ixn2,Y3,nu2,z1y,z0b]<;>rfl) ?_)
  rw [if_neg (by decide)]
  exact z0m (z h)
 cases hr:n.run with
 | none =>
  refine ⟨true,head true fun h=>?_,fun _=>rfl⟩
  refine q_if false (by simp only [List.getElem?_cons_succ,List.getElem?_cons_zero,q5,Z8,bne_self_eq_false,e2,eVar,hr,zB8,ixn3,runD]<;>rfl) ?_
  rw [if_neg (by decide)]
  exact z0m (tail h)
 | some pr =>
  obtain ⟨p,r⟩:=pr
  obtain ⟨rn,s0⟩:=nk.run p r hr
  have lr:=rn.l
  obtain ⟨b,eb⟩:=zp7 (mk:=mk) rn
  have ef:v5 [maD st mk,.tup (stD r),.tup (wl.map wD)]=pure (.bl (z20 mk r wl)):=ze3 (S:=.tup (stsD st)) (by omega) c.wk (fun x hx=>by rw [c.ma.l3];exact rn.lt x (List.mem_append_right _ hx)) c.wn
  have e0:z0a [rnD p r,.int 0]=pure (.int (n.one:Nat)):=by rw [← s0];exact za9 (n:=0) rn.ne
  have eq1:fEqX true (.int (n.one:Nat)) (.int (n.one:Nat))=pure (.bl false):=funext fun h=>(z4P (neg:=true) (z83 n.one n.one)).trans (by simp)
  have r1:fIx (rnD p r) (.int 1)=pure (.tup (stD r)):=ix_tup (z03 (j:=1) rfl)
  refine ⟨b && z20 mk r wl,head _ fun h=>?_,fun q=>by cases q⟩
  refine q_if true (by simp only [Bool.bne_true,Bool.not_false,List.getElem?_cons_succ,List.getElem?_cons_zero,q5,Z8,e2,eVar,hr,zy6,ixn3,runD]<;>rfl) ?_
  rw [if_pos rfl]
  refine z0T ?_
  refine q_if ((!b) || !(z20 mk r wl)) ?_ ?_
  ·simp only [List.getElem?_cons_succ,List.getElem?_cons_zero,List.length_cons,List.length_nil,Nat.reduceAdd,z9,aNil,Z8,cNot,cOr,cVal,e2,eFn,eVar,eb,ef,hr,if_true,ixn3,r1,runD,z0b]<;>cases b<;>cases z20 mk r wl<;>rfl
  cases hb:(b && z20 mk r wl) with
  | false =>
   rw [show ((!b) || !(z20 mk r wl))=true by revert hb;cases b<;>cases z20 mk r wl<;>simp,if_pos rfl]
   refine z0T ?_
   exact Y9 (.bl false) rfl ⟨rfl,[],by simp⟩
  | true =>
   rw [show ((!b) || !(z20 mk r wl))=false by revert hb;cases b<;>cases z20 mk r wl<;>simp,if_neg (by decide)]
   refine z0m (z0T (q_if false ?_ ?_))
   ·simp only [List.getElem?_cons_succ,List.getElem?_cons_zero,List.length_cons,List.length_nil,Nat.reduceAdd,z9,aNil,q5,Z8,e0,e2,eFn,eVar,eq1,hr,if_true,ixn1,ixn3,runD]
   rw [if_neg (by decide)]
   exact z0m (z0m (tail h))
theorem z9x (c:Cx9 st mk w v ps sy m ss X L wl) {n:Nd}(hn:n∈L):Y7 [maD st mk,.tup sy,.tup (stsD ss),.tup (L.map (ndD m)),ndD m n]=pure (.bl (gd w X n)):=by
 have nk:=c.ok n hn
 have hX:=c.eX
 have hrow:fIx (.tup sy) (.int (m:Nat))=pure (lrD w v ps):=ix_tup (z03 c.eS)
 obtain ⟨T,eT,lT,hT,fT⟩:∃ T:List D,(∀ (γ:G) (h:AH),γ[3]?=some (some (.tup (L.map (ndD m))))->γ[9]?=some (some (.tup (stD n.kid.toList)))->x8 [some 3,none] (Y6 (eVar 9)) (gN 1) (fun _=>pure true) (J9 (e2 fIx (eVar 0) (eVar 1)) z0d (z0e (fun _=>pure (.int 3)))) γ h=.ok (.ref h.length) (h++[.lst T]))/\T.length≤1/\T.isEmpty=n.kid.isNone/\∀ d∈T,∃ k,d=T3 m k:=by
  cases hk:n.kid with
  | none =>
   refine ⟨[],fun γ h q3 q10=>?_,by simp,rfl,by simp⟩
   rw [z2n (items:=[]) (fun _=>true) (fun d=>d) (by unfold Y6 eVar;rw [q10];rfl) (by simp) (by simp)]
   exact z2r (by simp)
  | some k =>
   have hkl:=nk.kid k hk
   refine ⟨[T3 m L[k]],fun γ h q3 q10=>?_,by simp,rfl,fun d hd=>⟨L[k],by simpa using hd⟩⟩
   rw [z2n (items:=[.int (k:Nat)]) (fun _=>true) (fun _=>T3 m L[k]) (by unfold Y6 eVar;rw [q10];rfl) (by simp) fun d hd=>?_]
   ·exact z2r (by simp)
   ·obtain rfl:d=.int (k:Nat):=by simpa using hd
    exact ⟨[some (.tup (L.map (ndD m))),some (.int (k:Nat))],by unfold gN capG;simp [q3],rfl,fun _=>by simp only [List.getElem?_cons_succ,List.getElem?_cons_zero,Z8,e2,J9,eVar,z8b hkl,z0d,z0e,zm5]⟩
 unfold Y7
 refine z5m rfl fun h=>?_
 refine z1I ?_
 show W (z0F [some (maD st mk),some (.tup sy),some (.tup (stsD ss)),some (.tup (L.map (ndD m))),some (ndD m n),none,none,none,none,none,none,none]) h _
 unfold z0F z0M
 refine z1R (ndD m n) [some (maD st mk),some (.tup sy),some (.tup (stsD ss)),some (.tup (L.map (ndD m))),some (ndD m n),some (.int (m:Nat)),some (.int (n.one:Nat)),some (.bl n.t),some (runD n.run),some (.tup (stD n.kid.toList)),none,none] rfl rfl ?_
 refine z0p (.ref h.length) [some (maD st mk),some (.tup sy),some (.tup (stsD ss)),some (.tup (L.map (ndD m))),some (ndD m n),some (.int (m:Nat)),some (.int (n.one:Nat)),some (.bl n.t),some (runD n.run),some (.tup (stD n.kid.toList)),some (.ref h.length),none] (eT _ _ rfl rfl) rfl ?_
 have t0:(h++[O.lst T])[h.length]?=some (.lst T):=z0c
 have cmp:=z4F (cap:=[some 5,none]) (mi:=z1g (eVar 10)) (g:=gN 1) (k:=fun γ=>do let d ← e2 fGe (e2 fIx (eVar 1) (fun _=>pure (.int 0))) (eVar 0) γ;asB d) (me:=eVar 1) (γ:=[some (maD st mk),some (.tup sy),some (.tup (stsD ss)),some (.tup (L.map (ndD m))),some (ndD m n),some (.int (m:Nat)),some (.int (n.one:Nat)),some (.bl n.t),some (runD n.run),some (.tup (stD n.kid.toList)),some (.ref h.length),none]) (h:=h++[.lst T]) (fun _=>true) (fun d=>d) (z7d (j6 rfl) t0) (fun j=>z05 t0) (by show T.length≤_;omega) fun d hd=>by
  obtain ⟨k,rfl⟩:=fT d hd
  refine ⟨[some (.int (m:Nat)),some (T3 m k)],by simp only [List.getElem?_cons_succ,List.getElem?_cons_zero,List.map_cons,List.map_nil,List.set_cons_succ,List.set_cons_zero,Option.join_some,capG,gN],?_,fun _=>rfl⟩
  unfold T3
  simp only [List.getElem?_cons_succ,List.getElem?_cons_zero,q5,Z8,decide_eq_true (Int.le_refl (m:Int)),e2,eVar,z4f,ix0]
 rw [filter_tt,List.map_id'] at cmp
 have hT2:=z4C (neg:=true) cmp (by show T.length≤_;omega)
 refine zd6 (!n.kid.isNone) ?_ ?_
 ·refine z9E (j:=[.lst T]++[.lst []]) ?_
  refine (cb_h hT2).trans ?_
  rw [show (Src.lst h.length T).items=T from rfl,hT,List.append_assoc (h++[O.lst T])]
  cases n.kid.isNone<;>rfl
 cases hk:n.kid with
 | some k =>
  rw [show (!(some k:Option Nat).isNone)=true from rfl,if_pos rfl]
  refine z0T ?_
  have gf:gd w X n=false:=by unfold gd;rw [hk];simp
  rw [gf]
  exact Y9 (.bl false) rfl ⟨rfl,_,rfl⟩
 | none =>
  rw [show (!(none:Option Nat).isNone)=false from rfl,if_neg (by decide)]
  refine z0m ?_
  obtain rfl:T=[]:=by rw [hk] at hT;simpa using hT
  refine z1R (lrD w v ps) [some (maD st mk),some (.tup sy),some (.tup (stsD ss)),some (.tup (L.map (ndD m))),some (ndD m n),some (.int (m:Nat)),some (.int (n.one:Nat)),some (.bl n.t),some (runD n.run),some (.tup (stD (none:Option Nat).toList)),some (.ref h.length),some (lrD w v ps)] (by simp only [List.getElem?_cons_succ,List.getElem?_cons_zero,Z8,e2,eVar,hrow]) rfl ?_
  have wa:decide (w = "all") = !(decide (w = "some")):=by rcases c.g.hw with rfl | rfl<;>rfl
  refine q_if false ?_ ?_
  ·rcases c.g.hw with rfl | rfl
   ·simp only [Bool.bne_true,Bool.false_eq_true,List.getElem?_cons_succ,List.getElem?_cons_zero,q5,Z8,bne_self_eq_false,cAnd,decide_true,e2,eVar,z0C,if_false,lr0]<;>rfl
   ·simp only [Bool.bne_true,List.getElem?_cons_succ,List.getElem?_cons_zero,q5,Z8,bne_self_eq_false,cAnd,decide_true,e2,eVar,z0C,lr0]<;>rfl
  rw [if_neg (by decide)]
  refine z0m ?_
  refine q_if (n.t == decide (w = "all")) ?_ ?_
  ·simp only [Bool.bne_false,List.getElem?_cons_succ,List.getElem?_cons_zero,q5,Z8,e2,eVar,z2O,z0C,lr0]<;>cases n.t<;>cases decide (w = "all")<;>rfl
  by_cases hs:n.t=decide (w = "some")
  ·have hf:(n.t == decide (w = "all"))=false:=by rw [wa,hs];cases decide (w = "some")<;>rfl
   rw [hf,if_neg (by decide)]
   refine z0m ?_
   have gf:gd w X n=false:=by unfold gd;rw [← hs];simp
   rw [gf]
   obtain ⟨hr,_⟩:=nk.odd hs
   obtain ⟨⟨p,r⟩,er⟩:=Option.isSome_iff_exists.mp hr
   obtain ⟨rn,s0⟩:=nk.run p r er
   have lr:=rn.l
   rw [er]
   refine Y9 (h1:=h++[.lst []]) (.bl false) ?_ ⟨rfl,_,rfl⟩
   refine (z49 (e2_h (x:=rnD p r) (j6 rfl) (y:=.non) rfl rfl)).trans ?_
   exact fn_h (ds:=[lrD w v ps,rnD p r,.bl n.t,.ref h.length]) (ac_h (j6 rfl) (ac_h (j6 rfl) (ac_h (j6 rfl) (ac_h (j6 rfl) rfl)))) rfl (zi8 c.g rn.ne (by omega) t0)
  ·have hf:(n.t == decide (w = "all"))=true:=by
    rw [wa,beq_iff_eq]
    revert hs
    cases n.t<;>cases decide (w = "some")<;>simp
   rw [hf,if_pos rfl]
   refine z0T ?_
   have gf:gd w X n=(n.run.isNone && (n.t == decide (n.one∈X))):=by unfold gd;rw [beq_eq_false_iff_ne.mpr hs,hk];simp
   rw [gf]
   cases hr:n.run with
   | some pr =>
    obtain ⟨p,r⟩:=pr
    refine Y9 (h1:=h++[.lst []]) (.bl false) ?_ ⟨rfl,_,rfl⟩
    exact z4w (e2_h (x:=rnD p r) (j6 rfl) (y:=.non) rfl rfl)
   | none =>
    refine Y9 (h1:=h++[.lst []]) (.bl (n.t == decide (n.one∈X))) ?_ ⟨rfl,_,rfl⟩
    refine (z49 (e2_h (x:=.non) (j6 rfl) (y:=.non) rfl rfl)).trans ?_
    have c1:clE (e2 (fEqX false) (eVar 10) (eLst aNil)) [some (maD st mk),some (.tup sy),some (.tup (stsD ss)),some (.tup (L.map (ndD m))),some (ndD m n),some (.int (m:Nat)),some (.int (n.one:Nat)),some (.bl n.t),some (runD none),some (.tup (stD (none:Option Nat).toList)),some (.ref h.length),some (lrD w v ps)] (h++[.lst []])=.ok (.bl true) (h++[.lst []]):=by
     refine z4K (j:=[.lst []]) (e2_h (j6 rfl) z5T ?_) rfl
     exact z4P (neg:=false) (z8z (T:=[]) z0c (z05 t0))
    refine (z49 c1).trans ?_
    refine (e2_h (j6 rfl) (y:=.bl (decide (n.one∈X))) (e2_h (j6 rfl) (e2_h (j6 rfl) (j6 rfl) (by rw [hX];rfl)) (by rw [z73];cases decide (n.one∈X)<;>rfl)) z6p).trans ?_
    cases (n.t == decide (n.one∈X))<;>rfl
theorem z5C (c:Cx9 st mk w v ps sy m ss X L wl):w8 [maD st mk,.tup sy,.tup (stsD ss),.tup (wl.map wD),.tup (L.map (ndD m))]=pure (.bl (L.all (gd w X))):=by
 have l1:=c.l1
 have l3:=c.l3
 unfold w8
 refine z5m rfl fun h=>?_
 refine z1I ?_
 show W (z0G [some (maD st mk),some (.tup sy),some (.tup (stsD ss)),some (.tup (wl.map wD)),some (.tup (L.map (ndD m))),none]) h _
 unfold z0G
 refine q_if false ?_ ?_
 ·simp only [List.getElem?_cons_succ,List.getElem?_cons_zero,List.length_map,z9,aNil,q5,Z8,bne_self_eq_false,cNot,cOr,cVal,decide_eq_false (show ¬(L.length:Int)=0 by omega),e2,j3,eIsi,eVar,z2E,z2s,Y3,z0b]<;>rfl
 rw [if_neg (by decide)]
 refine z0m ?_
 refine z6V (fun γ h'=>∃ x,γ=[some (maD st mk),some (.tup sy),some (.tup (stsD ss)),some (.tup (wl.map wD)),some (.tup (L.map (ndD m))),x]/\h'=h) ?_ ?_
 ·refine z4g (fun k γ h'=>∃ x,γ=[some (maD st mk),some (.tup sy),some (.tup (stsD ss)),some (.tup (wl.map wD)),some (.tup (L.map (ndD m))),x]/\h'=h) (fun d h'=>d=.bl false/\h'=h/\L.all (gd w X)=false) ?_
  refine W_eq (v:=Src.con (L.map (ndD m))) (z3G rfl) ⟨⟨none,rfl,rfl⟩,fun _ _ _ _=>trivial,?_,fun γ h' q=>q,?_⟩
  ·rintro k d _ _ ed ⟨x,rfl,rfl⟩
   have ed':(L.map (ndD m))[k]?=some d:=ed
   obtain ⟨n,hn,rfl⟩:=List.mem_map.mp (List.mem_of_getElem? ed')
   obtain ⟨b,eb,hb⟩:=zu9 c hn
   refine W_eq (v:=[some (maD st mk),some (.tup sy),some (.tup (stsD ss)),some (.tup (wl.map wD)),some (.tup (L.map (ndD m))),some (ndD m n)]) (by simp only [List.set_cons_succ,List.set_cons_zero,gN]) ?_
   refine q_if (!b) (by simp only [List.getElem?_cons_succ,List.getElem?_cons_zero,List.length_cons,List.length_map,List.length_nil,Nat.reduceAdd,z9,aNil,Z8,cNot,cVal,j3,eFn,eVar,eb,if_true,Y3,z0b]) ?_
   cases b with
   | true =>
    rw [if_neg (by decide)]
    exact z0m (z1a ⟨_,rfl,rfl⟩)
   | false =>
    rw [if_pos (by decide)]
    refine z0T ?_
    refine Y9 (.bl false) rfl ⟨rfl,rfl,?_⟩
    rw [List.all_eq_false]
    refine ⟨n,hn,?_⟩
    have:n.run≠none:=fun q=>by cases hb q
    unfold gd
    cases hr:n.run with
    | none=>exact absurd hr this
    | some pr=>simp
  ·rintro _ _ ⟨rfl,rfl,q⟩
   exact ⟨by rw [q],[],by simp⟩
 rintro _ _ ⟨x,rfl,rfl⟩
 have e:=z2n (γ:=[some (maD st mk),some (.tup sy),some (.tup (stsD ss)),some (.tup (wl.map wD)),some (.tup (L.map (ndD m))),x]) (cap:=[some 0,some 1,some 2,some 4,none]) (mi:=Y6 (eVar 4)) (g:=gN 4) (k:=cNot (cVal (eFn 5 Y7 (z9 (eVar 0) (z9 (eVar 1) (z9 (eVar 2) (z9 (eVar 3) (z9 (eVar 4) aNil)))))))) (me:=eVar 4) (items:=L.map (ndD m)) (fun d=>!(gd w X (ndOf d))) (fun d=>d) (z3G rfl) (by rw [List.length_map];omega) fun d hd=>?_
 ·have:clE (e2 (fEqX false) (x8 [some 0,some 1,some 2,some 4,none] (Y6 (eVar 4)) (gN 4) (cNot (cVal (eFn 5 Y7 (z9 (eVar 0) (z9 (eVar 1) (z9 (eVar 2) (z9 (eVar 3) (z9 (eVar 4) aNil)))))))) (eVar 4)) (eLst aNil)) [some (maD st mk),some (.tup sy),some (.tup (stsD ss)),some (.tup (wl.map wD)),some (.tup (L.map (ndD m))),x]=pure (.bl (L.all (gd w X))):=by
   refine z9v rfl fun h=>?_
   refine ⟨_,_,z4C (neg:=false) (congrFun e h) (by have:=List.length_filter_le (fun d=>!(gd w X (ndOf d))) (L.map (ndD m));rw [List.length_map] at this;simp;omega),?_,_,by rw [List.append_assoc]⟩
   congr 1
   rw [List.map_id',Bool.eq_iff_iff]
   rw [← za4 (m:=m)]
   simp
  refine Y9 (.bl (L.all (gd w X))) (by rw [this];rfl) ⟨rfl,[],by simp⟩
 ·obtain ⟨n,hn,rfl⟩:=List.mem_map.mp hd
  refine ⟨[some (maD st mk),some (.tup sy),some (.tup (stsD ss)),some (.tup (L.map (ndD m))),some (ndD m n)],by simp only [List.getElem?_cons_succ,List.getElem?_cons_zero,List.map_cons,List.map_nil,List.set_cons_succ,List.set_cons_zero,Option.join_some,capG,gN],?_,fun _=>rfl⟩
  rw [z5x]
  simp only [List.getElem?_cons_succ,List.getElem?_cons_zero,List.length_cons,List.length_nil,Nat.reduceAdd,z9,aNil,Z8,cNot,cVal,eFn,eVar,if_true,z9x c hn,z0b]
end
structure Tr (n one len:Nat) (T:List Nat):Prop where
 hd:T.head?=some one
 l:T.length≤len
 lt:∀ x∈T,x<n
theorem Tr.ne {n one len:Nat}{T:List Nat}(g:Tr n one len T):0<T.length:=by
 cases T with
 | nil=>cases g.hd
 | cons a T=>simp
theorem z7a {T:List Nat}(h:0<T.length):atI (stD T) (-1)=some (.int ((T.getLastD 0:Nat):Int)):=by
 unfold atI ixN
 rw [Y2]
 have e:((-1:Int)+T.length).toNat=T.length - 1:=by omega
 rw [if_neg (by omega),if_pos (by omega)]
 show (stD T)[((-1:Int)+T.length).toNat]?=_
 rw [e]
 unfold stD
 rw [List.getElem?_map,List.getElem?_eq_getElem (by omega)]
 show some (D.int ((T[T.length - 1]:Nat):Int))=_
 congr 2
 rw [List.getLastD_eq_getLast?,List.getLast?_eq_getElem?,List.getElem?_eq_getElem (by omega)]
 rfl
theorem z60 {T:List Nat}(h:0<T.length):T.getLastD 0∈T:=by
 rw [List.getLastD_eq_getLast?,List.getLast?_eq_getElem?,List.getElem?_eq_getElem (by omega)]
 exact List.getElem_mem _
theorem zs7 {st:List (List Nat)}{mk:List (List Str)}{one many:Nat}{h:AH}{k:Int}{r:AH}{Q:D->AH->Prop}(p:PS h k r) (hk:k<900000) (ma:MA st mk) (ho:one<st.length) (hm:many≤10)
 (z:∀ T h',Tr st.length one (many+1) T->PS h' (k+many) (r++[.lst (stD T)])->Q (.ref (r.length+3)) h'):W (z2e [.ref 2,maD st mk,.int (one:Nat),.int (many:Nat)]) h Q:=by
 have l2:=ma.l2
 refine za2 p trivial ?_
 refine z1I ?_
 show W (z23 [some (.ref 2),some (maD st mk),some (.int (one:Nat)),some (.int (many:Nat)),none,none,none]) h _
 unfold z23
 have hl:h.length=r.length+3:=p.len
 refine z0p (.ref (r.length+3)) [some (.ref 2),some (maD st mk),some (.int (one:Nat)),some (.int (many:Nat)),some (.ref (r.length+3)),none,none] (by rw [← hl];exact z3F (j6 rfl)) rfl ?_
 rw [w_cons]
 refine z0L (fun c γ h'=>∃ (T:List Nat) (x y:Option D) (k':Int),γ=[some (.ref 2),some (maD st mk),some (.int (one:Nat)),some (.int (many:Nat)),some (.ref (r.length+3)),x,y]/\PS h' k' (r++[.lst (stD T)])/\k'≤k+c/\Tr st.length one (c+1) T) (fun _ _=>False) ?_
 refine W_of (v:=.int (many:Nat)) rfl ⟨many,rfl,by omega,⟨[one],none,none,k,rfl,p.app _,by omega,⟨rfl,by simp,by simpa using ho⟩⟩,?_,?_,fun _ _ q=>q.elim⟩
 ·rintro c _ h1 hc ⟨T,x,y,k',rfl,p1,hk',tr⟩
  have g1:h1[r.length+3]?=some (.lst (stD T)):=by rw [p1.get];exact z0c
  have ne:=tr.ne
  have lm:=tr.lt _ (z60 ne)
  have tl:=tr.l
  show W (Z2 _ _ [some (.ref 2),some (maD st mk),some (.int (one:Nat)),some (.int (many:Nat)),some (.ref (r.length+3)),some (.int (c:Nat)),y]) h1 _
  refine z0p (.tup (stD (nx st (T.getLastD 0)))) [some (.ref 2),some (maD st mk),some (.int (one:Nat)),some (.int (many:Nat)),some (.ref (r.length+3)),some (.int (c:Nat)),some (.tup (stD (nx st (T.getLastD 0))))] (e2_h (e2_h (j6 rfl) (y:=.int 0) rfl (by rw [z2L];rfl)) (e2_h (j6 rfl) (y:=.int (-1)) rfl (ix_h g1 (z7a ne))) (by rw [z6q lm];rfl)) rfl ?_
  obtain ⟨N,hN⟩:∃ N,N=nx st (T.getLastD 0):=⟨_,rfl⟩
  have nl:∀ x∈N,x<st.length:=by rw [hN];exact fun x hx=>ma.s2 _ (List.mem_of_getElem? (z79 lm)) x hx
  have nlen:N.length≤40:=by
   have:=z7T (zf1 (ma.s1 _ (List.mem_of_getElem? (z79 lm)))) (ma.s2 _ (List.mem_of_getElem? (z79 lm)))
   rw [hN];omega
  rw [← hN]
  refine zd6 (decide (0<N.length)) ((cb_h (e2_h (z0l (d:=.tup (stD N)) (j6 rfl) (by rw [Y3,Y2];rfl)) (y:=.int 0) rfl (by rw [z4S];rfl))).trans (by congr 1;rw [decide_eq_decide];omega)) ?_
  by_cases h0:0<N.length
  ·rw [decide_eq_true h0,if_pos rfl]
   refine z0T ?_
   obtain ⟨t,h2,e2',t0,t1,p2⟩:=draw p1 (by omega) (show 0<(N.length:Int) by omega) (by omega)
   obtain ⟨t,rfl⟩:=Int.eq_ofNat_of_zero_le t0
   have g2:h2[r.length+3]?=some (.lst (stD T)):=by rw [p2.get];exact z0c
   refine z9V (i:=r.length+3) (xs:=stD T) rfl g1 (e2_h (x:=.tup (stD N)) (j6 rfl) (fn_h (ds:=[.ref 2,.int (N.length:Nat)]) (ac_h (j6 rfl) (ac_h (z0l (d:=.tup (stD N)) (j6 rfl) (by rw [Y3,Y2];rfl)) rfl)) rfl e2') (by rw [ix_tup (z5J (show t<N.length by omega))];rfl)) g2 (by rw [Y2];omega) ?_
   refine z0m (z1a ⟨T++[(N[t]?).getD 0],_,_,k'+1,rfl,?_,by omega,?_,?_,?_⟩)
   ·have:=p2.set r.length (.lst (stD T++[.int (((N[t]?).getD 0:Nat):Int)]))
    rw [z6r,z4e] at this
    rw [z4e]
    exact this
   ·have:=tr.hd
    cases T with
    | nil=>cases this
    | cons a T=>exact this
   ·rw [List.length_append,List.length_singleton];omega
   ·intro x hx
    rcases List.mem_append.mp hx with q | q
    ·exact tr.lt x q
    ·simp at q
     subst q
     rw [List.getElem?_eq_getElem (by omega)]
     exact nl _ (List.getElem_mem _)
  ·rw [decide_eq_false h0,if_neg (by decide)]
   exact z0m (z1a ⟨T,_,_,k',rfl,p1,by omega,tr.hd,by omega,tr.lt⟩)
 ·rintro _ h1 ⟨T,x,y,k',rfl,p1,hk',tr⟩
  exact Y9 _ (j6 rfl) ⟨k+many,[.lst (stD T)],r.length,stD T,rfl,p1.up hk',Nat.le_refl _,z0c,z2h T,fun h2 p2=>z T h2 tr p2⟩
theorem zl4 {h:AH}{i:Nat}{xs:List D}{lo hi:Option Int}(e:h[i]?=some (.lst xs)) (hl:(cutD xs lo hi).length≤1000):fSl (.ref i) lo hi h=.ok (.ref h.length) (h++[.lst (cutD xs lo hi)]):=by
 have g:getL i h=.ok xs h:=by unfold getL;rw [e]
 show (getL i >>= fun xs=>newL (cutD xs lo hi)) h=_
 rw [M.bind_ok g]
 exact z2r (by omega)
theorem z81 {mb:G->M D}{γ:G}{h h1:AH}{c:Int}(e:mb γ h=.ok (.int c) h1):z0e mb γ h=.ok (some c) h1:=by
 unfold z0e
 rw [M.bind_ok e]
 rfl
theorem hi_h {ma mb:G->M D}{γ:G}{h:AH}{i:Nat}{xs:List D}{c:Nat}(e1:ma γ h=.ok (.ref i) h) (e2':mb γ h=.ok (.int (c:Nat)) h) (e:h[i]?=some (.lst xs)) (hl:xs.length≤1000):J9 ma z0d (z0e mb) γ h=.ok (.ref h.length) (h++[.lst (xs.take c)]):=by
 unfold J9
 rw [M.bind_ok e1,M.bind_ok (show z0d γ h=.ok none h from rfl),M.bind_ok (z81 e2'),zl4 e (by rw [z3x];exact Nat.le_trans (by rw [List.length_take];omega) hl),z3x]
theorem lo_h {ma mb:G->M D}{γ:G}{h:AH}{i:Nat}{xs:List D}{c:Nat}(e1:ma γ h=.ok (.ref i) h) (e2':mb γ h=.ok (.int (c:Nat)) h) (e:h[i]?=some (.lst xs)) (hl:xs.length≤1000):J9 ma (z0e mb) z0d γ h=.ok (.ref h.length) (h++[.lst (xs.drop c)]):=by
 unfold J9
 rw [M.bind_ok e1,M.bind_ok (z81 e2'),M.bind_ok (show z0d γ h=.ok none h from rfl),zl4 e (by rw [z4O];exact Nat.le_trans (by rw [List.length_drop];omega) hl),z4O]
theorem z8K {st:List (List Nat)}{mk:List (List Str)}{one many:Nat}{h:AH}{k:Int}{r:AH}{Q:D->AH->Prop}(p:PS h k r) (hk:k<800000) (ma:MA st mk) (ho:one<st.length) (hm:many≤10)
 (z:∀ pa ri h',Rn st.length pa ri->sAt pa ri 0=one->PS h' (k+15) r->Q (rnD pa ri) h'):W (z1q [.ref 2,maD st mk,.int (one:Nat),.int (many:Nat)]) h Q:=by
 refine z5j p trivial ?_
 refine z1I ?_
 show W (z1u [some (.ref 2),some (maD st mk),some (.int (one:Nat)),some (.int (many:Nat)),none,none,none]) h _
 unfold z1u z0M
 refine z2j (fun d h1=>∃ T,d=.ref (r.length+3)/\Tr st.length one (many+1) T/\PS h1 (k+many) (r++[.lst (stD T)])) ?_ ?_
 ·simp only [List.getElem?_cons_succ,List.getElem?_cons_zero,List.length_cons,List.length_nil,Nat.reduceAdd,z1F,j9,z1e,W_pure,z9,aNil,eFn,eVar,if_true]
  exact zs7 p (by omega) ma ho hm fun T h' tr p'=>⟨T,rfl,tr,p'⟩
 rintro _ h1 ⟨T,rfl,tr,p1⟩
 have ne:=tr.ne
 have tl:=tr.l
 have lm:=tr.lt _ (z60 ne)
 have g1:h1[r.length+3]?=some (.lst (stD T)):=by rw [p1.get];exact z0c
 have hl1:h1.length=r.length+1+3:=by rw [p1.len,List.length_append];rfl
 show W (Z2 _ _ [some (.ref 2),some (maD st mk),some (.int (one:Nat)),some (.int (many:Nat)),some (.ref (r.length+3)),none,none]) h1 _
 have cc:=z8B (cap:=[some 4,some 1,none]) (mi:=z0J (j3 fLen (z9 (eVar 4) aNil))) (g:=gN 2) (kb:=fun γ=>do let d ← e2 (fIn false) (e2 fIx (eVar 0) (eVar 2)) (e2 fIx (e2 fIx (eVar 1) (fun _=>pure (.int 0))) (e2 fIx (eVar 0) (eNeg (fun _=>pure (.int 1))))) γ;asB d) (me:=eVar 2) (γ:=[some (.ref 2),some (maD st mk),some (.int (one:Nat)),some (.int (many:Nat)),some (.ref (r.length+3)),none,none]) (h:=h1) (src:=.con (z0j T.length)) (l:=List.range T.length) (fun x=>decide ((T[x]?).getD 0∈nx st (T.getLastD 0))) (fun x=>.int x) (z3u (z0l (j6 rfl) (by rw [z54 g1,Y2])) (by omega)) rfl (fun _=>trivial) (by simp;omega) fun x hx=>⟨[some (.ref (r.length+3)),some (maD st mk),some (.int x)],fun _=>rfl,fun j=>(cb_h (e2_h (e2_h (j6 rfl) (j6 rfl) (ix_h (z05 g1) (z5J (by simpa using hx)))) (e2_h (e2_h (j6 rfl) (y:=.int 0) rfl (by rw [z2L];rfl)) (e2_h (j6 rfl) (y:=.int (-1)) rfl (ix_h (z05 g1) (z7a ne))) (by rw [z6q lm];rfl)) (by rw [z73];rfl))).trans (by simp),fun _ _=>rfl⟩
 obtain ⟨P,hP⟩:∃ P,P=(List.range T.length).filter fun x=>decide ((T[x]?).getD 0∈nx st (T.getLastD 0)):=⟨_,rfl⟩
 have Pl:∀ x∈P,x<T.length:=fun x hx=>by rw [hP] at hx;simpa using (List.mem_filter.mp hx).1
 have Pn:P.length≤11:=by
  have:=List.length_filter_le (fun x=>decide ((T[x]?).getD 0∈nx st (T.getLastD 0))) (List.range T.length)
  rw [← hP,List.length_range] at this
  omega
 rw [← hP] at cc
 have cc:_=Res.ok (D.ref h1.length) (h1++[O.lst (stD P)]):=cc
 refine z0p (.ref h1.length) [some (.ref 2),some (maD st mk),some (.int (one:Nat)),some (.int (many:Nat)),some (.ref (r.length+3)),some (.ref h1.length),none] cc rfl ?_
 have p2:=p1.app [.lst (stD P)]
 have g2:(h1++[O.lst (stD P)])[h1.length]?=some (.lst (stD P)):=z0c
 have g3:(h1++[O.lst (stD P)])[r.length+3]?=some (.lst (stD T)):=z05 g1
 refine z6V (fun γ h'=>∃ (P':List Nat) (i:Nat) (j:AH),γ=[some (.ref 2),some (maD st mk),some (.int (one:Nat)),some (.int (many:Nat)),some (.ref (r.length+3)),some (.ref i),none]/\PS h' (k+many+1) (r++j)/\h'[i]?=some (.lst (stD P'))/\(∃ i',i=i'+3/\(r++j)[i']?=some (.lst (stD P')))/\(r++j)[r.length]?=some (.lst (stD T))/\0<P'.length/\P'.length≤11/\∀ x∈P',x<T.length) ?_ ?_
 ·refine (w_if).mpr ?_
  refine W_of (v:=decide (P.length=0)) (h1:=h1++[O.lst (stD P)]) ((cb_h (e2_h (z0l (j6 rfl) (z54 g2)) (y:=.int 0) rfl (by rw [z2E];rfl))).trans ?_) ?_
  ·congr 1
   rw [Y2,Bool.bne_false,decide_eq_decide]
   omega
  by_cases p0:P.length=0
  ·rw [decide_eq_true p0,if_pos rfl]
   obtain ⟨t,h2,e2',t0,t1,p3⟩:=draw p2 (by omega) (show 0<(T.length:Int) by omega) (by omega)
   obtain ⟨t,rfl⟩:=Int.eq_ofNat_of_zero_le t0
   refine z0p (.ref h2.length) [some (.ref 2),some (maD st mk),some (.int (one:Nat)),some (.int (many:Nat)),some (.ref (r.length+3)),some (.ref h2.length),none] (z3F (fn_h (ds:=[.ref 2,.int (T.length:Nat)]) (ac_h (j6 rfl) (ac_h (z0l (j6 rfl) (by rw [z54 g3,Y2])) rfl)) rfl e2')) rfl ?_
   have p4:=p3.app [.lst [.int (t:Nat)]]
   have hl2:=p3.len
   rw [List.append_assoc,List.append_assoc] at p4
   refine z1a ⟨[t],h2.length,_,rfl,p4,z0c,⟨(r++[O.lst (stD T)]++[O.lst (stD P)]).length,by rw [hl2],?_⟩,?_,by simp,by simp,by simpa using (show t<T.length by omega)⟩
   ·rw [← List.append_assoc,← List.append_assoc]
    exact z0c
   ·rw [List.getElem?_append_right (Nat.le_refl _),Nat.sub_self]
    rfl
  ·rw [decide_eq_false p0,if_neg (by decide)]
   refine z1a ⟨P,h1.length,[.lst (stD T)]++[.lst (stD P)],rfl,?_,g2,⟨r.length+1,by rw [hl1],?_⟩,?_,by omega,Pn,Pl⟩
   ·rw [← List.append_assoc]
    exact p2.up (by omega)
   ·rw [← List.append_assoc,show r.length+1=(r++[O.lst (stD T)]).length by simp]
    exact z0c
   ·rw [List.getElem?_append_right (Nat.le_refl _),Nat.sub_self]
    rfl
 rintro _ h3 ⟨P',i,j,rfl,p3,g5,⟨i',ei,gi⟩,g4,n0,n1,nT⟩
 have g6:h3[r.length+3]?=some (.lst (stD T)):=by rw [p3.get];exact g4
 obtain ⟨t,h4,e4,t0,t1,p4⟩:=draw p3 (by omega) (show 0<(P'.length:Int) by omega) (by omega)
 obtain ⟨t,rfl⟩:=Int.eq_ofNat_of_zero_le t0
 have g7:h4[i]?=some (.lst (stD P')):=by rw [ei,p4.get];exact gi
 have g8:h4[r.length+3]?=some (.lst (stD T)):=by rw [p4.get];exact g4
 obtain ⟨c,hc⟩:∃ c,c=(P'[t]?).getD 0:=⟨_,rfl⟩
 have cT:c<T.length:=by
  rw [hc,List.getElem?_eq_getElem (by omega)]
  exact nT _ (List.getElem_mem _)
 refine z0p (.int (c:Nat)) [some (.ref 2),some (maD st mk),some (.int (one:Nat)),some (.int (many:Nat)),some (.ref (r.length+3)),some (.ref i),some (.int (c:Nat))] (e2_h (j6 rfl) (fn_h (ds:=[.ref 2,.int (P'.length:Nat)]) (ac_h (j6 rfl) (ac_h (z0l (j6 rfl) (by rw [z54 g5,Y2])) rfl)) rfl e4) (by rw [hc];exact ix_h g7 (z5J (by omega)))) rfl ?_
 have s1:=hi_h (γ:=[some (.ref 2),some (maD st mk),some (.int (one:Nat)),some (.int (many:Nat)),some (.ref (r.length+3)),some (.ref i),some (.int (c:Nat))]) (ma:=eVar 4) (mb:=eVar 6) (j6 rfl) (j6 rfl) g8 (by rw [Y2];omega)
 rw [show (stD T).take c=stD (T.take c) by unfold stD;rw [List.map_take]] at s1
 have s2:=lo_h (γ:=[some (.ref 2),some (maD st mk),some (.int (one:Nat)),some (.int (many:Nat)),some (.ref (r.length+3)),some (.ref i),some (.int (c:Nat))]) (ma:=eVar 4) (mb:=eVar 6) (h:=h4++[.lst (stD (T.take c))]) (j6 rfl) (j6 rfl) (z05 g8) (by rw [Y2];omega)
 rw [show (stD T).drop c=stD (T.drop c) by unfold stD;rw [List.map_drop]] at s2
 refine Y9 (rnD (T.take c) (T.drop c)) (zr3 (z0l s1 (z8P z0c)) (z0l s2 (z8P z0c))) ⟨k+15,j++[.lst (stD (T.take c)),.lst (stD (T.drop c))],?_,z9O _ _,fun h5 p5=>z _ _ h5 ⟨?_,?_,?_⟩ ?_ p5⟩
 ·have:=(p4.app [.lst (stD (T.take c)),.lst (stD (T.drop c))]).up (k':=k+15) (by omega)
  rw [List.append_assoc] at this
  simpa using this
 ·rw [List.length_drop];omega
 ·rw [List.length_take,List.length_drop];omega
 ·rw [List.take_append_drop];exact tr.lt
 ·have r0:=zv1 (p:=T.take c) (r:=T.drop c) (n:=0) (by rw [List.length_take,List.length_drop];omega)
  rw [List.take_append_drop,← List.head?_eq_getElem?,tr.hd] at r0
  exact (Option.some.inj r0).symm
theorem zo8 {st:List (List Nat)}{mk:List (List Str)}{w v:Str}{ps:List Nat}{sy:List D}{m many:Nat}{h:AH}{k:Int}{r:AH}{Q:D->AH->Prop}(p:PS h k r) (hk:k<700000) (ma:MA st mk) (g:LR w v ps) (sl:sy.length=m+1) (eS:sy[m]?=some (lrD w v ps)) (h1:1≤many) (h3:many≤3)
 (z:∀ n h',NdOk st.length w many n->PS h' (k+30) r->Q (ndD m n) h'):W (z1A [.ref 2,maD st mk,.tup sy,.int (many:Nat)]) h Q:=by
 have l1:=ma.l1
 have l2:=ma.l2
 refine z5j p trivial ?_
 refine z1I ?_
 show W (z1Z [some (.ref 2),some (maD st mk),some (.tup sy),some (.int (many:Nat)),none,none,none,none,none]) h _
 unfold z1Z
 obtain ⟨o,ha,ea,o0,o1,pa⟩:=draw p (by omega) (show 0<(st.length:Int) by omega) (by omega)
 obtain ⟨o,rfl⟩:=Int.eq_ofNat_of_zero_le o0
 refine z0p (.int (o:Nat)) [some (.ref 2),some (maD st mk),some (.tup sy),some (.int (many:Nat)),some (.int (o:Nat)),none,none,none,none] (fn_h (ds:=[.ref 2,.int (st.length:Nat)]) (ac_h (j6 rfl) (ac_h (z0l (e2_h (j6 rfl) (y:=.int 0) rfl (by rw [z2L];rfl)) (by rw [Y3,z1y];rfl)) rfl)) rfl ea) rfl ?_
 obtain ⟨s,hb,eb,s0,s1,pb⟩:=draw (n:=8) pa (by omega) (by decide) (by decide)
 obtain ⟨s,rfl⟩:=Int.eq_ofNat_of_zero_le s0
 refine z0p (.int (s:Nat)) [some (.ref 2),some (maD st mk),some (.tup sy),some (.int (many:Nat)),some (.int (o:Nat)),some (.int (s:Nat)),none,none,none] (fn_h (ds:=[.ref 2,.int 8]) (ac_h (j6 rfl) (ac_h rfl rfl)) rfl eb) rfl ?_
 have hlast:fIx (.tup sy) (.int (-1))=pure (lrD w v ps):=by
  refine ix_tup ?_
  unfold atI ixN
  rw [if_neg (by omega),if_pos (by omega)]
  show sy[((-1:Int)+sy.length).toNat]?=_
  rw [show ((-1:Int)+sy.length).toNat=m by omega,eS]
 obtain ⟨t,ht⟩:∃ t,t=(decide (w = "all") == decide (s≠0)):=⟨_,rfl⟩
 have wa:decide (w = "all") = !(decide (w = "some")):=by rcases g.hw with rfl | rfl<;>rfl
 refine z1R (.bl t) [some (.ref 2),some (maD st mk),some (.tup sy),some (.int (many:Nat)),some (.int (o:Nat)),some (.int (s:Nat)),some (.bl t),none,none] ?_ rfl ?_
 ·have en1:eNeg (fun _=>pure (.int 1)) [some (.ref 2),some (maD st mk),some (.tup sy),some (.int (many:Nat)),some (.int (o:Nat)),some (.int (s:Nat)),none,none,none]=pure (.int (-1)):=rfl
  simp only [Bool.bne_false,Bool.bne_true,List.getElem?_cons_succ,List.getElem?_cons_zero,Z8,e2,eNeg,eVar,z2O,z2E,z0C,hlast,lr0]
  rw [ht]
  congr 2
  by_cases hs:s=0
  ·subst hs;cases decide (w = "all")<;>rfl
  ·rw [decide_eq_true (show s≠0 from hs),decide_eq_false (show ¬ (s:Int)=0 by omega)];cases decide (w = "all")<;>rfl
 refine z1R .non [some (.ref 2),some (maD st mk),some (.tup sy),some (.int (many:Nat)),some (.int (o:Nat)),some (.int (s:Nat)),some (.bl t),some .non,none] rfl rfl ?_
 refine z1R (.tup []) [some (.ref 2),some (maD st mk),some (.tup sy),some (.int (many:Nat)),some (.int (o:Nat)),some (.int (s:Nat)),some (.bl t),some .non,some (.tup [])] rfl rfl ?_
 refine z6V (fun γ h'=>∃ run,γ=[some (.ref 2),some (maD st mk),some (.tup sy),some (.int (many:Nat)),some (.int (o:Nat)),some (.int (s:Nat)),some (.bl t),some (runD run),some (.tup [])]/\PS h' (k+20) r/\(∀ p r,run=some (p,r)->Rn st.length p r/\sAt p r 0=o)/\(s<2->run.isSome=true)) ?_ ?_
 ·refine (w_if).mpr ?_
  refine W_of (v:=decide (s<2)) (h1:=hb) ((cb_h (e2_h (j6 rfl) (y:=.int 2) rfl (by rw [z2R];rfl))).trans (by congr 1;rw [decide_eq_decide];omega)) ?_
  by_cases hs:s<2
  ·rw [decide_eq_true hs,if_pos rfl]
   obtain ⟨u,hc,ec,u0,u1,pc⟩:=draw (n:=4) pb (by omega) (by decide) (by decide)
   obtain ⟨u,rfl⟩:=Int.eq_ofNat_of_zero_le u0
   obtain ⟨d,hd,ed,pa',ri,rn,s0',pd,rfl⟩:=z8K (mk:=mk) (one:=o) (many:=u) (Q:=fun d h'=>∃ pa ri,Rn st.length pa ri/\sAt pa ri 0=o/\PS h' (k+1+1+1+15) r/\d=rnD pa ri) pc (by omega) ma (by omega) (by omega) fun pa ri h' a b c=>⟨pa,ri,a,b,c,rfl⟩
   refine z0p (rnD pa' ri) [some (.ref 2),some (maD st mk),some (.tup sy),some (.int (many:Nat)),some (.int (o:Nat)),some (.int (s:Nat)),some (.bl t),some (rnD pa' ri),some (.tup [])] (fn_h (ds:=[.ref 2,maD st mk,.int (o:Nat),.int (u:Nat)]) (ac_h (j6 rfl) (ac_h (j6 rfl) (ac_h (j6 rfl) (ac_h (fn_h (ds:=[.ref 2,.int 4]) (ac_h (j6 rfl) (ac_h rfl rfl)) rfl ec) rfl)))) rfl ed) rfl ?_
   exact z1a ⟨some (pa',ri),rfl,pd.up (by omega),fun p r e=>by cases e;exact ⟨rn,s0'⟩,fun _=>rfl⟩
  ·rw [decide_eq_false hs,if_neg (by decide)]
   exact z1a ⟨none,rfl,pb.up (by omega),fun p r e=>(nomatch e),fun q=>absurd q hs⟩
 rintro _ hd ⟨run,rfl,pd,hrun,hsr⟩
 refine z6V (fun γ h'=>∃ kid:Option Nat,γ=[some (.ref 2),some (maD st mk),some (.tup sy),some (.int (many:Nat)),some (.int (o:Nat)),some (.int (s:Nat)),some (.bl t),some (runD run),some (.tup (stD kid.toList))]/\PS h' (k+30) r/\(∀ k,kid=some k->k<many)/\(s≠2->kid=none)) ?_ ?_
 ·refine (w_if).mpr ?_
  refine W_of (v:=decide (s=2)) (h1:=hd) ((cb_h (e2_h (j6 rfl) (y:=.int 2) rfl (by rw [z2E];rfl))).trans (by congr 1;rw [Bool.bne_false,decide_eq_decide];omega)) ?_
  by_cases hs:s=2
  ·rw [decide_eq_true hs,if_pos rfl]
   obtain ⟨u,hc,ec,u0,u1,pc⟩:=draw pd (by omega) (show 0<(many:Int) by omega) (by omega)
   obtain ⟨u,rfl⟩:=Int.eq_ofNat_of_zero_le u0
   refine z0p (.tup [.int (u:Nat)]) [some (.ref 2),some (maD st mk),some (.tup sy),some (.int (many:Nat)),some (.int (o:Nat)),some (.int (s:Nat)),some (.bl t),some (runD run),some (.tup [.int (u:Nat)])] (z34 (ac_h (fn_h (ds:=[.ref 2,.int (many:Nat)]) (ac_h (j6 rfl) (ac_h (j6 rfl) rfl)) rfl ec) rfl) (by simp)) rfl ?_
   exact z1a ⟨some u,rfl,pc.up (by omega),fun k e=>by cases e;omega,fun q=>absurd hs q⟩
  ·rw [decide_eq_false hs,if_neg (by decide)]
   exact z1a ⟨none,rfl,pd.up (by omega),fun k e=>(nomatch e),fun _=>rfl⟩
 rintro _ he ⟨kid,rfl,pe,hkid,hs2⟩
 have e5:eTup (z9 (e2 fSub (j3 fLen (z9 (eVar 2) aNil)) (fun _=>pure (.int 1))) (z9 (eVar 4) (z9 (eVar 6) (z9 (eVar 7) (z9 (eVar 8) aNil))))) [some (.ref 2),some (maD st mk),some (.tup sy),some (.int (many:Nat)),some (.int (o:Nat)),some (.int (s:Nat)),some (.bl t),some (runD run),some (.tup (stD kid.toList))] he=.ok (ndD m ⟨o,t,run,kid⟩) he:=by
  refine z34 (ac_h (e2_h (z0l (j6 rfl) (by rw [Y3,sl];rfl)) (y:=.int 1) rfl ?_) (ac_h (j6 rfl) (ac_h (j6 rfl) (ac_h (j6 rfl) (ac_h (j6 rfl) rfl))))) (by simp)
  rw [z1J,show ((m+1:Nat):Int) - 1=(m:Int) by omega]
  rfl
 refine Y9 _ e5 ⟨k+30,[],by rw [List.append_nil];exact pe,?_,fun h6 p6=>z ⟨o,t,run,kid⟩ h6 ⟨by show o<_;omega,hrun,hkid,fun q=>?_⟩ p6⟩
 ·unfold ndD
  simp only [z01,x6,Bool.and_true,Bool.true_and]
  rw [z2h]
  cases run with
  | none=>rfl
  | some pr=>obtain ⟨a,b⟩:=pr;rw [show z01 3 (runD (some (a,b)))=true from z9O a b];rfl
 ·have q:t=decide (w = "some"):=q
  have s00:s=0:=by
   refine Decidable.byContradiction fun hs=>?_
   rw [ht,wa,decide_eq_true (show s≠0 from hs)] at q
   revert q
   cases decide (w = "some")<;>simp
  exact ⟨hsr (by omega),hs2 (by omega)⟩
theorem z5K {f:List D->M D}{me:G->M D}{γ:G}{h:AH}{Q:D->AH->Prop}(z:W (me γ) h fun d h1=>W (f [d]) h1 Q):W (j3 f (z9 me aNil) γ) h Q:=by
 obtain ⟨d,h1,e,d2,h2,e2',q⟩:=z
 exact ⟨d2,h2,z0l e e2',q⟩
theorem z8u {mr:G->M (List D)}{γ:G}{h h1:AH}{ds:List D}(e:mr γ h=.ok ds h1) (hl:ds.length≤1000):eLst mr γ h=.ok (.ref h1.length) (h1++[.lst ds]):=by
 unfold eLst
 rw [M.bind_ok e]
 exact z2r (by omega)
theorem z9D {mr:G->M (List D)}{γ:G}{h:AH}{k:Int}{r:AH}{ss:List Str}{n:Nat}(p:PS h k r) (hk:k<900000) (em:mr γ h=.ok (ss.map .str) h) (e1:γ[1]?=some (some (.ref 2))) (hn:n=ss.length) (h0:0<n) (hn2:n≤100) :
 ∃ (t:Nat) (ht:t<ss.length) (h':AH),e2 fIx (eLst mr) (eFn 2 Z6 (z9 (eVar 1) (z9 (fun _=>pure (.int (n:Nat))) aNil))) γ h=.ok (.str ss[t]) h'/\PS h' (k+1) (r++[.lst (ss.map .str)]):=by
 subst hn
 have hl:=p.len
 have el:=z8u em (by rw [List.length_map];omega)
 obtain ⟨t,h',e',t0,t1,p'⟩:=draw (p.app [.lst (ss.map .str)]) (by omega) (show 0<(ss.length:Int) by omega) (by omega)
 obtain ⟨t,rfl⟩:=Int.eq_ofNat_of_zero_le t0
 have g:h'[h.length]?=some (.lst (ss.map .str)):=by rw [hl,p'.get];exact z0c
 exact ⟨t,by omega,h',e2_h el (fn_h (ds:=[.ref 2,.int (ss.length:Nat)]) (ac_h (j6 e1) (ac_h rfl rfl)) rfl e') (ix_h g (z5L (by omega))),p'⟩
theorem zm4 {n:Nat}{sy:List D}{γ:G}{h:AH}{k:Int}{r:AH}(p:PS h k r) (hk:k<600000) (hn:n≤40) (hs:sy.length≤100) (e1:γ[1]?=some (some (.ref 2))) (e7:γ[7]?=some (some (.tup sy))) (e10:γ[10]?=some (some (.tup (z0j n)))) :
 W (j3 z0w (z9 (x8 [some 10,some 1,none] (Y6 (eVar 7)) (gN 2) (fun _=>pure true) (j3 z0w (z9 (x8 [some 1,none] (Y6 (eVar 0)) (gN 1) (fun γ=>do let d ← e2 (fEq false) (eFn 2 Z6 (z9 (eVar 0) (z9 (fun _=>pure (.int 2)) aNil))) (fun _=>pure (.int 0)) γ;asB d) (eVar 1)) aNil))) aNil) γ) h
  fun d h'=>∃ ss j,d=.tup (stsD ss)/\ss.length=sy.length/\PS h' (k+4000) (r++j):=by
 have hl:=p.len
 refine z5K (z7k ?_)
 refine W_of (v:=Src.con sy) (h1:=h) (z6a (j6 e7)) ⟨fun i h'=>∃ ss j k',PS h' k' (r++(.lst (stsD ss) :: j))/\ss.length=i/\k'≤k+40 * i/\i≤sy.length,⟨[],[],k,p.app _,rfl,by omega,Nat.zero_le _⟩,fun _ _ _=>trivial,?_,?_⟩
 ·rintro i d h1 ed ⟨ss,j,k',p1,ls,lk,hi⟩
  have ed':sy[i]?=some d:=ed
  have hi':i<sy.length:=(List.getElem?_eq_some_iff.mp ed').1
  refine W_of (v:=[some (.tup (z0j n)),some (.ref 2),some d]) (h1:=h1) (by unfold gN capG;simp [e10,e1]) (W_of (v:=true) (h1:=h1) rfl ?_)
  rw [if_pos rfl]
  refine z5K ?_
  refine z6A (r:=r++(.lst (stsD ss) :: j)) (l:=[]) (fun c xs kk=>∃ l:List Nat,xs=stD l/\l.length≤c/\kk=k'+c) ?_
  refine W_of (v:=Src.con (z0j n)) (h1:=h1) (z6a (j6 rfl)) ⟨k',by simpa using p1,⟨[],rfl,by simp,by simp⟩,fun _ _ _ _=>trivial,?_,?_⟩
  ·rintro c d2 h2 k2 xs hd ⟨l,rfl,lc,rfl⟩ p2
   obtain ⟨rfl,hc⟩:=z30 hd
   refine W_of (v:=[some (.ref 2),some (.int (c:Nat))]) (h1:=h2) rfl ?_
   obtain ⟨t,h3,e3,t0,t1,p3⟩:=draw (n:=2) p2 (by omega) (by decide) (by decide)
   refine W_of (v:=decide (t=0)) (h1:=h3) ((cb_h (e2_h (fn_h (ds:=[.ref 2,.int 2]) (ac_h (j6 rfl) (ac_h rfl rfl)) rfl e3) (y:=.int 0) rfl (by rw [z2E];rfl))).trans (by rw [Bool.bne_false])) ?_
   by_cases t00:t=0
   ·rw [decide_eq_true t00,if_pos rfl]
    exact W_of (v:=.int (c:Nat)) (h1:=h3) (j6 rfl) ⟨_,p3,by rw [Y2];omega,l++[c],(z4e _ _),by simp;omega,by omega⟩
   ·rw [decide_eq_false t00,if_neg (by decide)]
    exact ⟨_,p3,l,rfl,by omega,by omega⟩
  ·rintro h2 xs k2 ⟨l,rfl,lc,rfl⟩ p2
   rw [show (Src.con (z0j n)).items.length=n by simp [Src.items,z0j]] at lc p2
   refine z3j (i:=0) p2 rfl ?_
   have p2':PS h2 (k'+n) (r++(.lst (stsD ss) :: j)++[.lst (stD l)]):=by simpa using p2
   rw [hl]
   refine z4p (n:=r.length) (xs:=stsD ss) p2' (z05 am0) (by rw [z1y];omega) fun h3 p3=>?_
   refine ⟨ss++[l],j++[.lst (stD l)],k'+n,?_,by simp [ls],by omega,hi'⟩
   rw [List.append_assoc,List.cons_append,sm0] at p3
   have:stsD ss++[.tup (stD l)]=stsD (ss++[l]):=by unfold stsD;rw [List.map_append];rfl
   rw [this] at p3
   exact p3
 ·rintro h1 ⟨ss,j,k',p1,ls,lk,_⟩
  have ls':ss.length=sy.length:=ls
  have g:h1[h.length]?=some (.lst (stsD ss)):=by rw [hl,p1.get];exact am0
  exact W_of (z8P g) ⟨ss,_,rfl,ls',p1.up (by have:(Src.con sy).items.length=sy.length:=rfl;rw [this] at lk;omega)⟩
theorem z8N {st:List (List Nat)}{mk:List (List Str)}{w v:Str}{ps:List Nat}{sy:List D}{m many:Nat}{γ:G}{h:AH}{k:Int}{r:AH}(p:PS h k r) (hk:k<600000) (ma:MA st mk) (g:LR w v ps) (sl:sy.length=m+1) (eS:sy[m]?=some (lrD w v ps)) (h1:1≤many) (h3:many≤3)
 (e1:γ[1]?=some (some (.ref 2))) (e9:γ[9]?=some (some (maD st mk))) (e7:γ[7]?=some (some (.tup sy))) (e2:γ[2]?=some (some (.int (many:Nat)))) :
 W (j3 z0w (z9 (x8 [some 1,some 9,some 7,some 2,none] (z0J (eVar 2)) (gN 4) (fun _=>pure true) (eFn 4 z1A (z9 (eVar 0) (z9 (eVar 1) (z9 (eVar 2) (z9 (eVar 3) aNil)))))) aNil) γ) h
  fun d h'=>∃ (L:List Nd) (j:AH),d=.tup (L.map (ndD m))/\L.length=many/\(∀ n∈L,NdOk st.length w many n)/\PS h' (k+100) (r++j):=by
 refine z5K ?_
 refine z6A (r:=r) (l:=[]) (fun c xs kk=>∃ L:List Nd,xs=L.map (ndD m)/\L.length=c/\(∀ n∈L,NdOk st.length w many n)/\kk=k+30 * c) ?_
 refine W_of (v:=Src.con (z0j many)) (h1:=h) (z3u (j6 e2) (by omega)) ⟨k,by simpa using p,⟨[],rfl,rfl,by simp,by simp⟩,fun _ _ _ _=>trivial,?_,?_⟩
 ·rintro c d h2 k2 xs hd ⟨L,rfl,lc,ok,rfl⟩ p2
  obtain ⟨rfl,hc⟩:=z30 hd
  refine W_of (v:=[some (.ref 2),some (maD st mk),some (.tup sy),some (.int (many:Nat)),some (.int (c:Nat))]) (h1:=h2) (by unfold gN capG;simp [e1,e9,e7,e2]) (W_of (v:=true) (h1:=h2) rfl ?_)
  rw [if_pos rfl]
  obtain ⟨d,h4,e4,n,nk,p4,rfl⟩:=zo8 (mk:=mk) (Q:=fun d h'=>∃ n,NdOk st.length w many n/\PS h' (k+30 * c+30) (r++([]++[.lst (L.map (ndD m))]))/\d=ndD m n) p2 (by omega) ma g sl eS h1 h3 fun n h' a b=>⟨n,a,b,rfl⟩
  refine W_of (v:=ndD m n) (h1:=h4) (fn_h (ds:=[.ref 2,maD st mk,.tup sy,.int (many:Nat)]) (ac_h (j6 rfl) (ac_h (j6 rfl) (ac_h (j6 rfl) (ac_h (j6 rfl) rfl)))) rfl e4) ⟨_,p4,by rw [List.length_map];omega,L++[n],by rw [List.map_append];rfl,by simp [lc],fun q hq=>?_,by omega⟩
  rcases List.mem_append.mp hq with z | z
  ·exact ok q z
  ·simp at z;subst z;exact nk
 ·rintro h2 xs k2 ⟨L,rfl,lc,ok,rfl⟩ p2
  rw [show (Src.con (z0j many)).items.length=many by simp [Src.items,z0j]] at lc p2
  exact z3j (i:=0) p2 rfl ⟨L,_,rfl,lc,ok,p2.up (by omega)⟩
theorem zB2 {w v:Str}{a b:Nat}(hw:w = "some"∨w = "all") (hv:v∈(["next","once","ever","until","unless"]:List Str)):LR w v (if v = "until"∨v = "unless" then [a,b] else [a]):=by
 refine ⟨hw,?_⟩
 by_cases q:v = "until"∨v = "unless"
 ·rw [if_pos q];exact .inr ⟨q,a,b,rfl⟩
 ·rw [if_neg q]
  refine .inl ⟨?_,a,rfl⟩
  simp only [List.mem_cons,List.not_mem_nil,or_false] at hv
  rcases hv with z | z | z | z | z
  ·exact .inl z
  ·exact .inr (.inl z)
  ·exact .inr (.inr z)
  ·exact absurd (.inl z) q
  ·exact absurd (.inr z) q
theorem zn8 {b:Bool}:Y4 [.bl b,.bl b]=pure (.bl true):=by rw [z9u];simp
theorem fn_p {n:Nat}{f:List D->M D}{mr:G->M (List D)}{γ:G}{ds:List D}(e:mr γ=pure ds) (hn:ds.length=n):eFn n f mr γ=f ds:=by
 unfold eFn
 rw [e,Z8,if_pos hn]
theorem tr_p {ma mb:G->M D}{γ:G}{b:Bool}(e:ma γ=pure (.bl b)) (e':mb γ=pure (.bl b)):eFn 2 Y4 (z9 ma (z9 mb aNil)) γ=pure (.bl true) :=
 (fn_p (ds:=[.bl b,.bl b]) (z0x e (z0x e' rfl)) rfl).trans zn8
theorem ze4 {xs:List D}(h:1≤xs.length):cutD xs none (some (-1))=xs.take (xs.length - 1):=by
 unfold cutD
 have e1:HT.sIx xs.length 0 none=0:=rfl
 have e2:HT.sIx xs.length xs.length (some (-1))=xs.length - 1:=by
  unfold HT.sIx
  simp
  omega
 rw [e1,e2]
 rfl
section
variable {st:List (List Nat)}{mk:List (List Str)}{w v:Str}{ps:List Nat}{sy:List D}{m:Nat}{ss:List (List Nat)}{X:List Nat}{L:List Nd}{wl:List (Str×Str)}
theorem zy7 {γ0 γ1 γ2 γ3 γ4 γ5 γ6:Option D}{h:AH}(ma:MA st mk) (g:LR w v ps) (sl:sy.length=m+1) (eS:sy[m]?=some (lrD w v ps)) (ls:ss.length=sy.length) (lm:m≤40) (ok:∀ n∈L,NdOk st.length w L.length n) (l1:1≤L.length) (l3:L.length≤3) (wk:wl.length≤1000) (wn:∀ q∈wl,q.2≠"") :
 W ((Z2 (sAsg (eFn 5 w8 (z9 (eVar 9) (z9 (eVar 7) (z9 (eVar 11) (z9 (eVar 8) (z9 (eVar 12) aNil)))))) (gN 13)) (Z2 (sIf (cNot (cVal (eFn 2 Y4 (z9 (eFnP 4 1 [] [] y9 (z9 (eVar 9) (z9 (eVar 7) (z9 (eVar 11) (z9 (eVar 12) aNil)))) (z9 (eVar 8) aNil)) (z9 (eVar 13) aNil))))) (Z2 (sRet (fun _=>pure (.bl false))) bNil) bNil) (Z2 (sAsg (e2 fAdd (J9 (eVar 11) z0d (z0e (eNeg (fun _=>pure (.int 1))))) (eTup (z9 (j3 z0w (z9 (x8 [some 11,none] (Y6 (eVar 10)) (gN 1) (fun γ=>do let d ← e2 (fIn true) (eVar 1) (e2 fIx (eVar 0) (eNeg (fun _=>pure (.int 1)))) γ;asB d) (eVar 1)) aNil)) aNil))) (gN 14)) (Z2 (sAsg (eFn 5 w8 (z9 (eVar 9) (z9 (eVar 7) (z9 (eVar 14) (z9 (eVar 8) (z9 (eVar 12) aNil)))))) (gN 13)) (Z2 (sIf (cNot (cVal (eFn 2 Y4 (z9 (eFnP 4 1 [] [] y9 (z9 (eVar 9) (z9 (eVar 7) (z9 (eVar 14) (z9 (eVar 12) aNil)))) (z9 (eVar 8) aNil)) (z9 (eVar 13) aNil))))) (Z2 (sRet (fun _=>pure (.bl false))) bNil) bNil) (Z2 (sAsg (eFn 5 w8 (z9 (eVar 9) (z9 (eVar 7) (z9 (eVar 14) (z9 (eTup aNil) (z9 (eVar 12) aNil)))))) (gN 13)) (Z2 (sRet (eFn 2 Y4 (z9 (eFnP 4 0 [] [c_FREE] y9 (z9 (eVar 9) (z9 (eVar 7) (z9 (eVar 14) (z9 (eVar 12) aNil)))) aNil) (z9 (eVar 13) aNil)))) bNil))))))) [γ0,γ1,γ2,γ3,γ4,γ5,γ6,some (.tup sy),some (.tup (wl.map wD)),some (maD st mk),some (.tup (z0j st.length)),some (.tup (stsD ss)),some (.tup (L.map (ndD m))),none,none]) h (runW fun d _=>d=.bl true):=by
 have l2:=ma.l2
 have ix:∀ ss:List (List Nat),ss.length=m+1->fIx (.tup (stsD ss)) (.int (m:Nat))=pure (.tup (stD ((ss[m]?).getD []))):=fun ss hl=>ix_tup (z03 (by unfold stsD;rw [List.getElem?_map,List.getElem?_eq_getElem (by omega)];rfl))
 have cx:∀ (ss:List (List Nat)) (wl:List (Str×Str)),ss.length=m+1->wl.length≤1000->(∀ q∈wl,q.2≠"")->Cx9 st mk w v ps sy m ss ((ss[m]?).getD []) L wl:=fun ss wl hl a b=>⟨ma,g,sl,eS,ix ss hl,ok,l1,l3,a,b⟩
 have c1:=cx ss wl (by omega) wk wn
 have pr:∀ {γ:G} {ss:List (List Nat)} {k:Nat},Cx9 st mk w v ps sy m ss ((ss[m]?).getD []) L wl->γ[7]?=some (some (.tup sy))->γ[8]?=some (some (.tup (wl.map wD)))->γ[9]?=some (some (maD st mk))->γ[k]?=some (some (.tup (stsD ss)))->γ[12]?=some (some (.tup (L.map (ndD m))))->eFnP 4 1 [] [] y9 (z9 (eVar 9) (z9 (eVar 7) (z9 (eVar k) (z9 (eVar 12) aNil)))) (z9 (eVar 8) aNil) γ=pure (.bl (L.all (gd w ((ss[m]?).getD [])))):=fun {γ ss k} c q7 q8 q9 qk q12=>by
  have v7:eVar 7 γ=pure (.tup sy):=by unfold eVar;rw [q7]
  have v8:eVar 8 γ=pure (.tup (wl.map wD)):=by unfold eVar;rw [q8]
  have v9:eVar 9 γ=pure (maD st mk):=by unfold eVar;rw [q9]
  have vk:eVar k γ=pure (.tup (stsD ss)):=by unfold eVar;rw [qk]
  have v12:eVar 12 γ=pure (.tup (L.map (ndD m))):=by unfold eVar;rw [q12]
  unfold eFnP
  rw [z0x v9 (z0x v7 (z0x vk (z0x v12 rfl))),Z8,z0x v8 rfl,Z8,if_pos ⟨rfl,rfl⟩]
  exact z7n c
 refine z1R (.bl (L.all (gd w ((ss[m]?).getD [])))) [γ0,γ1,γ2,γ3,γ4,γ5,γ6,some (.tup sy),some (.tup (wl.map wD)),some (maD st mk),some (.tup (z0j st.length)),some (.tup (stsD ss)),some (.tup (L.map (ndD m))),some (.bl (L.all (gd w ((ss[m]?).getD [])))),none] (by simp only [List.getElem?_cons_succ,List.getElem?_cons_zero,List.length_cons,List.length_nil,Nat.reduceAdd,z9,aNil,Z8,eFn,eVar,if_true,z5C c1]) rfl ?_
 refine q_if false ?_ ?_
 ·have e:=pr (γ:=[γ0,γ1,γ2,γ3,γ4,γ5,γ6,some (.tup sy),some (.tup (wl.map wD)),some (maD st mk),some (.tup (z0j st.length)),some (.tup (stsD ss)),some (.tup (L.map (ndD m))),some (.bl (L.all (gd w ((ss[m]?).getD [])))),none]) (k:=11) c1 rfl rfl rfl rfl rfl
  unfold cNot cVal
  rw [tr_p (mb:=eVar 13) e rfl]
  rfl
 rw [if_neg (by decide)]
 refine z0m ?_
 obtain ⟨S2,hS2⟩:∃ S2,S2=ss.take m++[(List.range st.length).filter fun x=>!decide (x∈(ss[m]?).getD [])]:=⟨_,rfl⟩
 have l2':S2.length=m+1:=by rw [hS2,List.length_append,List.length_take];simp;omega
 have c2:=cx S2 wl l2' wk wn
 have c3:=cx S2 [] l2' (by simp) (by simp)
 have neg1:∀ γ:G,eNeg (fun _=>pure (.int 1)) γ=pure (.int (-1)):=fun _=>rfl
 have ixl:fIx (.tup (stsD ss)) (.int (-1))=pure (.tup (stD ((ss[m]?).getD []))):=by
  refine ix_tup ?_
  unfold atI ixN
  rw [z1y,if_neg (by omega),if_pos (by omega)]
  show (stsD ss)[((-1:Int)+ss.length).toNat]?=_
  rw [show ((-1:Int)+ss.length).toNat=m by omega]
  unfold stsD
  rw [List.getElem?_map,List.getElem?_eq_getElem (by omega)]
  rfl
 have cut1:J9 (eVar 11) z0d (z0e (eNeg (fun _=>pure (.int 1)))) [γ0,γ1,γ2,γ3,γ4,γ5,γ6,some (.tup sy),some (.tup (wl.map wD)),some (maD st mk),some (.tup (z0j st.length)),some (.tup (stsD ss)),some (.tup (L.map (ndD m))),some (.bl (L.all (gd w ((ss[m]?).getD [])))),none]=pure (.tup (stsD (ss.take m))):=by
  simp only [List.getElem?_cons_succ,List.getElem?_cons_zero,Z8,eNeg,J9,eVar,z0d,z0e]
  rw [sl_tup,ze4 (xs:=stsD ss) (by rw [z1y];omega),z1y,show ss.length - 1=m by omega]
  unfold stsD
  rw [List.map_take]
 have e14:e2 fAdd (J9 (eVar 11) z0d (z0e (eNeg (fun _=>pure (.int 1))))) (eTup (z9 (j3 z0w (z9 (x8 [some 11,none] (Y6 (eVar 10)) (gN 1) (fun γ=>do let d ← e2 (fIn true) (eVar 1) (e2 fIx (eVar 0) (eNeg (fun _=>pure (.int 1)))) γ;asB d) (eVar 1)) aNil)) aNil)) [γ0,γ1,γ2,γ3,γ4,γ5,γ6,some (.tup sy),some (.tup (wl.map wD)),some (maD st mk),some (.tup (z0j st.length)),some (.tup (stsD ss)),some (.tup (L.map (ndD m))),some (.bl (L.all (gd w ((ss[m]?).getD [])))),none] h=.ok (.tup (stsD S2)) (h++[.lst (stD ((List.range st.length).filter fun x=>!decide (x∈(ss[m]?).getD [])))]):=by
  have cc:=z8B (cap:=[some 11,none]) (mi:=Y6 (eVar 10)) (g:=gN 1) (kb:=fun γ=>do let d ← e2 (fIn true) (eVar 1) (e2 fIx (eVar 0) (eNeg (fun _=>pure (.int 1)))) γ;asB d) (me:=eVar 1) (γ:=[γ0,γ1,γ2,γ3,γ4,γ5,γ6,some (.tup sy),some (.tup (wl.map wD)),some (maD st mk),some (.tup (z0j st.length)),some (.tup (stsD ss)),some (.tup (L.map (ndD m))),some (.bl (L.all (gd w ((ss[m]?).getD [])))),none]) (h:=h) (src:=.con (z0j st.length)) (l:=List.range st.length) (fun x=>!decide (x∈(ss[m]?).getD [])) (fun x=>.int x) (z6a (j6 rfl)) rfl (fun _=>trivial) (by simp;omega) fun x hx=>⟨[some (.tup (stsD ss)),some (.int x)],fun _=>rfl,fun j=>(cb_h (e2_h (j6 rfl) (e2_h (j6 rfl) (y:=.int (-1)) rfl (by rw [ixl];rfl)) (by rw [z73];rfl))).trans (by rw [Bool.bne_true]),fun _ _=>rfl⟩
  refine e2_h (by rw [cut1];rfl) (z34 (ac_h (z0l cc (z8P z0c)) rfl) (by simp)) ?_
  rw [z6y (by rw [z1y,List.length_take];simp;omega),hS2]
  unfold stsD
  rw [List.map_append]
  rfl
 refine z0p (.tup (stsD S2)) [γ0,γ1,γ2,γ3,γ4,γ5,γ6,some (.tup sy),some (.tup (wl.map wD)),some (maD st mk),some (.tup (z0j st.length)),some (.tup (stsD ss)),some (.tup (L.map (ndD m))),some (.bl (L.all (gd w ((ss[m]?).getD [])))),some (.tup (stsD S2))] e14 rfl ?_
 refine z1R (.bl (L.all (gd w ((S2[m]?).getD [])))) [γ0,γ1,γ2,γ3,γ4,γ5,γ6,some (.tup sy),some (.tup (wl.map wD)),some (maD st mk),some (.tup (z0j st.length)),some (.tup (stsD ss)),some (.tup (L.map (ndD m))),some (.bl (L.all (gd w ((S2[m]?).getD [])))),some (.tup (stsD S2))] (by simp only [List.getElem?_cons_succ,List.getElem?_cons_zero,List.length_cons,List.length_nil,Nat.reduceAdd,z9,aNil,Z8,eFn,eVar,if_true,z5C c2]) rfl ?_
 refine q_if false ?_ ?_
 ·have e:=pr (γ:=[γ0,γ1,γ2,γ3,γ4,γ5,γ6,some (.tup sy),some (.tup (wl.map wD)),some (maD st mk),some (.tup (z0j st.length)),some (.tup (stsD ss)),some (.tup (L.map (ndD m))),some (.bl (L.all (gd w ((S2[m]?).getD [])))),some (.tup (stsD S2))]) (k:=14) c2 rfl rfl rfl rfl rfl
  unfold cNot cVal
  rw [tr_p (mb:=eVar 13) e rfl]
  rfl
 rw [if_neg (by decide)]
 refine z0m ?_
 have lt3:w8 [maD st mk,.tup sy,.tup (stsD S2),.tup [],.tup (L.map (ndD m))]=pure (.bl (L.all (gd w ((S2[m]?).getD [])))):=z5C c3
 have rt3:y9 [maD st mk,.tup sy,.tup (stsD S2),.tup (L.map (ndD m)),.tup []]=pure (.bl (L.all (gd w ((S2[m]?).getD [])))):=z7n c3
 refine z1R (.bl (L.all (gd w ((S2[m]?).getD [])))) [γ0,γ1,γ2,γ3,γ4,γ5,γ6,some (.tup sy),some (.tup (wl.map wD)),some (maD st mk),some (.tup (z0j st.length)),some (.tup (stsD ss)),some (.tup (L.map (ndD m))),some (.bl (L.all (gd w ((S2[m]?).getD [])))),some (.tup (stsD S2))] ((fn_p (ds:=[maD st mk,.tup sy,.tup (stsD S2),.tup [],.tup (L.map (ndD m))]) (z0x rfl (z0x rfl (z0x rfl (z0x rfl (z0x rfl rfl))))) rfl).trans lt3) rfl ?_
 refine Y9 (.bl true) (h1:=h++[.lst (stD ((List.range st.length).filter fun x=>!decide (x∈(ss[m]?).getD [])))]) ?_ rfl
 have e:eFnP 4 0 [] [c_FREE] y9 (z9 (eVar 9) (z9 (eVar 7) (z9 (eVar 14) (z9 (eVar 12) aNil)))) aNil [γ0,γ1,γ2,γ3,γ4,γ5,γ6,some (.tup sy),some (.tup (wl.map wD)),some (maD st mk),some (.tup (z0j st.length)),some (.tup (stsD ss)),some (.tup (L.map (ndD m))),some (.bl (L.all (gd w ((S2[m]?).getD [])))),some (.tup (stsD S2))]=pure (.bl (L.all (gd w ((S2[m]?).getD [])))):=by
  unfold eFnP
  rw [z0x rfl (z0x rfl (z0x rfl (z0x rfl rfl))),Z8,show (aNil:G->M (List D)) _=pure [] from rfl,Z8,if_pos ⟨rfl,rfl⟩]
  exact rt3
 rw [tr_p (mb:=eVar 13) e rfl]
 rfl
end
theorem za1 {γ:G}{h h1:AH}{mb:G->M D}{a:Nat}(e:mb γ h=.ok (.int (a:Nat)) h1):e2 fAdd (fun _=>pure (.int 1)) mb γ h=.ok (.int ((a+1:Nat):Int)) h1:=by
 refine e2_h (x:=.int 1) rfl e ?_
 rw [z1W,show (1:Int)+(a:Int)=((a+1:Nat):Int) by omega]
 rfl
theorem z8T {γ:G}{h h1:AH}{n:Int}{d:D}{me:G->M D}(e1:γ[1]?=some (some (.ref 2))) (em:me γ h=.ok (.int n) h) (e:Z6 [.ref 2,.int n] h=.ok d h1):eFn 2 Z6 (z9 (eVar 1) (z9 me aNil)) γ h=.ok d h1 :=
 fn_h (ds:=[.ref 2,.int n]) (ac_h (j6 e1) (ac_h em rfl)) rfl e
theorem math0 {ns:List Int}(hn:ns.length≤63):W (m_law [.fl (ns.map .int)]) [] (fun d _=>d=.bl true):=by
 refine z1I ?_
 show W (z9p [some (.fl (ns.map .int)),none,none,none,none,none,none,none,none,none,none,none,none,none,none]) [] _
 unfold z9p
 refine z2j (fun d h1=>d=.ref 2/\PS h1 0 []) ?_ ?_
 ·simp only [List.getElem?_cons_zero,List.length_cons,List.length_nil,Nat.reduceAdd,z1F,j9,z1e,W_pure,z9,aNil,eFn,eVar,if_true]
  exact z8M hn
 rintro _ h1 ⟨rfl,p1⟩
 show W (Z2 _ _ [some (.fl (ns.map .int)),some (.ref 2),none,none,none,none,none,none,none,none,none,none,none,none,none]) h1 _
 generalize D.fl (ns.map .int)=scr
 obtain ⟨a,h2,e2',a0,a1,p2⟩:=draw (n:=3) p1 (by decide) (by decide) (by decide)
 obtain ⟨a,rfl⟩:=Int.eq_ofNat_of_zero_le a0
 refine z0p (.int ((a+1:Nat):Int)) [some scr,some (.ref 2),some (.int ((a+1:Nat):Int)),none,none,none,none,none,none,none,none,none,none,none,none] (za1 (z8T rfl rfl e2')) rfl ?_
 obtain ⟨b,h3,e3,b0,b1,p3⟩:=draw (n:=2) p2 (by decide) (by decide) (by decide)
 obtain ⟨b,rfl⟩:=Int.eq_ofNat_of_zero_le b0
 obtain ⟨d4,h4,e4,nn,ln,nS,p4,rfl⟩:=z7X (n:=b+1) (Q:=fun d h'=>∃ nn:List Str,nn.length=b+1/\NS nn/\PS h' (0+1+1+45) ([]++[.lst (nn.map .str)])/\d=.ref 3) p3 trivial (by decide) (by omega) fun nn h' x y z=>⟨nn,x,y,z,rfl⟩
 refine z0p (.ref 3) [some scr,some (.ref 2),some (.int ((a+1:Nat):Int)),some (.ref 3),none,none,none,none,none,none,none,none,none,none,none] (fn_h (ds:=[.ref 2,.int ((b+1:Nat):Int)]) (ac_h (j6 rfl) (ac_h (za1 (z8T rfl rfl e3)) rfl)) rfl e4) rfl ?_
 have nl8:nn.length≤8:=by omega
 obtain ⟨t5,ht5,h5,e5,p5⟩:=z9D (mr:=z9 (fun _=>pure (.str "some")) (z9 (fun _=>pure (.str "all")) aNil)) (γ:=[some scr,some (.ref 2),some (.int ((a+1:Nat):Int)),some (.ref 3),none,none,none,none,none,none,none,none,none,none,none]) (ss:=["some","all"]) (n:=2) p4 (by decide) rfl rfl rfl (by decide) (by decide)
 obtain ⟨t6,ht6,h6,e6,p6⟩:=z9D (mr:=z9 (fun _=>pure (.str "next")) (z9 (fun _=>pure (.str "once")) (z9 (fun _=>pure (.str "ever")) (z9 (fun _=>pure (.str "until")) (z9 (fun _=>pure (.str "unless")) aNil))))) (γ:=[some scr,some (.ref 2),some (.int ((a+1:Nat):Int)),some (.ref 3),none,none,none,none,none,none,none,none,none,none,none]) (ss:=["next","once","ever","until","unless"]) (n:=5) p5 (by decide) rfl rfl rfl (by decide) (by decide)
 have hw0:=List.getElem_mem ht5
 have hv:=List.getElem_mem ht6
 generalize (["some","all"]:List Str)[t5]=w at e5 hw0
 generalize (["next","once","ever","until","unless"]:List Str)[t6]=v at e6 hv
 have hw:w = "some"∨w = "all":=by simpa using hw0
 have lh6:=p6.len
 refine z0p (.ref h6.length) [some scr,some (.ref 2),some (.int ((a+1:Nat):Int)),some (.ref 3),some (.ref h6.length),none,none,none,none,none,none,none,none,none,none] (z8u (ac_h e5 (ac_h e6 rfl)) (by simp)) rfl ?_
 have p7:=p6.app [.lst [.str w,.str v]]
 have gw:∀ {hh:AH} {kk:Int} {j:AH},PS hh kk ([]++[O.lst (nn.map .str)]++[O.lst ((["some","all"]:List Str).map .str)]++[O.lst ((["next","once","ever","until","unless"]:List Str).map .str)]++[O.lst [.str w,.str v]]++j)->hh[h6.length]?=some (.lst [.str w,.str v]):=fun {hh kk j} pp=>by
  rw [lh6]
  show hh[3+3]?=_
  rw [pp.get]
  rfl
 obtain ⟨d8,h8,e8,S,sg,sl6,p8,rfl⟩:=z90 (i:=0) (most:=6) (ns:=nn) (Q:=fun d h'=>∃ S,SGd S/\S.length≤6/\PS h' (0+1+1+45+1+1+50) ([]++[O.lst (nn.map .str)]++[O.lst ((["some","all"]:List Str).map .str)]++[O.lst ((["next","once","ever","until","unless"]:List Str).map .str)]++[O.lst [.str w,.str v]])/\d=.tup (S.map Rw.d)) p7 trivial (by decide) rfl nS nl8 (by decide) (by decide) fun S h' x y z=>⟨S,x,y,z,rfl⟩
 have s1:=sg.l1
 refine z0p (.tup (S.map Rw.d)) [some scr,some (.ref 2),some (.int ((a+1:Nat):Int)),some (.ref 3),some (.ref h6.length),some (.tup (S.map Rw.d)),none,none,none,none,none,none,none,none,none] (fn_h (ds:=[.ref 2,.ref 3,.int 6]) (ac_h (j6 rfl) (ac_h (j6 rfl) (ac_h rfl rfl))) rfl e8) rfl ?_
 obtain ⟨x,h9,e9,x0,x1,p9⟩:=draw (n:=(S.length:Nat)) p8 (by decide) (by omega) (by omega)
 obtain ⟨x,rfl⟩:=Int.eq_ofNat_of_zero_le x0
 obtain ⟨y,hA,eA,y0,y1,pA⟩:=draw (n:=(S.length:Nat)) p9 (by decide) (by omega) (by omega)
 obtain ⟨y,rfl⟩:=Int.eq_ofNat_of_zero_le y0
 have lenS:∀ {γ:G} {h:AH},γ[5]?=some (some (.tup (S.map Rw.d)))->j3 fLen (z9 (eVar 5) aNil) γ h=.ok (.int (S.length:Nat)) h:=fun q=>z0l (j6 q) (by rw [Y3,List.length_map];rfl)
 refine z0p (.ref hA.length) [some scr,some (.ref 2),some (.int ((a+1:Nat):Int)),some (.ref 3),some (.ref h6.length),some (.tup (S.map Rw.d)),some (.ref hA.length),none,none,none,none,none,none,none,none] (z8u (ac_h (z8T rfl (lenS rfl) e9) (ac_h (z8T rfl (lenS rfl) eA) rfl)) (by simp)) rfl ?_
 have pB:=pA.app [.lst [.int (x:Nat),.int (y:Nat)]]
 obtain ⟨hB,ehB⟩:∃ hB,hB=hA++[O.lst [.int (x:Nat),.int (y:Nat)]]:=⟨_,rfl⟩
 rw [← ehB] at pB ⊢
 have gl:hB[hA.length]?=some (.lst [.int (x:Nat),.int (y:Nat)]):=by rw [ehB];exact z0c
 have gwB:=gw pB
 obtain ⟨ps,hps⟩:∃ ps,ps=if v = "until"∨v = "unless" then [x,y] else [x]:=⟨_,rfl⟩
 have g:LR w v ps:=by rw [hps];exact zB2 hw hv
 refine z6V (fun γ h'=>γ=[some scr,some (.ref 2),some (.int ((a+1:Nat):Int)),some (.ref 3),some (.ref h6.length),some (.tup (S.map Rw.d)),some (.ref hA.length),some (.tup (S.map Rw.d++[lrD w v ps])),none,none,none,none,none,none,none]/\h'=hB) ?_ ?_
 ·refine (w_if).mpr ?_
  have w1:∀ {γ:G},γ[4]?=some (some (.ref h6.length))->e2 fIx (eVar 4) (fun _=>pure (.int 1)) γ hB=.ok (.str v) hB:=fun q=>e2_h (j6 q) (y:=.int 1) rfl (ix_h gwB rfl)
  have w0:∀ {γ:G},γ[4]?=some (some (.ref h6.length))->e2 fIx (eVar 4) (fun _=>pure (.int 0)) γ hB=.ok (.str w) hB:=fun q=>e2_h (j6 q) (y:=.int 0) rfl (ix_h gwB rfl)
  have u0:∀ {γ:G},γ[6]?=some (some (.ref hA.length))->e2 fIx (eVar 6) (fun _=>pure (.int 0)) γ hB=.ok (.int (x:Nat)) hB:=fun q=>e2_h (j6 q) (y:=.int 0) rfl (ix_h gl rfl)
  have u1:∀ {γ:G},γ[6]?=some (some (.ref hA.length))->e2 fIx (eVar 6) (fun _=>pure (.int 1)) γ hB=.ok (.int (y:Nat)) hB:=fun q=>e2_h (j6 q) (y:=.int 1) rfl (ix_h gl rfl)
  have eqs:∀ (z:Str) {γ:G},γ[4]?=some (some (.ref h6.length))->(fun γ:G=>(do let d ← e2 (fEq false) (e2 fIx (eVar 4) (fun _=>pure (.int 1))) (fun _=>pure (.str z)) γ;asB d:M Bool)) γ hB=.ok (decide (v=z)) hB:=fun z {γ} q=>(cb_h (e2_h (w1 q) (y:=.str z) rfl (by rw [z0C];rfl))).trans (by rw [Bool.bne_false])
  refine W_of (v:=decide (v = "until"∨v = "unless")) (h1:=hB) ?_ ?_
  ·by_cases vu:v = "until"
   ·rw [zt9 ((eqs "until" rfl).trans (by rw [decide_eq_true vu])),decide_eq_true (.inl vu)]
   ·rw [zu4 ((eqs "until" rfl).trans (by rw [decide_eq_false vu]))]
    refine (eqs "unless" rfl).trans ?_
    congr 1
    rw [decide_eq_decide]
    simp [vu]
  have lsy:(S.map Rw.d).length≤6:=by rw [List.length_map];exact sl6
  by_cases vu:v = "until"∨v = "unless"
  ·rw [decide_eq_true vu,if_pos rfl]
   rw [if_pos vu] at hps
   subst hps
   refine z0p (.tup (S.map Rw.d++[lrD w v [x,y]])) [some scr,some (.ref 2),some (.int ((a+1:Nat):Int)),some (.ref 3),some (.ref h6.length),some (.tup (S.map Rw.d)),some (.ref hA.length),some (.tup (S.map Rw.d++[lrD w v [x,y]])),none,none,none,none,none,none,none] (h1:=hB) (e2_h (j6 rfl) (z34 (ac_h (z34 (ac_h (w0 rfl) (ac_h (w1 rfl) (ac_h (u0 rfl) (ac_h (u1 rfl) rfl)))) (by simp)) rfl) (by simp)) (by rw [z6y (by simp;omega)];rfl)) rfl ?_
   exact z1a ⟨rfl,rfl⟩
  ·rw [decide_eq_false vu,if_neg (by decide)]
   rw [if_neg vu] at hps
   subst hps
   refine z0p (.tup (S.map Rw.d++[lrD w v [x]])) [some scr,some (.ref 2),some (.int ((a+1:Nat):Int)),some (.ref 3),some (.ref h6.length),some (.tup (S.map Rw.d)),some (.ref hA.length),some (.tup (S.map Rw.d++[lrD w v [x]])),none,none,none,none,none,none,none] (h1:=hB) (e2_h (j6 rfl) (z34 (ac_h (z34 (ac_h (w0 rfl) (ac_h (w1 rfl) (ac_h (u0 rfl) rfl))) (by simp)) rfl) (by simp)) (by rw [z6y (by simp;omega)];rfl)) rfl ?_
   exact z1a ⟨rfl,rfl⟩
 rintro _ _ ⟨rfl,rfl⟩
 obtain ⟨sy,hsy⟩:∃ sy,sy=S.map Rw.d++[lrD w v ps]:=⟨_,rfl⟩
 have syl:sy.length=S.length+1:=by rw [hsy];simp
 have eS:sy[S.length]?=some (lrD w v ps):=by
  rw [hsy,List.getElem?_append_right (by simp)]
  simp
 rw [← hsy]
 obtain ⟨dC,hC,eC,wl,lw,wn,pC,rfl⟩:=z94 (i:=0) (mo:=2) (ns:=nn) (Q:=fun d h'=>∃ wl:List (Str×Str),wl.length≤4/\(∀ q∈wl,q.2≠"")/\PS h' (0+1+1+45+1+1+50+1+1+20) _/\d=.tup (wl.map wD)) pB trivial (by decide) rfl nl8 nS (by decide) fun wl h' x y z=>⟨wl,x,y,z,rfl⟩
 refine z0p (.tup (wl.map wD)) [some scr,some (.ref 2),some (.int ((a+1:Nat):Int)),some (.ref 3),some (.ref h6.length),some (.tup (S.map Rw.d)),some (.ref hA.length),some (.tup sy),some (.tup (wl.map wD)),none,none,none,none,none,none] (fn_h (ds:=[.ref 2,.ref 3,.int 2]) (ac_h (j6 rfl) (ac_h (j6 rfl) (ac_h rfl rfl))) rfl eC) rfl ?_
 obtain ⟨dD,hD,eD,st,mk,ma,lst,pD,rfl⟩:=z8r (i:=0) (most:=6) (ns:=nn) (Q:=fun d h'=>∃ st mk,MA st mk/\st.length≤6/\PS h' (0+1+1+45+1+1+50+1+1+20+2000) _/\d=maD st mk) pC (by decide) (by decide) (by decide) rfl nl8 nS fun st mk h' x y z=>⟨st,mk,x,y,z,rfl⟩
 refine z0p (maD st mk) [some scr,some (.ref 2),some (.int ((a+1:Nat):Int)),some (.ref 3),some (.ref h6.length),some (.tup (S.map Rw.d)),some (.ref hA.length),some (.tup sy),some (.tup (wl.map wD)),some (maD st mk),none,none,none,none,none] (fn_h (ds:=[.ref 2,.ref 3,.int 6]) (ac_h (j6 rfl) (ac_h (j6 rfl) (ac_h rfl rfl))) rfl eD) rfl ?_
 refine z1R (.tup (z0j st.length)) [some scr,some (.ref 2),some (.int ((a+1:Nat):Int)),some (.ref 3),some (.ref h6.length),some (.tup (S.map Rw.d)),some (.ref hA.length),some (.tup sy),some (.tup (wl.map wD)),some (maD st mk),some (.tup (z0j st.length)),none,none,none,none] (by rw [zm8 (n:=st.length) (by simp only [List.getElem?_cons_succ,List.getElem?_cons_zero,z9,aNil,Z8,e2,j3,eVar,z2L,Y3,z1y]) (by omega)];rfl) rfl ?_
 refine z2j _ (zm4 (n:=st.length) (sy:=sy) pD (by decide) (by omega) (by omega) rfl rfl rfl) ?_
 rintro _ hE ⟨ss,jE,rfl,lss,pE⟩
 refine z2j _ (z8N (mk:=mk) (many:=a+1) pE (by decide) ma g syl eS (by omega) (by omega) rfl rfl rfl rfl) ?_
 rintro _ hF ⟨L,jF,rfl,lL,ok,pF⟩
 exact zy7 ma g syl eS lss (by omega) (fun n hn=>by rw [lL];exact ok n hn) (by omega) (by omega) (by omega) wn
theorem math:∀ ns:List Int,ns.length≤63->∃ h',m_law [.fl (ns.map .int)] []=.ok (.bl true) h':=fun ns hn=>by
 obtain ⟨d,h',e,ed⟩:=math0 hn
 exact ⟨h',by rw [e,ed]⟩
theorem okL_law {P:Program}{w:World}{K:PySem.W.Frag}{mg:Str->Option Value}{base:Heap}{f:Addr}{fd:FuncData}(F:Fun K "law" "law" (top 56) f fd) (z_len:mg "len" = none) (z_range:mg "range" = none) (z_tuple:mg "tuple" = none) (F__law_draw:Fn P w K mg base 1 "_law_draw" 2 Z6) (F__law_machine:Fn P w K mg base 2 "_law_machine" 3 z17) (F__law_names:Fn P w K mg base 3 "_law_names" 2 z1L) (F__law_pool:Fn P w K mg base 1 "_law_pool" 1 z21) (F__law_saying:Fn P w K mg base 3 "_law_saying" 3 z1o) (F__law_shut:Fn P w K mg base 4 "_law_shut" 4 z1A) (F__law_tree_right:Fn P w K mg base 5 "_law_tree_right" 5 w8) (F__law_truth:Fn P w K mg base 1 "_law_truth" 2 Y4) (F__law_wishes:Fn P w K mg base 2 "_law_wishes" 3 z1t) (F_right_tree__k:FnP P w K mg base 6 "right_tree" 4 [] [] [c_FREE] y9) (F_right_tree__kwishes:FnP P w K mg base 6 "right_tree" 4 ["wishes"] [] [] y9):FnOk P w K mg base CX0 7 f fd ["_law_script"] (spB K m_law 1) :=
 zw7 F sc_law rfl fun cdv A outer s H E hr=>(show SB (cxOf CX0 P w K mg base ["_law_script","_law_pool_here","_law_many","_law_names_here","_law_words","_law_rows","_law_last","_law_saying_here","_law_wants","_law_machine_here","_law_full","_law_sets","_law_thing","_law_due","_law_second"] "law" (Z5 (top 56)) f cdv A outer s H E).nox EX0 (j7 (top 56)) z9p from
  have nd:(["_law_script","_law_pool_here","_law_many","_law_names_here","_law_words","_law_rows","_law_last","_law_saying_here","_law_wants","_law_machine_here","_law_full","_law_sets","_law_thing","_law_due","_law_second"]:List Str).Nodup:=sc_law.nd
  (Z0 (J7 1 nd (Z7 F__law_pool (hr.mono (by decide)) rfl (z0 (z3 0) Z1))) (Z0 (J7 2 nd (x9 Z3 (Z7 F__law_draw (hr.mono (by decide)) rfl (z0 (z3 1) (z0 Z3 Z1))))) (Z0 (J7 3 nd (Z7 F__law_names (hr.mono (by decide)) rfl (z0 (z3 1) (z0 (x9 Z3 (Z7 F__law_draw (hr.mono (by decide)) rfl (z0 (z3 1) (z0 Z3 Z1)))) Z1)))) (Z0 (J7 4 nd (J0 (z0 (Z9 (J0 (z0 j8 (z0 j8 Z1))) (Z7 F__law_draw (hr.mono (by decide)) rfl (z0 (z3 1) (z0 Z3 Z1)))) (z0 (Z9 (J0 (z0 j8 (z0 j8 (z0 j8 (z0 j8 (z0 j8 Z1)))))) (Z7 F__law_draw (hr.mono (by decide)) rfl (z0 (z3 1) (z0 Z3 Z1)))) Z1)))) (Z0 (J7 5 nd (Z7 F__law_saying (hr.mono (by decide)) rfl (z0 (z3 1) (z0 (z3 3) (z0 Z3 Z1))))) (Z0 (J7 6 nd (J0 (z0 (Z7 F__law_draw (hr.mono (by decide)) rfl (z0 (z3 1) (z0 (J2 rfl z_len (z0 (z3 5) Z1)) Z1))) (z0 (Z7 F__law_draw (hr.mono (by decide)) rfl (z0 (z3 1) (z0 (J2 rfl z_len (z0 (z3 5) Z1)) Z1))) Z1)))) (Z0 (s_if (SW.sc (z2l (sc_c z0k (Z9 (z3 4) Z3) j8) (z1f (sc_c z0k (Z9 (z3 4) Z3) j8)))) (Z0 (J7 7 nd (x9 (z3 5) (Y0 (z0 (Y0 (z0 (Z9 (z3 4) Z3) (z0 (Z9 (z3 4) Z3) (z0 (Z9 (z3 6) Z3) (z0 (Z9 (z3 6) Z3) Z1))))) Z1)))) Z4) (Z0 (J7 7 nd (x9 (z3 5) (Y0 (z0 (Y0 (z0 (Z9 (z3 4) Z3) (z0 (Z9 (z3 4) Z3) (z0 (Z9 (z3 6) Z3) Z1)))) Z1)))) Z4)) (Z0 (J7 8 nd (Z7 F__law_wishes (hr.mono (by decide)) rfl (z0 (z3 1) (z0 (z3 3) (z0 Z3 Z1))))) (Z0 (J7 9 nd (Z7 F__law_machine (hr.mono (by decide)) rfl (z0 (z3 1) (z0 (z3 3) (z0 Z3 Z1))))) (Z0 (J7 10 nd (zd0 rfl rfl z_tuple rfl z_range (J2 rfl z_len (z0 (Z9 (z3 9) Z3) Z1)))) (Z0 (J7 11 nd (z0N rfl z_tuple (z0 (z02 (N':=["_law_full","_law_pool_here","_law_row_here"]) (cap:=[some 10,some 1,none]) rfl (z0y (by first | rfl | kernel_rfl!)) (z0v (z3 7)) (fun _ _ _ _=>(y8 2 (show (["_law_full","_law_pool_here","_law_row_here"]:List Str).Nodup by decide +kernel))) (fun _ _ _ _=>z00) (fun _ _ _ _=>(z0N rfl z_tuple (z0 (z02 (N':=["_law_pool_here","_law_one"]) (cap:=[some 1,none]) rfl (z0y (by first | rfl | kernel_rfl!)) (z0v (z3 0)) (fun _ _ _ _=>(y8 1 (show (["_law_pool_here","_law_one"]:List Str).Nodup by decide +kernel))) (fun _ _ _ _=>(z1c (sc_c z0k (Z7 F__law_draw (hr.mono (by decide)) rfl (z0 (z3 0) (z0 Z3 Z1))) Z3))) (fun _ _ _ _=>(z3 1))) Z1)))) Z1))) (Z0 (J7 12 nd (z0N rfl z_tuple (z0 (z02 (N':=["_law_pool_here","_law_machine_here","_law_saying_here","_law_many","_law_k"]) (cap:=[some 1,some 9,some 7,some 2,none]) rfl (z0y (by first | rfl | kernel_rfl!)) (z0A rfl z_range (z3 2)) (fun _ _ _ _=>(y8 4 (show (["_law_pool_here","_law_machine_here","_law_saying_here","_law_many","_law_k"]:List Str).Nodup by decide +kernel))) (fun _ _ _ _=>z00) (fun _ _ _ _=>(Z7 F__law_shut (hr.mono (by decide)) rfl (z0 (z3 0) (z0 (z3 1) (z0 (z3 2) (z0 (z3 3) Z1))))))) Z1))) (Z0 (J7 13 nd (Z7 F__law_tree_right (hr.mono (by decide)) rfl (z0 (z3 9) (z0 (z3 7) (z0 (z3 11) (z0 (z3 8) (z0 (z3 12) Z1))))))) (Z0 (s_if (z07 (Y8 (Z7 F__law_truth (hr.mono (by decide)) rfl (z0 (z3s F_right_tree__kwishes (hr.mono (by decide)) rfl (z0 (z3 9) (z0 (z3 7) (z0 (z3 11) (z0 (z3 12) Z1)))) (z5p (z3 8) z6c)) (z0 (z3 13) Z1))))) (Z0 (y6 z0E) Z4) Z4) (Z0 (J7 14 nd (x9 (z0H (z3 11) z15 (z16 (z40 Z3))) (Y0 (z0 (z0N rfl z_tuple (z0 (z02 (N':=["_law_sets","_law_one"]) (cap:=[some 11,none]) rfl (z0y (by first | rfl | kernel_rfl!)) (z0v (z3 10)) (fun _ _ _ _=>(y8 1 (show (["_law_sets","_law_one"]:List Str).Nodup by decide +kernel))) (fun _ _ _ _=>(z1c (sc_c z3p (z3 1) (Z9 (z3 0) (z40 Z3))))) (fun _ _ _ _=>(z3 1))) Z1)) Z1)))) (Z0 (J7 13 nd (Z7 F__law_tree_right (hr.mono (by decide)) rfl (z0 (z3 9) (z0 (z3 7) (z0 (z3 14) (z0 (z3 8) (z0 (z3 12) Z1))))))) (Z0 (s_if (z07 (Y8 (Z7 F__law_truth (hr.mono (by decide)) rfl (z0 (z3s F_right_tree__kwishes (hr.mono (by decide)) rfl (z0 (z3 9) (z0 (z3 7) (z0 (z3 14) (z0 (z3 12) Z1)))) (z5p (z3 8) z6c)) (z0 (z3 13) Z1))))) (Z0 (y6 z0E) Z4) Z4) (Z0 (J7 13 nd (Z7 F__law_tree_right (hr.mono (by decide)) rfl (z0 (z3 9) (z0 (z3 7) (z0 (z3 14) (z0 (Y0 Z1) (z0 (z3 12) Z1))))))) (Z0 (y6 (Z7 F__law_truth (hr.mono (by decide)) rfl (z0 (z3s F_right_tree__k (hr.mono (by decide)) rfl (z0 (z3 9) (z0 (z3 7) (z0 (z3 14) (z0 (z3 12) Z1)))) z6c) (z0 (z3 13) Z1)))) Z4))))))))))))))))))))
end FT
namespace FT
def zh1:List Bool->List PySem.Stmt->List PySem.Stmt
 | true :: r,x :: xs=>x :: zh1 r xs
 | false :: r,_ :: xs=>zh1 r xs
 | _,_=>[]
def qv:PySem.Program:={ PySem.Challenge.pw_fairtrees_k49_walls_by_sets with main:={ PySem.Challenge.pw_fairtrees_k49_walls_by_sets.main with body:=zh1 [true,true,true,false,true,true,true,true,true,false,true,true,false,true,true,true,false,true,true,false,true,false,false,true,true,true,true,true,true,true,false,true,true,true,true,true,true,true,true,true,true,true,true,true,true,true,true,true,true,true,true,true,true,true,true,true,true] PySem.Challenge.pw_fairtrees_k49_walls_by_sets.main.body } }
def looseQ:List PySem.Str:=[PySem.Str.ofString "is_fair",PySem.Str.ofString "right_tree"]
end FT
open PySem PySem.W PyProof.Rows
local macro_rules | `(tactic| o_head $H)=>`(tactic| (refine holds_open (q:=FT.qv) (loose:=FT.looseQ) (Xt:=fun s=>xlAt FT.qv [] s && recOk (RowW.records (OpenRow.toRowW (OpenLaw.row PySem.Challenge.rw_fairtrees_k49_walls_by_sets))) s) (XP:=XL FT.qv []) (Yf:=Hook.obs $H) (Ya:=Hook.val $H) (YP:=Hook.says $H) (N:=30000) ?_ (Hook.of $H) (Hook.keeps $H) (fun s e=>xl_of s (Bool.and_eq_true_iff.mp e).1) XL.keeps (by rfl) (by rfl) (by rfl) (fun s e=>recFacts_of (Bool.and_eq_true_iff.mp e).2) (by rfl) (by first | assumption | decide +kernel) (by decide +kernel) ⟨rfl,rfl,rfl,rfl,rfl,by decide +kernel⟩ ?_ ?_))
set_option maxRecDepth 100000 in
set_option maxHeartbeats 0 in
theorem PySem.Challenge.cw_fairtrees_k49_walls_by_sets_holds : PySem.Challenge.rw_fairtrees_k49_walls_by_sets.Holds := by
 w_on;o_law;k_head
 next=>exact fun w=>by kernel_rfl
 next=>w_witness2
 k_fill
 refine FT.law_walk (l:=PySem.Challenge.rw_fairtrees_k49_walls_by_sets) (lev:=7) (p:="_law_script") (m:=FT.m_law) rfl rfl ⟨rfl,by decide,by decide,rfl⟩ (fun w h Y=>PySem.W.kIn_of Y) ?F FT.math
 case F =>
  intro w mg fa h KX G hmg
  have T_is_number:FT.DefAt (L2.KOf KX) "is_number" (FT.top 4):=by
   dsimp only [L2.KOf]
   refine' FT.defAt_mk ?a ?l ?c ?k
   (case a=>k_is);(case l=>k_is);(case c=>k_is);(case k=>k_is)
  have T_is_number_from:FT.DefAt (L2.KOf KX) "is_number_from" (FT.top 5):=by
   dsimp only [L2.KOf]
   refine' FT.defAt_mk ?a ?l ?c ?k
   (case a=>k_is);(case l=>k_is);(case c=>k_is);(case k=>k_is)
  have T_is_truth:FT.DefAt (L2.KOf KX) "is_truth" (FT.top 6):=by
   dsimp only [L2.KOf]
   refine' FT.defAt_mk ?a ?l ?c ?k
   (case a=>k_is);(case l=>k_is);(case c=>k_is);(case k=>k_is)
  have T_is_tuple:FT.DefAt (L2.KOf KX) "is_tuple" (FT.top 7):=by
   dsimp only [L2.KOf]
   refine' FT.defAt_mk ?a ?l ?c ?k
   (case a=>k_is);(case l=>k_is);(case c=>k_is);(case k=>k_is)
  have T_is_tuple_of:FT.DefAt (L2.KOf KX) "is_tuple_of" (FT.top 8):=by
   dsimp only [L2.KOf]
   refine' FT.defAt_mk ?a ?l ?c ?k
   (case a=>k_is);(case l=>k_is);(case c=>k_is);(case k=>k_is)
  have T_bears:FT.DefAt (L2.KOf KX) "bears" (FT.top 10):=by
   dsimp only [L2.KOf]
   refine' FT.defAt_mk ?a ?l ?c ?k
   (case a=>k_is);(case l=>k_is);(case c=>k_is);(case k=>k_is)
  have T_is_borne:FT.DefAt (L2.KOf KX) "is_borne" (FT.top 11):=by
   dsimp only [L2.KOf]
   refine' FT.defAt_mk ?a ?l ?c ?k
   (case a=>k_is);(case l=>k_is);(case c=>k_is);(case k=>k_is)
  have T_words_of:FT.DefAt (L2.KOf KX) "words_of" (FT.top 14):=by
   dsimp only [L2.KOf]
   refine' FT.defAt_mk ?a ?l ?c ?k
   (case a=>k_is);(case l=>k_is);(case c=>k_is);(case k=>k_is)
  have T_parts_of:FT.DefAt (L2.KOf KX) "parts_of" (FT.top 15):=by
   dsimp only [L2.KOf]
   refine' FT.defAt_mk ?a ?l ?c ?k
   (case a=>k_is);(case l=>k_is);(case c=>k_is);(case k=>k_is)
  have T_is_told:FT.DefAt (L2.KOf KX) "is_told" (FT.top 17):=by
   dsimp only [L2.KOf]
   refine' FT.defAt_mk ?a ?l ?c ?k
   (case a=>k_is);(case l=>k_is);(case c=>k_is);(case k=>k_is)
  have T_right_run:FT.DefAt (L2.KOf KX) "right_run" (FT.top 18):=by
   dsimp only [L2.KOf]
   refine' FT.defAt_mk ?a ?l ?c ?k
   (case a=>k_is);(case l=>k_is);(case c=>k_is);(case k=>k_is)
  obtain ⟨dk_is_fair,T_is_fair⟩:∃ dk,FT.DefK (L2.KOf KX) "is_fair" (FT.top 19) dk:=by
   dsimp only [L2.KOf]
   refine' ⟨_,FT.defK_mk ?qa ?ql ?qc ?qk⟩
   (case qa=>k_is);(case ql=>k_is);(case qc=>k_is);(case qk=>k_is)
  have T_standing_at:FT.DefAt (L2.KOf KX) "standing_at" (FT.top 20):=by
   dsimp only [L2.KOf]
   refine' FT.defAt_mk ?a ?l ?c ?k
   (case a=>k_is);(case l=>k_is);(case c=>k_is);(case k=>k_is)
  have T_shows_run:FT.DefAt (L2.KOf KX) "shows_run" (FT.top 25):=by
   dsimp only [L2.KOf]
   refine' FT.defAt_mk ?a ?l ?c ?k
   (case a=>k_is);(case l=>k_is);(case c=>k_is);(case k=>k_is)
  have T_unlike_ones:FT.DefAt (L2.KOf KX) "unlike_ones" (FT.top 28):=by
   dsimp only [L2.KOf]
   refine' FT.defAt_mk ?a ?l ?c ?k
   (case a=>k_is);(case l=>k_is);(case c=>k_is);(case k=>k_is)
  have T_leaving:FT.DefAt (L2.KOf KX) "leaving" (FT.top 29):=by
   dsimp only [L2.KOf]
   refine' FT.defAt_mk ?a ?l ?c ?k
   (case a=>k_is);(case l=>k_is);(case c=>k_is);(case k=>k_is)
  have T_run_choices:FT.DefAt (L2.KOf KX) "run_choices" (FT.top 27):=by
   dsimp only [L2.KOf]
   refine' FT.defAt_mk ?a ?l ?c ?k
   (case a=>k_is);(case l=>k_is);(case c=>k_is);(case k=>k_is)
  have T_plain_choices:FT.DefAt (L2.KOf KX) "plain_choices" (FT.top 26):=by
   dsimp only [L2.KOf]
   refine' FT.defAt_mk ?a ?l ?c ?k
   (case a=>k_is);(case l=>k_is);(case c=>k_is);(case k=>k_is)
  have T_is_right:FT.DefAt (L2.KOf KX) "is_right" (FT.top 24):=by
   dsimp only [L2.KOf]
   refine' FT.defAt_mk ?a ?l ?c ?k
   (case a=>k_is);(case l=>k_is);(case c=>k_is);(case k=>k_is)
  have T_is_node:FT.DefAt (L2.KOf KX) "is_node" (FT.top 23):=by
   dsimp only [L2.KOf]
   refine' FT.defAt_mk ?a ?l ?c ?k
   (case a=>k_is);(case l=>k_is);(case c=>k_is);(case k=>k_is)
  obtain ⟨dk_right_tree,T_right_tree,v_right_tree_wishes,u_right_tree_wishes,D_right_tree_wishes⟩:∃ dk,FT.DefK (L2.KOf KX) "right_tree" (FT.top 22) dk/\∃ v u,FT.KD (L2.KOf KX) dk "wishes" FT.c_FREE v u:=by
   dsimp only [L2.KOf]
   refine' ⟨_,FT.defK_mk ?qa ?ql ?qc ?qk,_,_,FT.kd_tup ?qn0 ?qt0 ?qr0 ?qz0⟩
   (case qa=>k_is);(case ql=>k_is);(case qc=>k_is);(case qk=>k_is)
   (case qn0=>k_is)
   (case qt0=>k_is);(case qr0=>first | rfl | decide +kernel);(case qz0=>decide +kernel)
  have T__law_pool:FT.DefAt (L2.KOf KX) "_law_pool" (FT.top 31):=by
   dsimp only [L2.KOf]
   refine' FT.defAt_mk ?a ?l ?c ?k
   (case a=>k_is);(case l=>k_is);(case c=>k_is);(case k=>k_is)
  have T__law_draw:FT.DefAt (L2.KOf KX) "_law_draw" (FT.top 32):=by
   dsimp only [L2.KOf]
   refine' FT.defAt_mk ?a ?l ?c ?k
   (case a=>k_is);(case l=>k_is);(case c=>k_is);(case k=>k_is)
  have T__law_name:FT.DefAt (L2.KOf KX) "_law_name" (FT.top 33):=by
   dsimp only [L2.KOf]
   refine' FT.defAt_mk ?a ?l ?c ?k
   (case a=>k_is);(case l=>k_is);(case c=>k_is);(case k=>k_is)
  have T__law_names:FT.DefAt (L2.KOf KX) "_law_names" (FT.top 34):=by
   dsimp only [L2.KOf]
   refine' FT.defAt_mk ?a ?l ?c ?k
   (case a=>k_is);(case l=>k_is);(case c=>k_is);(case k=>k_is)
  have T__law_machine:FT.DefAt (L2.KOf KX) "_law_machine" (FT.top 35):=by
   dsimp only [L2.KOf]
   refine' FT.defAt_mk ?a ?l ?c ?k
   (case a=>k_is);(case l=>k_is);(case c=>k_is);(case k=>k_is)
  have T__law_wishes:FT.DefAt (L2.KOf KX) "_law_wishes" (FT.top 36):=by
   dsimp only [L2.KOf]
   refine' FT.defAt_mk ?a ?l ?c ?k
   (case a=>k_is);(case l=>k_is);(case c=>k_is);(case k=>k_is)
  have T__law_row:FT.DefAt (L2.KOf KX) "_law_row" (FT.top 37):=by
   dsimp only [L2.KOf]
   refine' FT.defAt_mk ?a ?l ?c ?k
   (case a=>k_is);(case l=>k_is);(case c=>k_is);(case k=>k_is)
  have T__law_saying:FT.DefAt (L2.KOf KX) "_law_saying" (FT.top 38):=by
   dsimp only [L2.KOf]
   refine' FT.defAt_mk ?a ?l ?c ?k
   (case a=>k_is);(case l=>k_is);(case c=>k_is);(case k=>k_is)
  have T__law_number:FT.DefAt (L2.KOf KX) "_law_number" (FT.top 39):=by
   dsimp only [L2.KOf]
   refine' FT.defAt_mk ?a ?l ?c ?k
   (case a=>k_is);(case l=>k_is);(case c=>k_is);(case k=>k_is)
  have T__law_tuple:FT.DefAt (L2.KOf KX) "_law_tuple" (FT.top 40):=by
   dsimp only [L2.KOf]
   refine' FT.defAt_mk ?a ?l ?c ?k
   (case a=>k_is);(case l=>k_is);(case c=>k_is);(case k=>k_is)
  have T__law_truth:FT.DefAt (L2.KOf KX) "_law_truth" (FT.top 41):=by
   dsimp only [L2.KOf]
   refine' FT.defAt_mk ?a ?l ?c ?k
   (case a=>k_is);(case l=>k_is);(case c=>k_is);(case k=>k_is)
  have T__law_walk:FT.DefAt (L2.KOf KX) "_law_walk" (FT.top 42):=by
   dsimp only [L2.KOf]
   refine' FT.defAt_mk ?a ?l ?c ?k
   (case a=>k_is);(case l=>k_is);(case c=>k_is);(case k=>k_is)
  have T__law_closed:FT.DefAt (L2.KOf KX) "_law_closed" (FT.top 43):=by
   dsimp only [L2.KOf]
   refine' FT.defAt_mk ?a ?l ?c ?k
   (case a=>k_is);(case l=>k_is);(case c=>k_is);(case k=>k_is)
  have T__law_pair:FT.DefAt (L2.KOf KX) "_law_pair" (FT.top 44):=by
   dsimp only [L2.KOf]
   refine' FT.defAt_mk ?a ?l ?c ?k
   (case a=>k_is);(case l=>k_is);(case c=>k_is);(case k=>k_is)
  have T__law_run_good:FT.DefAt (L2.KOf KX) "_law_run_good" (FT.top 45):=by
   dsimp only [L2.KOf]
   refine' FT.defAt_mk ?a ?l ?c ?k
   (case a=>k_is);(case l=>k_is);(case c=>k_is);(case k=>k_is)
  have T__law_at:FT.DefAt (L2.KOf KX) "_law_at" (FT.top 46):=by
   dsimp only [L2.KOf]
   refine' FT.defAt_mk ?a ?l ?c ?k
   (case a=>k_is);(case l=>k_is);(case c=>k_is);(case k=>k_is)
  have T__law_fair_ring:FT.DefAt (L2.KOf KX) "_law_fair_ring" (FT.top 47):=by
   dsimp only [L2.KOf]
   refine' FT.defAt_mk ?a ?l ?c ?k
   (case a=>k_is);(case l=>k_is);(case c=>k_is);(case k=>k_is)
  have T__law_here:FT.DefAt (L2.KOf KX) "_law_here" (FT.top 48):=by
   dsimp only [L2.KOf]
   refine' FT.defAt_mk ?a ?l ?c ?k
   (case a=>k_is);(case l=>k_is);(case c=>k_is);(case k=>k_is)
  have T__law_node_kind:FT.DefAt (L2.KOf KX) "_law_node_kind" (FT.top 49):=by
   dsimp only [L2.KOf]
   refine' FT.defAt_mk ?a ?l ?c ?k
   (case a=>k_is);(case l=>k_is);(case c=>k_is);(case k=>k_is)
  have T__law_plain_right:FT.DefAt (L2.KOf KX) "_law_plain_right" (FT.top 50):=by
   dsimp only [L2.KOf]
   refine' FT.defAt_mk ?a ?l ?c ?k
   (case a=>k_is);(case l=>k_is);(case c=>k_is);(case k=>k_is)
  have T__law_place_claims:FT.DefAt (L2.KOf KX) "_law_place_claims" (FT.top 51):=by
   dsimp only [L2.KOf]
   refine' FT.defAt_mk ?a ?l ?c ?k
   (case a=>k_is);(case l=>k_is);(case c=>k_is);(case k=>k_is)
  have T__law_shown_right:FT.DefAt (L2.KOf KX) "_law_shown_right" (FT.top 52):=by
   dsimp only [L2.KOf]
   refine' FT.defAt_mk ?a ?l ?c ?k
   (case a=>k_is);(case l=>k_is);(case c=>k_is);(case k=>k_is)
  have T__law_node_right:FT.DefAt (L2.KOf KX) "_law_node_right" (FT.top 53):=by
   dsimp only [L2.KOf]
   refine' FT.defAt_mk ?a ?l ?c ?k
   (case a=>k_is);(case l=>k_is);(case c=>k_is);(case k=>k_is)
  have T__law_tree_right:FT.DefAt (L2.KOf KX) "_law_tree_right" (FT.top 54):=by
   dsimp only [L2.KOf]
   refine' FT.defAt_mk ?a ?l ?c ?k
   (case a=>k_is);(case l=>k_is);(case c=>k_is);(case k=>k_is)
  have T__law_shut:FT.DefAt (L2.KOf KX) "_law_shut" (FT.top 55):=by
   dsimp only [L2.KOf]
   refine' FT.defAt_mk ?a ?l ?c ?k
   (case a=>k_is);(case l=>k_is);(case c=>k_is);(case k=>k_is)
  have T_law:FT.DefAt (L2.KOf KX) "law" (FT.top 56):=by
   dsimp only [L2.KOf]
   refine' FT.defAt_mk ?a ?l ?c ?k
   (case a=>k_is);(case l=>k_is);(case c=>k_is);(case k=>k_is)
  have z_bool:mg "bool" = none:=PySem.W.mg_none_of KX G (by k_is)
  have z_int:mg "int" = none:=PySem.W.mg_none_of KX G (by k_is)
  have z_isinstance:mg "isinstance" = none:=PySem.W.mg_none_of KX G (by k_is)
  have z_tuple:mg "tuple" = none:=PySem.W.mg_none_of KX G (by k_is)
  have z_len:mg "len" = none:=PySem.W.mg_none_of KX G (by k_is)
  have z_any:mg "any" = none:=PySem.W.mg_none_of KX G (by k_is)
  have z_all:mg "all" = none:=PySem.W.mg_none_of KX G (by k_is)
  have z_max:mg "max" = none:=PySem.W.mg_none_of KX G (by k_is)
  have z_zip:mg "zip" = none:=PySem.W.mg_none_of KX G (by k_is)
  have z_list:mg "list" = none:=PySem.W.mg_none_of KX G (by k_is)
  have z_range:mg "range" = none:=PySem.W.mg_none_of KX G (by k_is)
  have z_sorted:mg "sorted" = none:=PySem.W.mg_none_of KX G (by k_is)
  have z_min:mg "min" = none:=PySem.W.mg_none_of KX G (by k_is)
  have C_RUNS:FT.Cst (L2.KOf KX) mg "RUNS" FT.c_RUNS:=by
   dsimp only [L2.KOf]
   refine' FT.cst_tup (PySem.W.mg_of KX G ?a) ?l ?r ?z
   (case a=>k_is);(case l=>k_is);(case r=>first | rfl | decide +kernel);(case z=>decide +kernel)
  have C_MOST:FT.Cst (L2.KOf KX) mg "MOST" FT.c_MOST:=by
   dsimp only [L2.KOf]
   refine' FT.cst_int (PySem.W.mg_of KX G ?a)
   (case a=>k_is)
  have C_NUMBERS:FT.Cst (L2.KOf KX) mg "NUMBERS" FT.c_NUMBERS:=by
   dsimp only [L2.KOf]
   refine' FT.cst_int (PySem.W.mg_of KX G ?a)
   (case a=>k_is)
  obtain ⟨f,fd,hf,F⟩:=T_law
  have e:=hmg.symm.trans (PySem.W.mg_of KX G hf)
  cases e
  refine ⟨fd,FT.bindsTo1 F (fun _ _ _ _ _ _ _=>rfl),fun base _ _=>?_⟩
  have F_is_number:=FT.ok_is_number (P:=PySem.Challenge.rw_fairtrees_k49_walls_by_sets.prog) (w:=w) (base:=base) T_is_number (fun v e=>PySem.W.mg_of KX G e) z_bool z_int z_isinstance
  have F_is_number_from:=FT.ok_is_number_from (P:=PySem.Challenge.rw_fairtrees_k49_walls_by_sets.prog) (w:=w) (base:=base) T_is_number_from (fun v e=>PySem.W.mg_of KX G e) F_is_number
  have F_is_truth:=FT.ok_is_truth (P:=PySem.Challenge.rw_fairtrees_k49_walls_by_sets.prog) (w:=w) (base:=base) T_is_truth (fun v e=>PySem.W.mg_of KX G e)
  have F_is_tuple:=FT.ok_is_tuple (P:=PySem.Challenge.rw_fairtrees_k49_walls_by_sets.prog) (w:=w) (base:=base) T_is_tuple (fun v e=>PySem.W.mg_of KX G e) z_isinstance z_tuple
  have F_is_tuple_of:=FT.ok_is_tuple_of (P:=PySem.Challenge.rw_fairtrees_k49_walls_by_sets.prog) (w:=w) (base:=base) T_is_tuple_of (fun v e=>PySem.W.mg_of KX G e) z_len F_is_tuple
  have F_bears:=FT.ok_bears (P:=PySem.Challenge.rw_fairtrees_k49_walls_by_sets.prog) (w:=w) (base:=base) T_bears (fun v e=>PySem.W.mg_of KX G e)
  have F_is_borne:=FT.ok_is_borne (P:=PySem.Challenge.rw_fairtrees_k49_walls_by_sets.prog) (w:=w) (base:=base) T_is_borne (fun v e=>PySem.W.mg_of KX G e) z_any F_bears
  have F_words_of:=FT.ok_words_of (P:=PySem.Challenge.rw_fairtrees_k49_walls_by_sets.prog) (w:=w) (base:=base) T_words_of (fun v e=>PySem.W.mg_of KX G e) C_RUNS
  have F_parts_of:=FT.ok_parts_of (P:=PySem.Challenge.rw_fairtrees_k49_walls_by_sets.prog) (w:=w) (base:=base) T_parts_of (fun v e=>PySem.W.mg_of KX G e) z_len F_words_of
  have F_is_told:=FT.ok_is_told (P:=PySem.Challenge.rw_fairtrees_k49_walls_by_sets.prog) (w:=w) (base:=base) T_is_told (fun v e=>PySem.W.mg_of KX G e) C_MOST C_NUMBERS z_all z_len F_is_number_from F_is_tuple F_is_tuple_of
  have F_right_run:=FT.ok_right_run (P:=PySem.Challenge.rw_fairtrees_k49_walls_by_sets.prog) (w:=w) (base:=base) T_right_run (fun v e=>PySem.W.mg_of KX G e) z_all z_len z_max z_zip F_is_told
  have F_is_fair:=FT.ok_is_fair (P:=PySem.Challenge.rw_fairtrees_k49_walls_by_sets.prog) (w:=w) (base:=base) T_is_fair (fun v e=>PySem.W.mg_of KX G e) z_all F_is_borne
  have F_is_fair__kwishes:=FT.pt_is_fair__kwishes F_is_fair
  have F_standing_at:=FT.ok_standing_at (P:=PySem.Challenge.rw_fairtrees_k49_walls_by_sets.prog) (w:=w) (base:=base) T_standing_at (fun v e=>PySem.W.mg_of KX G e) z_len
  have F_shows_run:=FT.ok_shows_run (P:=PySem.Challenge.rw_fairtrees_k49_walls_by_sets.prog) (w:=w) (base:=base) T_shows_run (fun v e=>PySem.W.mg_of KX G e) C_RUNS
  have F_unlike_ones:=FT.ok_unlike_ones (P:=PySem.Challenge.rw_fairtrees_k49_walls_by_sets.prog) (w:=w) (base:=base) T_unlike_ones (fun v e=>PySem.W.mg_of KX G e) z_list
  have F_leaving:=FT.ok_leaving (P:=PySem.Challenge.rw_fairtrees_k49_walls_by_sets.prog) (w:=w) (base:=base) T_leaving (fun v e=>PySem.W.mg_of KX G e) z_range F_standing_at
  have F_run_choices:=FT.ok_run_choices (P:=PySem.Challenge.rw_fairtrees_k49_walls_by_sets.prog) (w:=w) (base:=base) T_run_choices (fun v e=>PySem.W.mg_of KX G e) z_len F_leaving F_parts_of F_standing_at F_unlike_ones
  have F_plain_choices:=FT.ok_plain_choices (P:=PySem.Challenge.rw_fairtrees_k49_walls_by_sets.prog) (w:=w) (base:=base) T_plain_choices (fun v e=>PySem.W.mg_of KX G e) C_RUNS F_bears F_parts_of
  have F_is_right:=FT.ok_is_right (P:=PySem.Challenge.rw_fairtrees_k49_walls_by_sets.prog) (w:=w) (base:=base) T_is_right (fun v e=>PySem.W.mg_of KX G e) z_len F_is_fair__kwishes F_plain_choices F_right_run F_run_choices F_shows_run F_standing_at
  have F_is_node:=FT.ok_is_node (P:=PySem.Challenge.rw_fairtrees_k49_walls_by_sets.prog) (w:=w) (base:=base) T_is_node (fun v e=>PySem.W.mg_of KX G e) z_all z_len F_is_number_from F_is_truth F_is_tuple F_is_tuple_of
  have F_right_tree:=FT.ok_right_tree (P:=PySem.Challenge.rw_fairtrees_k49_walls_by_sets.prog) (w:=w) (base:=base) T_right_tree (fun v e=>PySem.W.mg_of KX G e) z_all z_len F_is_node F_is_right F_is_tuple
  have F_right_tree__k:=FT.pt_right_tree__k D_right_tree_wishes F_right_tree
  have F_right_tree__kwishes:=FT.pt_right_tree__kwishes F_right_tree
  have F__law_pool:=FT.ok__law_pool (P:=PySem.Challenge.rw_fairtrees_k49_walls_by_sets.prog) (w:=w) (base:=base) T__law_pool (fun v e=>PySem.W.mg_of KX G e)
  have F__law_draw:=FT.ok__law_draw (P:=PySem.Challenge.rw_fairtrees_k49_walls_by_sets.prog) (w:=w) (base:=base) T__law_draw (fun v e=>PySem.W.mg_of KX G e) z_len
  have F__law_name:=FT.ok__law_name (P:=PySem.Challenge.rw_fairtrees_k49_walls_by_sets.prog) (w:=w) (base:=base) T__law_name (fun v e=>PySem.W.mg_of KX G e) z_range F__law_draw
  have F__law_names:=FT.ok__law_names (P:=PySem.Challenge.rw_fairtrees_k49_walls_by_sets.prog) (w:=w) (base:=base) T__law_names (fun v e=>PySem.W.mg_of KX G e) z_range F__law_draw F__law_name
  have F__law_machine:=FT.ok__law_machine (P:=PySem.Challenge.rw_fairtrees_k49_walls_by_sets.prog) (w:=w) (base:=base) T__law_machine (fun v e=>PySem.W.mg_of KX G e) z_range z_sorted z_tuple F__law_draw
  have F__law_wishes:=FT.ok__law_wishes (P:=PySem.Challenge.rw_fairtrees_k49_walls_by_sets.prog) (w:=w) (base:=base) T__law_wishes (fun v e=>PySem.W.mg_of KX G e) z_len z_range z_tuple F__law_draw
  have F__law_row:=FT.ok__law_row (P:=PySem.Challenge.rw_fairtrees_k49_walls_by_sets.prog) (w:=w) (base:=base) T__law_row (fun v e=>PySem.W.mg_of KX G e) z_len z_min F__law_draw
  have F__law_saying:=FT.ok__law_saying (P:=PySem.Challenge.rw_fairtrees_k49_walls_by_sets.prog) (w:=w) (base:=base) T__law_saying (fun v e=>PySem.W.mg_of KX G e) z_range z_tuple F__law_draw F__law_row
  have F__law_number:=FT.ok__law_number (P:=PySem.Challenge.rw_fairtrees_k49_walls_by_sets.prog) (w:=w) (base:=base) T__law_number (fun v e=>PySem.W.mg_of KX G e) z_bool z_int z_isinstance
  have F__law_tuple:=FT.ok__law_tuple (P:=PySem.Challenge.rw_fairtrees_k49_walls_by_sets.prog) (w:=w) (base:=base) T__law_tuple (fun v e=>PySem.W.mg_of KX G e) z_isinstance z_len z_tuple
  have F__law_truth:=FT.ok__law_truth (P:=PySem.Challenge.rw_fairtrees_k49_walls_by_sets.prog) (w:=w) (base:=base) T__law_truth (fun v e=>PySem.W.mg_of KX G e) z_bool z_isinstance
  have F__law_walk:=FT.ok__law_walk (P:=PySem.Challenge.rw_fairtrees_k49_walls_by_sets.prog) (w:=w) (base:=base) T__law_walk (fun v e=>PySem.W.mg_of KX G e) z_len z_range F__law_draw
  have F__law_closed:=FT.ok__law_closed (P:=PySem.Challenge.rw_fairtrees_k49_walls_by_sets.prog) (w:=w) (base:=base) T__law_closed (fun v e=>PySem.W.mg_of KX G e) z_len z_range z_tuple F__law_draw F__law_walk
  have F__law_pair:=FT.ok__law_pair (P:=PySem.Challenge.rw_fairtrees_k49_walls_by_sets.prog) (w:=w) (base:=base) T__law_pair (fun v e=>PySem.W.mg_of KX G e) z_len F__law_number F__law_tuple
  have F__law_run_good:=FT.ok__law_run_good (P:=PySem.Challenge.rw_fairtrees_k49_walls_by_sets.prog) (w:=w) (base:=base) T__law_run_good (fun v e=>PySem.W.mg_of KX G e) z_len z_range F__law_pair
  have F__law_at:=FT.ok__law_at (P:=PySem.Challenge.rw_fairtrees_k49_walls_by_sets.prog) (w:=w) (base:=base) T__law_at (fun v e=>PySem.W.mg_of KX G e) z_len
  have F__law_fair_ring:=FT.ok__law_fair_ring (P:=PySem.Challenge.rw_fairtrees_k49_walls_by_sets.prog) (w:=w) (base:=base) T__law_fair_ring (fun v e=>PySem.W.mg_of KX G e) z_len
  have F__law_here:=FT.ok__law_here (P:=PySem.Challenge.rw_fairtrees_k49_walls_by_sets.prog) (w:=w) (base:=base) T__law_here (fun v e=>PySem.W.mg_of KX G e) z_list
  have F__law_node_kind:=FT.ok__law_node_kind (P:=PySem.Challenge.rw_fairtrees_k49_walls_by_sets.prog) (w:=w) (base:=base) T__law_node_kind (fun v e=>PySem.W.mg_of KX G e) z_bool z_isinstance z_len z_tuple F__law_at F__law_fair_ring F__law_number F__law_run_good F__law_tuple
  have F__law_plain_right:=FT.ok__law_plain_right (P:=PySem.Challenge.rw_fairtrees_k49_walls_by_sets.prog) (w:=w) (base:=base) T__law_plain_right (fun v e=>PySem.W.mg_of KX G e) z_len
  have F__law_place_claims:=FT.ok__law_place_claims (P:=PySem.Challenge.rw_fairtrees_k49_walls_by_sets.prog) (w:=w) (base:=base) T__law_place_claims (fun v e=>PySem.W.mg_of KX G e) z_range F__law_at
  have F__law_shown_right:=FT.ok__law_shown_right (P:=PySem.Challenge.rw_fairtrees_k49_walls_by_sets.prog) (w:=w) (base:=base) T__law_shown_right (fun v e=>PySem.W.mg_of KX G e) z_int z_len F__law_at F__law_here F__law_place_claims
  have F__law_node_right:=FT.ok__law_node_right (P:=PySem.Challenge.rw_fairtrees_k49_walls_by_sets.prog) (w:=w) (base:=base) T__law_node_right (fun v e=>PySem.W.mg_of KX G e) F__law_plain_right F__law_shown_right
  have F__law_tree_right:=FT.ok__law_tree_right (P:=PySem.Challenge.rw_fairtrees_k49_walls_by_sets.prog) (w:=w) (base:=base) T__law_tree_right (fun v e=>PySem.W.mg_of KX G e) z_isinstance z_len z_tuple F__law_node_kind F__law_node_right
  have F__law_shut:=FT.ok__law_shut (P:=PySem.Challenge.rw_fairtrees_k49_walls_by_sets.prog) (w:=w) (base:=base) T__law_shut (fun v e=>PySem.W.mg_of KX G e) z_len F__law_closed F__law_draw
  exact FT.okL_law F z_len z_range z_tuple F__law_draw F__law_machine F__law_names F__law_pool F__law_saying F__law_shut F__law_tree_right F__law_truth F__law_wishes F_right_tree__k F_right_tree__kwishes
