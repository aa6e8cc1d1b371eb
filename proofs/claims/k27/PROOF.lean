import PyProof.Rows.All
import Wide.All
import OpenK.AllK
import Wide.FinOn
import Lean
import PyProof.EqAt
import PyProof.EqKinds
import PyProof.TupleCall
import PyProof.NeKinds
import PyProof.ListRange
import PyProof.TupleOfSeq
import PyProof.SeqI3
import PyProof.DictCompW
import PyProof.DictWalks
import PyProof.SetNew
import PySem.Challenge.RW_fairtrees_k27_whole_strong_parts
set_option Elab.async false
set_option linter.all false
set_option maxRecDepth 100000
namespace L2
open PySem PySem.Spec PyProof.Rows
abbrev Key:=Sum Int Str
def keyIs:Key→Value→Bool
 | .inl k,v=>Value.isInt k v
 | .inr x,v=>Value.isStrOf x v
def keyH (w:World):Key→Int
 | .inl k=>hashInt k
 | .inr x=>hashStr w x
theorem keyIs_shape:∀ {k:Key} {v:Value},keyIs k v = true→(∃ i t,k = Sum.inl i∧v = Value.int i t)∨(∃ x t,k = Sum.inr x∧v = Value.str x t)
 | .inl i,v,h=>by
  obtain ⟨t,e⟩:=Value.isInt_shape (k:=i) (v:=v) h
  exact .inl ⟨i,t,rfl,e⟩
 | .inr x,v,h=>by
  obtain ⟨t,e⟩:=Value.isStrOf_shape (x:=x) (v:=v) h
  exact .inr ⟨x,t,rfl,e⟩
theorem keyIs_int (i:Int) (t:Tok):keyIs (.inl i) (.int i t) = true:=by simp [keyIs,Value.isInt]
theorem keyIs_str (x:Str) (t:Tok):keyIs (.inr x) (.str x t) = true:=by simp [keyIs,Value.isStrOf]
theorem key_ll (a b:Int):decide ((Sum.inl a:Key) = Sum.inl b) = (a == b):=by
 by_cases e:a = b
 ·subst e; simp
 ·have h:¬ (Sum.inl a:Key) = Sum.inl b:=fun q=>e (Sum.inl.inj q)
  rw [decide_eq_false h]
  exact (beq_eq_false_iff_ne.mpr e).symm
theorem key_rr (a b:Str):decide ((Sum.inr a:Key) = Sum.inr b) = decide (a = b):=by
 by_cases e:a = b
 ·subst e; simp
 ·have h:¬ (Sum.inr a:Key) = Sum.inr b:=fun q=>e (Sum.inr.inj q)
  rw [decide_eq_false h,decide_eq_false e]
theorem key_lr (a:Int) (b:Str):decide ((Sum.inl a:Key) = Sum.inr b) = false:=decide_eq_false (fun q=>nomatch q)
theorem key_rl (a:Str) (b:Int):decide ((Sum.inr a:Key) = Sum.inl b) = false:=decide_eq_false (fun q=>nomatch q)
def mixKind (prog:Program) (w:World):PySem.KeyKind prog w Key where
 is:=keyIs
 hash:=keyH w
 inj:=fun v a b ha hb=>by
  rcases keyIs_shape ha with ⟨i,t,rfl,rfl⟩ | ⟨x,t,rfl,rfl⟩
  ·rcases keyIs_shape hb with ⟨j,u,rfl,e⟩ | ⟨y,u,rfl,e⟩
   ·injection e with e1 _; rw [e1]
   ·exact nomatch e
  ·rcases keyIs_shape hb with ⟨j,u,rfl,e⟩ | ⟨y,u,rfl,e⟩
   ·exact nomatch e
   ·injection e with e1 _; rw [e1]
 byValue:=fun k v h=>by
  rcases keyIs_shape h with ⟨i,t,rfl,rfl⟩ | ⟨x,t,rfl,rfl⟩ <;> rfl
 pyHash:=fun hv h=>by
  rcases keyIs_shape hv with ⟨i,t,rfl,rfl⟩ | ⟨x,t,rfl,rfl⟩
  ·exact wpAny_pyHash_int h
  ·exact wpAny_pyHash_str h
 eqBool:=fun hu hv h=>by
  rcases keyIs_shape hu with ⟨i,t,rfl,rfl⟩ | ⟨x,t,rfl,rfl⟩
  ·rcases keyIs_shape hv with ⟨j,u,rfl,rfl⟩ | ⟨y,u,rfl,rfl⟩
   ·rw [key_ll] at h; exact wpAny_eqBool_int h
   ·rw [key_lr] at h; exact SeqAt.EqAt.int_str i t y u _ _ _ _ h
  ·rcases keyIs_shape hv with ⟨j,u,rfl,rfl⟩ | ⟨y,u,rfl,rfl⟩
   ·rw [key_rl] at h; exact SeqAt.EqAt.str_int x t j u _ _ _ _ h
   ·rw [key_rr] at h; exact wpAny_eqBool_str h
 «strs»:=fun k x t v h=>by
  rcases keyIs_shape h with ⟨i,u,rfl,e⟩ | ⟨y,u,rfl,e⟩
  ·exact nomatch e
  ·injection e with e1 _
   subst e1
   cases v <;> rfl
theorem mixKind_int (prog:Program) (w:World) (i:Int) (t:Tok):(mixKind prog w).is (.inl i) (.int i t) = true:=keyIs_int i t
theorem mixKind_str (prog:Program) (w:World) (x:Str) (t:Tok):(mixKind prog w).is (.inr x) (.str x t) = true:=keyIs_str x t
end L2
namespace FT
open PySem PySem.Spec PyProof.Rows L2
abbrev Rise (xs:Array Nat):Prop:=xs.toList.Pairwise (· < ·)
instance keyMem (k:Key) (ks:List Key):Decidable (k ∈ ks):=@List.instDecidableMemOfLawfulBEq Key instBEqOfDecidableEq inferInstance k ks
section
variable (w:World)
def KE (k:Key) (e:Int × Value):Prop:=keyIs k e.2 = true∧e.1 = keyH w k
def SetAt (h:Heap) (a:Addr) (ks:List Key):Prop :=
 ∃ o es ep t ks',h.get? a = some o∧o.ExactSet∧o.data = .set es ep t∧Paired (KE w) ks' es.toList∧ks'.Perm ks∧ks.Nodup∧es.size < scanBound∧t.fits es.size = true∧Rise t.place ∧
  (t.led = true∨w.params.followText "set-order" = true)
end
def IsTup0 (h:Heap) (a:Addr) (items:Array Value):Prop:=∃ o,h.get? a = some o∧(o.cls = .type "tuple"∧o.dict = none)∧∃ n,o.data = .seq items n
theorem IsTup0.new (h:Heap) (items:Array Value):IsTup0 (h.push { cls:=.type "tuple",data:=.seq items }) h.objs.size items:=⟨_,Heap.get?_push_size _ rfl,⟨rfl,rfl⟩,_,rfl⟩
theorem IsTup0.tup {h:Heap} {a:Addr} {items:Array Value} (x:IsTup0 h a items):IsTup h a items:=let ⟨o,e,c,d⟩:=x; ⟨o,e,c.1,d⟩
theorem IsTup0.lt {h:Heap} {a:Addr} {items:Array Value} (x:IsTup0 h a items):a < h.objs.size:=let ⟨_,e,_⟩:=x; Heap.lt_size e
end FT
namespace L2
open PySem PySem.Spec PyProof.Rows
inductive V where
 | non | bl (b:Bool) | int (i:Int) | str (x:Str) | byt (b:Array UInt8) | flt (b:UInt64) | ref (a:Addr) | ty (n:String)
 deriving DecidableEq
def RelV:V→Value→Prop
 | .non,u=>u = Value.none
 | .bl b,u=>u = Value.bool b
 | .int i,u=>∃ t,u = Value.int i t
 | .str x,u=>∃ t,u = Value.str x t
 | .byt b,u=>∃ t,u = Value.bytes b t
 | .flt b,u=>∃ t,u = Value.float b t
 | .ref a,u=>u = Value.ref a
 | .ty n,u=>u = Value.type n
abbrev Vals:List V→List Value→Prop:=Paired RelV
theorem Vals.length {xs:List V} {us:List Value} (r:Vals xs us):xs.length = us.length:=Paired.length r
theorem Vals.get:∀ {xs:List V} {us:List Value} {i:Nat} {x:V},Vals xs us→xs[i]? = some x→∃ u,us[i]? = some u∧RelV x u
 | _,_,_,_,.nil,e=>by simp at e
 | _,_,0,_,.cons r _,e=>by simp at e; subst e; exact ⟨_,rfl,r⟩
 | _,_,i + 1,x,.cons _ t,e=>by
  obtain ⟨u,h1,h2⟩:=Vals.get (i:=i) (x:=x) t (by simpa using e)
  exact ⟨u,by simpa using h1,h2⟩
theorem Vals.set {x:V} {u:Value} (r:RelV x u):∀ {xs:List V} {us:List Value} (i:Nat),Vals xs us→Vals (xs.set i x) (us.set i u)
 | _,_,_,.nil=>.nil
 | _,_,0,.cons _ t=>.cons r t
 | _,_,i + 1,.cons q t=>.cons q (Vals.set r i t)
theorem Vals.append:∀ {xs ys:List V} {us ws:List Value},Vals xs us→Vals ys ws→Vals (xs++ys) (us++ws)
 | _,_,_,_,.nil,s=>s
 | _,_,_,_,.cons r t,s=>.cons r (Vals.append t s)
def RelO:Option V→Option Value→Prop
 | some v,some u=>RelV v u
 | none,none=>True
 | _,_=>False
def KV {κ:Type}:List (κ × V)→List (κ × Value)→Prop:=Paired fun (p:κ × V) (q:κ × Value)=>p.1 = q.1∧RelV p.2 q.2
def kV:Key→V
 | .inl i=>.int i
 | .inr x=>.str x
inductive HO where
 | lst (xs:List V)
 | tup (xs:List V)
 | dK (kvs:List (Key × V)) | dT (kvs:List (List Key × V))
 | set (ks:List Key)
 | ins (C dx:Addr) (fs:List (Str × V))
 | own (x:Addr)
 | xd (fs:List (Str × V))
 | met (f x:Addr)
 | rng (lo hi:Int)
 | frz (o:Obj) (u:HO)
 | tbl (ps:Array Value)
 | ext (φ:Heap→Prop)
abbrev Hp:=Addr→Option HO
def upd (H:Hp) (a:Addr) (o:HO):Hp:=fun b=>if b = a then some o else H b
theorem upd_same {H:Hp} {a:Addr} {o:HO}:upd H a o a = some o:=by unfold upd; rw [if_pos rfl]
theorem upd_ne {H:Hp} {a b:Addr} {o:HO} (h:b ≠ a):upd H a o b = H b:=by unfold upd; rw [if_neg h]
theorem ne_of {H:Hp} {a b:Addr} {o u:HO} (h:H a = some o) (h':H b = some u) (d:o ≠ u):a ≠ b:=by
 intro e; subst e; rw [h] at h'; exact d (Option.some.inj h')
theorem ne_of_none {H:Hp} {a b:Addr} {o:HO} (h:H a = some o) (h':H b = none):a ≠ b:=by
 intro e; subst e; rw [h] at h'; cases h'
section
variable (P:Program) (w:World)
def ObjOk (H:Hp) (h:Heap) (a:Addr):HO→Prop
 | .lst xs=>xs.length ≤ sizeLine∧∃ (its:List Value) (n:Nat),Vals xs its∧h.get? a = some { cls:=.type "list",data:=.seq its.toArray n }
 | .tup xs=>xs.length ≤ sizeLine∧∃ its:List Value,Vals xs its∧FT.IsTup0 h a its.toArray
 | .dK kvs=>kvs.length ≤ sizeLine∧(a == sysModules) = false∧∃ vs,KV kvs vs∧h.DictOf (mixKind P w) a vs
 | .dT kvs=>kvs.length ≤ sizeLine∧(a == sysModules) = false∧∃ xs:List (List Key × Addr × Value),
  Paired (fun (p:List Key × V) (q:List Key × Addr × Value)=>p.1 = q.1∧H q.2.1 = some (.tup (p.1.map kV))∧RelV p.2 q.2.2) kvs xs ∧
  ∃ o es ep,h.get? a = some o∧o.ExactDict∧o.data = .dict es ep∧es.toList = xs.map (entryOfKey (tupleKind (mixKind P w)))∧(xs.map (·.1)).Nodup
 | .set ks=>FT.SetAt w h a ks
 | .ins C dx fs=>H dx = some (.own a)∧fs.length ≤ 1000∧dx ≠ a∧h.get? a = some (PySem.W.instObj C dx) ∧
  ∃ mA,h.Ns1 dx mA∧(∀ f,RelO (fs.lookup f) (mA f))∧PySem.Within mA (fs.map (·.1))
 | .own _=>∃ o,h.get? a = some o
 | .xd fs=>∃ mA,h.Ns1 a mA∧∀ f,RelO (fs.lookup f) (mA f)
 | .rng lo hi=>∃ t u v,h.get? a = some { cls:=.type "range",data:=.fields #[.int lo t,.int hi u,.int 1 v] }
 | .frz o u=>h.get? a = some o∧ObjOk H h a u
 | .tbl ps=>h.get? a = some { cls:=.none,data:=.fields ps }
 | .met f x=>h.get? a = some (PySem.W.methodObj (.ref f) (.ref x))
 | .ext φ=>φ h∧(∃ o,h.get? a = some o)∧∀ h1 h2:Heap,φ h1→(∀ o,h1.get? a = some o→h2.get? a = some o)→φ h2
def HOk (H:Hp) (h:Heap):Prop:=∀ a o,H a = some o→ObjOk P w H h a o
end
section
variable {P:Program} {w:World} {H H':Hp} {h h':Heap} {a:Addr} {o:HO}
theorem ObjOk.lt (x:ObjOk P w H h a o):a < h.objs.size:=by
 cases o with
 | lst xs=>obtain ⟨_,_,_,_,e⟩:=x; exact Heap.lt_size e
 | tup xs=>obtain ⟨_,_,_,p⟩:=x; exact p.lt
 | dK kvs=>obtain ⟨_,_,_,_,o,_,_,e,_⟩:=x; exact Heap.lt_size e
 | dT kvs=>obtain ⟨_,_,_,_,o,_,_,e,_⟩:=x; exact Heap.lt_size e
 | set ks=>obtain ⟨o,_,_,_,_,e,_⟩:=x; exact Heap.lt_size e
 | ins C dx fs=>obtain ⟨_,_,_,e,_⟩:=x; exact Heap.lt_size e
 | own y=>obtain ⟨_,e⟩:=x; exact Heap.lt_size e
 | xd fs=>obtain ⟨_,⟨_,_,_,e,_⟩,_⟩:=x; exact Heap.lt_size e
 | rng lo hi=>obtain ⟨_,_,_,e⟩:=x; exact Heap.lt_size e
 | frz ob u=>obtain ⟨e,_⟩:=x; exact Heap.lt_size e
 | tbl ps=>exact Heap.lt_size (show h.get? a = some _ from x)
 | met f y=>exact Heap.lt_size (show h.get? a = some _ from x)
 | ext φ=>obtain ⟨_,⟨_,e⟩,_⟩:=x; exact Heap.lt_size e
theorem Paired.mapP {α β:Type} {F G:α→β→Prop}:∀ {l₁:List α} {l₂:List β},Paired F l₁ l₂→(∀ a b,F a b→G a b)→Paired G l₁ l₂
 | _,_,.nil,_=>.nil
 | _,_,.cons r t,f=>.cons (f _ _ r) (Paired.mapP t f)
theorem ObjOk.stay (x:ObjOk P w H h a o) (k:∀ b u,(b = a∨H b = some (.own a))→h.get? b = some u→h'.get? b = some u)
 (ho:∀ b,H b = some (.own a)→H' b = some (.own a)) (ht:∀ b xs,H b = some (.tup xs)→H' b = some (.tup xs)):ObjOk P w H' h' a o:=by
 induction o with
 | lst xs=>obtain ⟨z,its,n,r,e⟩:=x; exact ⟨z,its,n,r,k _ _ (.inl rfl) e⟩
 | tup xs=>obtain ⟨z,its,r,ob,e,c⟩:=x; exact ⟨z,its,r,ob,k _ _ (.inl rfl) e,c⟩
 | dK kvs=>obtain ⟨z,y,vs,r,ob,es,ep,e,c⟩:=x; exact ⟨z,y,vs,r,ob,es,ep,k _ _ (.inl rfl) e,c⟩
 | dT kvs =>
  obtain ⟨z,y,xs,r,ob,es,ep,e,c⟩:=x
  exact ⟨z,y,xs,Paired.mapP r fun p q z=>⟨z.1,ht _ _ z.2.1,z.2.2⟩,ob,es,ep,k _ _ (.inl rfl) e,c⟩
 | set ks=>obtain ⟨ob,es,ep,t,k',e,c⟩:=x; exact ⟨ob,es,ep,t,k',k _ _ (.inl rfl) e,c⟩
 | ins C dx fs =>
  obtain ⟨d,z,ne,e,mA,⟨od,es,ep,e2,c⟩,r⟩:=x
  exact ⟨ho _ d,z,ne,k _ _ (.inl rfl) e,mA,⟨od,es,ep,k _ _ (.inr d) e2,c⟩,r⟩
 | own y=>obtain ⟨ob,e⟩:=x; exact ⟨ob,k _ _ (.inl rfl) e⟩
 | xd fs=>obtain ⟨mA,⟨od,es,ep,e,c⟩,r⟩:=x; exact ⟨mA,⟨od,es,ep,k _ _ (.inl rfl) e,c⟩,r⟩
 | rng lo hi=>obtain ⟨t,u,v,e⟩:=x; exact ⟨t,u,v,k _ _ (.inl rfl) e⟩
 | frz ob u ih=>obtain ⟨e,q⟩:=x; exact ⟨k _ _ (.inl rfl) e,ih q⟩
 | tbl ps =>
  have e:h.get? a = some { cls:=.none,data:=.fields ps }:=x
  show h'.get? a = some { cls:=.none,data:=.fields ps }
  exact k a _ (.inl rfl) e
 | met f y =>
  have e:h.get? a = some (PySem.W.methodObj (.ref f) (.ref y)):=x
  show h'.get? a = some (PySem.W.methodObj (.ref f) (.ref y))
  exact k a _ (.inl rfl) e
 | ext φ=>obtain ⟨p,⟨o,e⟩,st⟩:=x; exact ⟨st _ _ p fun o q=>k _ _ (.inl rfl) q,⟨o,k _ _ (.inl rfl) e⟩,st⟩
theorem HOk.lt (x:HOk P w H h) (e:H a = some o):a < h.objs.size:=(x a o e).lt
theorem HOk.fresh (x:HOk P w H h) (e:h.objs.size ≤ a):H a = none:=by
 cases q:H a with
 | none=>rfl
 | some u=>exact absurd (Nat.lt_of_lt_of_le (x.lt q) e) (Nat.lt_irrefl _)
theorem HOk.kept (x:HOk P w H h) (k:∀ b u,h.get? b = some u→h'.get? b = some u):HOk P w H h':=fun a o e =>
 (x a o e).stay (fun b u _ q=>k b u q) (fun _ q=>q) fun _ _ q=>q
theorem HOk.laid (x:HOk P w H h) (k:∀ b u,h.get? b = some u→h'.get? b = some u) (hp:h.objs.size ≤ a) (new:ObjOk P w (upd H a o) h' a o):HOk P w (upd H a o) h':=fun b u e=>by
 have hn:=x.fresh hp
 by_cases hb:b = a
 ·subst hb; rw [upd_same] at e; cases e; exact new
 ·rw [upd_ne hb] at e
  exact (x b u e).stay (fun c v _ q=>k c v q) (fun c q=>by rw [upd_ne (ne_of_none q hn)]; exact q) fun c xs q=>by rw [upd_ne (ne_of_none q hn)]; exact q
end
def Rd (H:Hp) (a:Addr) (u:HO):Prop:=H a = some u∨∃ o,H a = some (.frz o u)
theorem Rd.ok {P:Program} {w:World} {H:Hp} {h:Heap} {a:Addr} {u:HO} (r:Rd H a u) (x:HOk P w H h):ObjOk P w H h a u:=by
 rcases r with r | ⟨o,r⟩
 ·exact x a u r
 ·obtain ⟨_,q⟩:=x a _ r
  exact q
def Mut:Option HO→Prop
 | some (.lst _)=>True
 | some (.dK _)=>True
 | some (.dT _)=>True
 | some (.set _)=>True
 | some (.ins _ _ _)=>True
 | some (.ext _)=>True
 | _=>False
section
variable {P:Program} {w:World} {H:Hp} {h h':Heap} {x e:Addr} {o':HO}
theorem HOk.write (ok:HOk P w H h) (mu:Mut (H x)) (he:e = x∨H e = some (.own x)) (k:∀ b u,b ≠ e→h.get? b = some u→h'.get? b = some u) (heo:∃ u,h'.get? e = some u)
 (new:ObjOk P w (upd H x o') h' x o'):HOk P w (upd H x o') h':=fun b u q=>by
 have nown:∀ c y,H c = some (.own y)→c ≠ x:=fun c y r z=>by subst z; rw [r] at mu; exact mu
 have ntup:∀ c xs,H c = some (.tup xs)→c ≠ x:=fun c xs r z=>by subst z; rw [r] at mu; exact mu
 by_cases hb:b = x
 ·subst hb; rw [upd_same] at q; cases q; exact new
 ·rw [upd_ne hb] at q
  by_cases hbe:b = e
  ·have q':H b = some (.own x):=by
    rcases he with z | z
    ·exact absurd (hbe.trans z) hb
    ·rw [hbe]; exact z
   rw [q] at q'; cases q'
   obtain ⟨v,hv⟩:=heo
   exact ⟨v,by rw [hbe]; exact hv⟩
  ·refine (ok b u q).stay (fun c v hc r=>k c v ?_ r) (fun c r=>by rw [upd_ne (nown c b r)]; exact r) fun c xs r=>by rw [upd_ne (ntup c xs r)]; exact r
   rcases hc with rfl | hc
   ·exact hbe
   ·rintro rfl
    rcases he with z | z
    ·exact nown c b hc z
    ·rw [hc] at z; cases z; exact hb rfl
end
structure Un (fs ex:List Addr) (H H':Hp) (h h':Heap):Prop where
 keep:∀ b o,h.get? b = some o→H b = none→b ∉ fs→b ∉ ex→h'.get? b = some o
 slot:∀ b o,h.get? b = some o→H b = none→b ∈ fs→b ∉ ex→∃ sl,h'.get? b = some { o with slots:=sl }
 free:∀ b o,h.get? b = some o→H b = none→b ∉ ex→H' b = none
 there:∀ b o,h.get? b = some o→b ∉ ex→∃ o',h'.get? b = some o'
 tups:∀ b xs,H b = some (.tup xs)→H' b = some (.tup xs)
 frzs:∀ b o u,H b = some (.frz o u)→H' b = some (.frz o u)
 tbls:∀ b ps,H b = some (.tbl ps)→∃ more,H' b = some (.tbl (ps++more))
section
variable {fs fs' ex ex':List Addr} {H H1 H2:Hp} {h h1 h2 h':Heap} {a x e:Addr} {o:HO}
theorem Un.any (u:Un fs ex H H1 h h1) {b:Addr} {ob:Obj} (q:h.get? b = some ob) (n:H b = none) (hx:b ∉ ex):∃ sl,h1.get? b = some { ob with slots:=sl }:=by
 by_cases hb:b ∈ fs
 ·exact u.slot b ob q n hb hx
 ·exact ⟨ob.slots,u.keep b ob q n hb hx⟩
theorem Un.kept (k:∀ b u,h.get? b = some u→h'.get? b = some u):Un fs ex H H h h' :=
 ⟨fun b ob q _ _ _=>k b ob q,fun b ob q _ _ _=>⟨ob.slots,k b ob q⟩,fun _ _ _ n _=>n,fun b ob q _=>⟨ob,k b ob q⟩,fun _ _ q=>q,fun _ _ _ q=>q,fun _ ps q=>⟨#[],by rw [q]; simp⟩⟩
theorem Un.refl:Un fs ex H H h h:=Un.kept fun _ _ q=>q
theorem Un.laid (k:∀ b u,h.get? b = some u→h'.get? b = some u) (hp:h.objs.size ≤ a) (hn:H a = none):Un fs ex H (upd H a o) h h' where
 keep:=fun b u q _ _ _=>k b u q
 slot:=fun b u q _ _ _=>⟨u.slots,k b u q⟩
 free:=fun b u q n _=>by rw [upd_ne (Nat.ne_of_lt (Nat.lt_of_lt_of_le (Heap.lt_size q) hp))]; exact n
 there:=fun b u q _=>⟨u,k b u q⟩
 tups:=fun b xs q=>by rw [upd_ne (ne_of_none q hn)]; exact q
 frzs:=fun b u xs q=>by rw [upd_ne (ne_of_none q hn)]; exact q
 tbls:=fun b ps q=>⟨#[],by rw [upd_ne (ne_of_none q hn),q]; simp⟩
theorem Un.write (mu:Mut (H x)) (he:e = x∨H e = some (.own x)) (k:∀ b u,b ≠ e→h.get? b = some u→h'.get? b = some u) (heo:∃ u,h'.get? e = some u):Un fs ex H (upd H x o) h h':=by
 have hx:∀ b,H b = none→b ≠ x:=fun b n z=>by subst z; rw [n] at mu; exact mu
 have hb:∀ b,H b = none→b ≠ e:=fun b n z=>by
  subst z
  rcases he with r | r
  ·exact hx b n r
  ·rw [n] at r; cases r
 have hm:∀ b u,H b = some u→¬ Mut (some u)→b ≠ x:=fun b u q nm z=>by subst z; rw [q] at mu; exact nm mu
 refine ⟨fun b u q n _ _=>k b u (hb b n) q,fun b u q n _ _=>⟨u.slots,k b u (hb b n) q⟩,fun b u q n _=>by rw [upd_ne (hx b n)]; exact n,fun b u q _=>?_,
  fun b xs q=>by rw [upd_ne (hm b _ q fun z=>z)]; exact q,fun b u xs q=>by rw [upd_ne (hm b _ q fun z=>z)]; exact q,fun b ps q=>⟨#[],by rw [upd_ne (hm b _ q fun z=>z),q]; simp⟩⟩
 by_cases hbe:b = e
 ·subst hbe; exact heo
 ·exact ⟨u,k b u hbe q⟩
end
def trk (h:Heap) (H:Hp):List Addr:=(List.range h.objs.size).filter fun a=>(H a).isSome
def hidT (h:Heap) (H:Hp):Heap:=PySem.W.hideAll h (trk h H)
theorem hidT_size (h:Heap) (H:Hp):(hidT h H).objs.size = h.objs.size:=PySem.W.hideAll_size _ _
theorem hidT_get {h:Heap} {H:Hp} {b:Addr} {o:Obj} (e:h.get? b = some o) (n:H b = none):(hidT h H).get? b = some o :=
 PySem.W.hideAll_get _ e fun hm=>by
  have q:(H b).isSome = true:=(List.mem_filter.mp hm).2
  rw [n] at q; simp at q
theorem of_hidT {h:Heap} {H:Hp} {b:Addr} {o:Obj} (e:(hidT h H).get? b = some o):h.get? b = some o∧H b = none:=by
 have e':h.get? b = some o:=PySem.W.of_hideAll (trk h H) e
 refine ⟨e',?_⟩
 cases q:H b with
 | none=>rfl
 | some x =>
  have hm:b ∈ trk h H:=List.mem_filter.mpr ⟨List.mem_range.mpr (Heap.lt_size e'),by simp [q]⟩
  have z:(hidT h H).get? b = none:=PySem.W.hideAll_none (trk h H) hm
  rw [z] at e; cases e
def allNews (g h:Heap) (L:Addr):List (Addr × Obj):=(List.range h.objs.size).filterMap fun a=>if a = L∨(g.get? a).isSome = true then none else (h.get? a).map fun o=>(a,o)
def rest (g h:Heap) (L d:Addr):List (Addr × Obj):=(allNews g h L).filter fun p=>decide (p.1 ≠ d)
structure Mod (K:PySem.W.Frag) (mg:Str→Option Value) (base:Heap):Prop where
 kin:K.In base
 glob:base.Ns mainGlobals mg
 blt:∃ mb,base.Ns builtinsNs mb∧∀ x:Str,x ≠ "__name__"→mb x = bootBuiltins x
 nolimit:base.NoLimit
structure Cx where
 prog:Program
 w:World
 K:PySem.W.Frag
 mg:Str→Option Value
 base:Heap
 A:Around
 N:List Str
 s₀:Shared
 H₀:Hp
 env:Env
 outer:List Env
 stack:List Env
 ex:List Addr
 fn:Str→Bool
 calm:Bool
 pn:List (Addr × Obj)
 xe:Value→Shared→Prop
def frs (l:List Env):List Addr:=l.filterMap (·.frame)
abbrev Cx.fs (X:Cx):List Addr:=frs X.outer
def Vis (sc:Scope) (x:Str):Prop:=sc.names.lookup x = some .local∨sc.names.lookup x = some .cell∨sc.names.lookup x = some .free
def Loc (sc:Scope) (x:Str):Prop:=sc.names.lookup x = some .local∨sc.names.lookup x = some .cell
def Look (env:Env) (h:Heap) (m:Str→Option Value) (x:Str) (u:Value):Prop :=
 (env.kindOf x = some .local∧m x = some u)∨((env.kindOf x = some .cell∨env.kindOf x = some .free)∧∃ c,env.cells.lookup x = some c∧h.IsCell c (some u))
structure Cx.Ok (X:Cx):Prop where
 mod:Mod X.K X.mg X.base
 kind:X.env.scope.kind = .function
 glob:X.env.globals = mainGlobals
 blt:X.env.builtins = builtinsNs
 above:X.s₀.heap.objs.size ≤ X.env.locals
 inj:∀ x y c,X.env.cells.lookup x = some c→X.env.cells.lookup y = some c→x = y
 has:∀ x,(X.env.kindOf x = some .cell∨X.env.kindOf x = some .free)→∃ c,X.env.cells.lookup x = some c
 cab:∀ x c,X.fn x = true→X.env.cells.lookup x = some c→X.s₀.heap.objs.size ≤ c
 hd:X.calm = true→X.A.handled = none
 frames:X.A.frames = some X.stack
 stk:X.stack = X.outer∨(X.stack = X.env :: X.outer∧X.env.frame = some X.env.locals)
 exf:∀ b ∈ X.ex,b ≠ X.env.locals∧∀ x c,X.env.cells.lookup x = some c→c ≠ b
 bs:∀ b o,X.base.get? b = some o→X.s₀.heap.get? b = some o∧X.H₀ b = none
 bsz:X.base.objs.size ≤ X.s₀.heap.objs.size
 noex:∀ b o,X.base.get? b = some o→b ∉ X.ex
 exfs:∀ b ∈ X.ex,b ∉ X.fs
 funs:X.s₀.heap.FunFrames X.base X.outer
 frf:∀ b ∈ X.fs,X.H₀ b = none
structure Inv (X:Cx) (pins:List (Addr × Obj)) (σ:List (Option V)) (H:Hp) (s:Shared):Prop where
 ok:X.Ok
 os:s.os = X.s₀.os
 bare:AllBare s.gens
 base:Un X.fs X.ex X.H₀ H X.s₀.heap s.heap
 loc:∃ m,s.heap.Ns X.env.locals m∧∀ (i:Nat) (x:Str) (v:V),X.N[i]? = some x→σ[i]? = some (some v)→Vis X.env.scope x→∃ u,RelV v u∧Look X.env s.heap m x u
 cell:∀ x c,X.env.cells.lookup x = some c→∃ v,s.heap.IsCell c v
 free:H X.env.locals = none
 freeC:∀ x c,X.env.cells.lookup x = some c→H c = none
 pin:∀ p ∈ X.pn++pins,s.heap.get? p.1 = some p.2∧H p.1 = none∧p.1 ≠ X.env.locals∧p.1 ∉ X.fs∧∀ v,p.2.data ≠ .cell v
 hok:HOk X.prog X.w H s.heap
 len:σ.length = X.N.length
section
variable {X:Cx} {pins:List (Addr × Obj)} {σ:List (Option V)} {H H':Hp} {s:Shared} {h':Heap}
theorem Cx.Ok.nofr (ok:X.Ok) {b:Addr} {o:Obj} (e:X.base.get? b = some o):b ∉ X.fs:=fun hb=>by
 have:=(ok.funs.mem hb).1
 rw [e] at this; cases this
theorem Inv.bs (I:Inv X pins σ H s):∀ b o,X.base.get? b = some o→s.heap.get? b = some o∧H b = none:=fun b o e =>
 ⟨I.base.keep b o (I.ok.bs b o e).1 (I.ok.bs b o e).2 (I.ok.nofr e) (I.ok.noex b o e),I.base.free b o (I.ok.bs b o e).1 (I.ok.bs b o e).2 (I.ok.noex b o e)⟩
theorem Inv.bk (I:Inv X pins σ H s):∀ b o,X.base.get? b = some o→s.heap.get? b = some o:=fun b o e=>(I.bs b o e).1
theorem Inv.mod (I:Inv X pins σ H s):Mod X.K X.mg X.base:=I.ok.mod
theorem Inv.kIn (I:Inv X pins σ H s):X.K.In s.heap:=I.ok.mod.kin.keeps I.bk
theorem Inv.fr (I:Inv X pins σ H s):∃ m,Fr X.base X.env.locals s.heap m :=
 let ⟨m,hn,_⟩:=I.loc
 ⟨m,hn,I.bk,Nat.le_trans I.ok.bsz I.ok.above⟩
theorem Inv.lt (I:Inv X pins σ H s):X.env.locals < s.heap.objs.size:=let ⟨_,hn,_⟩:=I.loc; hn.lt
theorem Inv.sz (I:Inv X pins σ H s):X.s₀.heap.objs.size ≤ s.heap.objs.size:=Nat.le_trans I.ok.above (Nat.le_of_lt I.lt)
theorem Inv.nofs (I:Inv X pins σ H s) {a:Addr} (h:s.heap.objs.size ≤ a):a ∉ X.fs:=fun hb=>by
 obtain ⟨_,o,ho,_⟩:=I.ok.funs.mem hb
 exact absurd (Nat.lt_of_lt_of_le (Heap.lt_size ho) (Nat.le_trans I.sz h)) (Nat.lt_irrefl _)
theorem Inv.cne (I:Inv X pins σ H s):∀ x c,X.env.cells.lookup x = some c→c ≠ X.env.locals:=fun x c e z=>by
 obtain ⟨v,o,ho,hd⟩:=I.cell x c e
 obtain ⟨m,⟨o',es,ep,ho',hd',_⟩,_⟩:=I.loc
 rw [z,ho'] at ho; cases ho; rw [hd'] at hd; cases hd
theorem Inv.funs (I:Inv X pins σ H s):s.heap.FunFrames X.base X.outer:=by
 have all:∀ (l:List Env),(∀ b ∈ frs l,b ∈ X.fs)→X.s₀.heap.FunFrames X.base l→s.heap.FunFrames X.base l:=by
  intro l
  induction l with
  | nil=>intro _ _; trivial
  | cons env r ih =>
   intro hs hl
   obtain ⟨hk,⟨L,o,hf,hn,ho,hd⟩,hr⟩:=hl
   have hL:L ∈ X.fs:=hs L (by unfold frs; rw [List.filterMap_cons,hf]; exact List.mem_cons_self)
   obtain ⟨sl,e⟩:=I.base.slot L o ho (I.ok.frf L hL) hL fun z=>I.ok.exfs L z hL
   exact ⟨hk,⟨L,_,hf,hn,e,hd⟩,ih (fun b hb=>hs b (by unfold frs; rw [List.filterMap_cons,hf]; exact List.mem_cons_of_mem _ hb)) hr⟩
 exact all X.outer (fun _ hb=>hb) I.ok.funs
theorem Inv.stack (I:Inv X pins σ H s):s.heap.FunFrames X.base X.stack:=by
 rcases I.ok.stk with e | ⟨e,hf⟩
 ·rw [e]; exact I.funs
 ·rw [e]
  obtain ⟨m,hn,_⟩:=I.loc
  refine .cons (by rw [I.ok.kind]; decide) hf hn ?_ I.funs
  exact Heap.get?_none_of_le (Nat.le_trans I.ok.bsz I.ok.above)
theorem Inv.stkSub (I:Inv X pins σ H s):∀ b ∈ frs X.stack,b ∈ X.env.locals :: X.fs:=fun b hb=>by
 rcases I.ok.stk with e | ⟨e,hf⟩
 ·rw [e] at hb; exact List.mem_cons_of_mem _ hb
 ·rw [e] at hb
  unfold frs at hb
  rw [List.filterMap_cons,hf] at hb
  exact hb
theorem Inv.stkFree (I:Inv X pins σ H s):∀ b ∈ frs X.stack,H b = none:=fun b hb=>by
 rcases List.mem_cons.mp (I.stkSub b hb) with e | hb
 ·rw [e]; exact I.free
 ·obtain ⟨_,o,ho,_⟩:=I.ok.funs.mem hb
  exact I.base.free b o ho (I.ok.frf b hb) fun z=>I.ok.exfs b z hb
theorem Inv.step {g':Array GenState} {t':Nat} {d':Drawn} {ch:List Addr} (I:Inv X pins σ H s)
 (hch:∀ b ∈ ch,(b ∈ X.ex∨X.s₀.heap.objs.size ≤ b)∧b ≠ X.env.locals∧(∀ x c,X.env.cells.lookup x = some c→c ≠ b)∧∀ p ∈ X.pn++pins,p.1 ≠ b)
 (keep:∀ b o,b ≠ X.env.locals→b ∉ X.fs→b ∉ ch→s.heap.get? b = some o→H b = none→h'.get? b = some o)
 (slot:∀ b o,b ≠ X.env.locals→b ∈ X.fs→b ∉ ch→s.heap.get? b = some o→H b = none→∃ sl,h'.get? b = some { o with slots:=sl }) (free:∀ b o,b ∉ ch→s.heap.get? b = some o→H b = none→H' b = none)
 (there:∀ b o,b ∉ ch→s.heap.get? b = some o→∃ o',h'.get? b = some o')
 (tups:∀ b xs,H b = some (.tup xs)→H' b = some (.tup xs)) (frzs:∀ b o u,H b = some (.frz o u)→H' b = some (.frz o u)) (tbls:∀ b ps,H b = some (.tbl ps)→∃ more,H' b = some (.tbl (ps++more)))
 (ns:∀ m,s.heap.Ns X.env.locals m→h'.Ns X.env.locals m) (hok:HOk X.prog X.w H' h') (hg:AllBare g') :
 Inv X pins σ H' { s with heap:=h',gens:=g',drawn:=d',toks:=t' }:=by
 have neL:∀ b o,X.s₀.heap.get? b = some o→b ≠ X.env.locals:=fun b o e=>Nat.ne_of_lt (Nat.lt_of_lt_of_le (Heap.lt_size e) I.ok.above)
 have neC:∀ b o,X.s₀.heap.get? b = some o→b ∉ X.ex→b ∉ ch:=fun b o e hx hb=>by
  rcases (hch b hb).1 with z | z
  ·exact hx z
  ·exact absurd (Nat.lt_of_lt_of_le (Heap.lt_size e) z) (Nat.lt_irrefl _)
 have cellK:∀ x c,X.env.cells.lookup x = some c→∀ v,s.heap.IsCell c v→h'.IsCell c v:=fun x c e v ⟨o,ho,hd⟩=>by
  have nch:c ∉ ch:=fun z=>(hch c z).2.2.1 x c e rfl
  by_cases hc:c ∈ X.fs
  ·obtain ⟨sl,q⟩:=slot c o (I.cne x c e) hc nch ho (I.freeC x c e)
   exact ⟨_,q,hd⟩
  ·exact ⟨o,keep c o (I.cne x c e) hc nch ho (I.freeC x c e),hd⟩
 refine ⟨I.ok,I.os,hg,⟨fun b o e n hb hx=>?_,fun b o e n hb hx=>?_,fun b o e n hx=>?_,fun b o e hx=>?_,fun b xs e=>tups b xs (I.base.tups b xs e),fun b o xs e=>frzs b o xs (I.base.frzs b o xs e),fun b ps e=>?_⟩,?_,fun x c e=>?_,?_,fun x c e=>?_,fun p hp=>?_,hok,I.len⟩
 ·exact keep b o (neL b o e) hb (neC b o e hx) (I.base.keep b o e n hb hx) (I.base.free b o e n hx)
 ·obtain ⟨sl,e1⟩:=I.base.slot b o e n hb hx
  obtain ⟨sl',e2⟩:=slot b _ (neL b o e) hb (neC b o e hx) e1 (I.base.free b o e n hx)
  exact ⟨sl',e2⟩
 ·obtain ⟨o',e1⟩:=I.base.there b o e hx
  exact free b o' (neC b o e hx) e1 (I.base.free b o e n hx)
 ·obtain ⟨o',e1⟩:=I.base.there b o e hx
  exact there b o' (neC b o e hx) e1
 ·obtain ⟨m1,e1⟩:=I.base.tbls b ps e
  obtain ⟨m2,e2⟩:=tbls b _ e1
  exact ⟨m1++m2,by rw [e2,Array.append_assoc]⟩
 ·obtain ⟨m,hn,hl⟩:=I.loc
  refine ⟨m,ns m hn,fun i x v e1 e2 e3=>?_⟩
  obtain ⟨u,r,l⟩:=hl i x v e1 e2 e3
  refine ⟨u,r,?_⟩
  rcases l with l | ⟨k,c,e,z⟩
  ·exact .inl l
  ·exact .inr ⟨k,c,e,cellK x c e _ z⟩
 ·obtain ⟨v,z⟩:=I.cell x c e
  exact ⟨v,cellK x c e v z⟩
 ·obtain ⟨m,⟨o,_,_,ho,_⟩,_⟩:=I.loc
  exact free _ o (fun z=>(hch _ z).2.1 rfl) ho I.free
 ·obtain ⟨v,o,ho,hd⟩:=I.cell x c e
  exact free c o (fun z=>(hch c z).2.2.1 x c e rfl) ho (I.freeC x c e)
 ·obtain ⟨e,n,ne,nf,d⟩:=I.pin p hp
  have nch:p.1 ∉ ch:=fun z=>(hch p.1 z).2.2.2 p hp rfl
  exact ⟨keep p.1 p.2 ne nf nch e n,free p.1 p.2 nch e n,ne,nf,d⟩
theorem Inv.un {t':Nat} (I:Inv X pins σ H s) (u:Un X.fs [] H H' s.heap h') (hok:HOk X.prog X.w H' h'):Inv X pins σ H' { s with heap:=h',toks:=t' }:=by
 obtain ⟨m,⟨o,es,ep,ho,r⟩,_⟩:=id I.loc
 obtain ⟨sl,hL⟩:=u.any ho I.free (by simp)
 exact I.step (g':=s.gens) (d':=s.drawn) (ch:=[]) (fun _ z=>nomatch z) (fun b o _ hb _ e n=>u.keep b o e n hb (by simp)) (fun b o _ hb _ e n=>u.slot b o e n hb (by simp)) (fun b o _ e n=>u.free b o e n (by simp)) (fun b o _ e=>u.there b o e (by simp)) u.tups u.frzs u.tbls (fun m' hm=>by
  obtain ⟨o',es',ep',ho',r'⟩:=hm
  rw [ho] at ho'; cases ho'
  exact ⟨_,es',ep',hL,r'⟩) hok I.bare
theorem Inv.call {g':Array GenState} {t':Nat} {d':Drawn} {ch:List Addr} (I:Inv X pins σ H s) (u:Un (frs X.stack) ch H H' s.heap h') (hok:HOk X.prog X.w H' h') (hg:AllBare g')
 (hch:∀ b ∈ ch,(b ∈ X.ex∨X.s₀.heap.objs.size ≤ b)∧b ≠ X.env.locals∧(∀ x c,X.env.cells.lookup x = some c→c ≠ b)∧∀ p ∈ X.pn++pins,p.1 ≠ b) :
 Inv X pins σ H' { s with heap:=h',gens:=g',drawn:=d',toks:=t' }:=by
 obtain ⟨m,⟨o,es,ep,ho,r⟩,_⟩:=id I.loc
 obtain ⟨sl,hL⟩:=u.any ho I.free fun z=>(hch _ z).2.1 rfl
 exact I.step (ch:=ch) hch (fun b o hL hb hc e n=>u.keep b o e n (fun z=>(List.mem_cons.mp (I.stkSub b z)).elim hL hb) hc) (fun b o _ _ hc e n=>u.any e n hc) (fun b o hc e n=>u.free b o e n hc) (fun b o hc e=>u.there b o e hc) u.tups u.frzs u.tbls (fun m' hm=>by
  obtain ⟨o',es',ep',ho',r'⟩:=hm
  rw [ho] at ho'; cases ho'
  exact ⟨_,es',ep',hL,r'⟩) hok hg
theorem Inv.turned {t':Nat} {it:Addr} (I:Inv X pins σ H s) (k:∀ b o,b ≠ it→s.heap.get? b = some o→h'.get? b = some o) (hn:H it = none) (hL:it ≠ X.env.locals)
 (h1:it ∈ X.ex∨X.s₀.heap.objs.size ≤ it) (h2:∀ x c,X.env.cells.lookup x = some c→c ≠ it) (h3:∀ p ∈ X.pn++pins,p.1 ≠ it):Inv X pins σ H { s with heap:=h',toks:=t' }:=by
 have nit:∀ b u,H b = some u→b ≠ it:=fun b u e z=>by rw [z,hn] at e; cases e
 refine I.step (g':=s.gens) (d':=s.drawn) (ch:=[it]) (fun b hb=>?_) (fun b o _ _ hc e _=>k b o (fun z=>hc (by simp [z])) e) (fun b o _ _ hc e _=>⟨o.slots,k b o (fun z=>hc (by simp [z])) e⟩) (fun _ _ _ _ n=>n)
  (fun b o hc e=>⟨o,k b o (fun z=>hc (by simp [z])) e⟩) (fun _ _ e=>e) (fun _ _ _ e=>e) (fun b ps e=>⟨#[],by rw [e]; simp⟩) (fun m hm=>?_) (fun b u e=>?_) I.bare
 ·have e:b = it:=by simpa using hb
  subst e
  exact ⟨h1,hL,h2,h3⟩
 ·obtain ⟨o,es,ep,ho,r⟩:=hm
  exact ⟨o,es,ep,k _ o (Ne.symm hL) ho,r⟩
 ·refine (I.hok b u e).stay (fun c v hc q=>k c v ?_ q) (fun _ q=>q) fun _ _ q=>q
  rcases hc with z | z
  ·rw [z]; exact nit b u e
  ·exact nit c _ z
theorem Inv.tok (I:Inv X pins σ H s) (t:Nat):Inv X pins σ H { s with toks:=t }:=I.un (h':=s.heap) (t':=t) Un.refl I.hok
theorem Inv.kept {t':Nat} (I:Inv X pins σ H s) (k:∀ b u,s.heap.get? b = some u→h'.get? b = some u):Inv X pins σ H { s with heap:=h',toks:=t' }:=I.un (Un.kept k) (I.hok.kept k)
theorem Inv.laid {a:Addr} {o:HO} {t':Nat} (I:Inv X pins σ H s) (k:∀ b u,s.heap.get? b = some u→h'.get? b = some u) (hp:s.heap.objs.size ≤ a) (new:ObjOk X.prog X.w (upd H a o) h' a o) :
 Inv X pins σ (upd H a o) { s with heap:=h',toks:=t' }:=I.un (Un.laid k hp (I.hok.fresh hp)) (I.hok.laid k hp new)
theorem Inv.write {x e:Addr} {o:HO} {t':Nat} (I:Inv X pins σ H s) (mu:Mut (H x)) (he:e = x∨H e = some (.own x)) (k:∀ b u,b ≠ e→s.heap.get? b = some u→h'.get? b = some u) (heo:∃ u,h'.get? e = some u)
 (new:ObjOk X.prog X.w (upd H x o) h' x o):Inv X pins σ (upd H x o) { s with heap:=h',toks:=t' }:=I.un (Un.write mu he k heo) (I.hok.write mu he k heo new)
theorem Inv.weak {σ':List (Option V)} (I:Inv X pins σ H s) (hl:σ'.length = σ.length) (w:∀ (i:Nat) v,σ'[i]? = some (some v)→σ[i]? = some (some v)):Inv X pins σ' H s :=
 ⟨I.ok,I.os,I.bare,I.base,let ⟨m,hn,hl'⟩:=I.loc; ⟨m,hn,fun i x v e1 e2 e3=>hl' i x v e1 (w i v e2) e3⟩,I.cell,I.free,I.freeC,I.pin,I.hok,hl.trans I.len⟩
theorem Inv.pins_of {pins':List (Addr × Obj)} (I:Inv X pins σ H s) (h:∀ p ∈ pins',s.heap.get? p.1 = some p.2∧H p.1 = none∧p.1 ≠ X.env.locals∧p.1 ∉ X.fs∧∀ v,p.2.data ≠ .cell v):Inv X pins' σ H s :=
 ⟨I.ok,I.os,I.bare,I.base,I.loc,I.cell,I.free,I.freeC,fun p hp=>(List.mem_append.mp hp).elim (fun z=>I.pin p (List.mem_append_left _ z)) (h p),I.hok,I.len⟩
theorem nodup_ix {N:List Str} (hN:N.Nodup) {i j:Nat} {x:Str} (a:N[i]? = some x) (b:N[j]? = some x):i = j:=by
 obtain ⟨h1,e1⟩:=List.getElem?_eq_some_iff.mp a
 obtain ⟨h2,e2⟩:=List.getElem?_eq_some_iff.mp b
 exact (List.getElem_inj hN).mp (e1.trans e2.symm)
theorem store_ok2 {M:Model} {A:Around} {E:Value→Shared→Prop} {i:Nat} {x:Str} {v:V} {u:Value} {Q:Unit→Shared→Prop} (I:Inv X pins σ H s) (hN:X.N.Nodup) (hi:X.N[i]? = some x) (hx:Loc X.env.scope x) (r:RelV v u)
 (h:∀ s',Inv X pins (σ.set i (some v)) H s'→(∃ a,Heap.SameBut a s.heap s'.heap∧(a = X.env.locals∨X.env.cells.lookup x = some a))→Q () s') (hf:X.fn x = true∨X.env.scope.names.lookup x = some .local:=by first | exact .inl rfl | exact .inr rfl | assumption):wpAny M A (storeName X.env x u) Q E s:=by
 obtain ⟨m,hn,hl⟩:=id I.loc
 have hcls:(X.env.scope.kind == .class || (X.env.scope.kind == .module && X.env.locals != X.env.globals)) = false:=by rw [I.ok.kind]; rfl
 have hiσ:i < σ.length:=by rw [I.len]; exact (List.getElem?_eq_some_iff.mp hi).1
 have cne:=I.cne
 have tracked:∀ {a:Addr} {h':Heap},(∃ o,s.heap.get? a = some o∧H a = none)→Heap.SameBut a s.heap h'→HOk X.prog X.w H h':=fun {a h'} ha hs b ob e=>by
  obtain ⟨_,_,hfree⟩:=ha
  refine (I.hok b ob e).stay (fun c w' hc q=>(hs.2 c ?_).trans q) (fun _ q=>q) fun _ _ q=>q
  rintro rfl
  rcases hc with rfl | hc
  ·rw [hfree] at e; cases e
  ·rw [hfree] at hc; cases hc
 rcases hx with hk | hk
 ·refine wpAny_storeName_local hk hn (fun h' hn' hs=>?_) hcls
  obtain ⟨oL,_,_,hoL,_⟩:=id hn
  refine h _ ⟨I.ok,I.os,I.bare,⟨fun b o e n hb hx=>?_,fun b o e n hb hx=>?_,I.base.free,fun b o e hx=>?_,I.base.tups,I.base.frzs,I.base.tbls⟩,⟨_,hn',fun j y v' e1 e2 e3=>?_⟩,fun y c e=>?_,I.free,I.freeC,fun p hp=>?_,tracked ⟨oL,hoL,I.free⟩ hs,by simpa using I.len⟩ ⟨_,hs,.inl rfl⟩
  ·exact (hs.2 b (Nat.ne_of_lt (Nat.lt_of_lt_of_le (Heap.lt_size e) I.ok.above))).trans (I.base.keep b o e n hb hx)
  ·obtain ⟨sl,e1⟩:=I.base.slot b o e n hb hx
   exact ⟨sl,(hs.2 b (Nat.ne_of_lt (Nat.lt_of_lt_of_le (Heap.lt_size e) I.ok.above))).trans e1⟩
  ·obtain ⟨o',e1⟩:=I.base.there b o e hx
   exact ⟨o',(hs.2 b (Nat.ne_of_lt (Nat.lt_of_lt_of_le (Heap.lt_size e) I.ok.above))).trans e1⟩
  ·by_cases hj:j = i
   ·subst hj
    rw [hi] at e1; cases e1
    rw [List.getElem?_set_self hiσ] at e2
    cases e2
    exact ⟨u,r,.inl ⟨hk,by simp⟩⟩
   ·rw [List.getElem?_set_ne (Ne.symm hj)] at e2
    obtain ⟨u',r',q⟩:=hl j y v' e1 e2 e3
    refine ⟨u',r',?_⟩
    rcases q with ⟨k,e⟩ | ⟨k,c,e,z⟩
    ·refine .inl ⟨k,?_⟩
     have:y ≠ x:=fun e=>hj (nodup_ix hN e1 (e ▸ hi))
     simp [this,e]
    ·exact .inr ⟨k,c,e,z.sameBut hs (cne y c e)⟩
  ·obtain ⟨w',z⟩:=I.cell y c e
   exact ⟨w',z.sameBut hs (cne y c e)⟩
  ·obtain ⟨e,n,ne,nf,d⟩:=I.pin p hp
   exact ⟨(hs.2 p.1 ne).trans e,n,ne,nf,d⟩
 ·have hfn:X.fn x = true:=by
   rcases hf with z | z
   ·exact z
   ·rw [z] at hk; cases hk
  obtain ⟨c,hc⟩:=I.ok.has x (.inl hk)
  obtain ⟨w',z⟩:=I.cell x c hc
  refine wpAny_storeName_cell I.ok.kind hk hc z (fun h' hc' hs=>?_)
  obtain ⟨oc,hoc,hocd⟩:=id z
  refine h { s with heap:=h' } ⟨I.ok,I.os,I.bare,⟨fun b o e n hb hx=>?_,fun b o e n hb hx=>?_,I.base.free,fun b o e hx=>?_,I.base.tups,I.base.frzs,I.base.tbls⟩,⟨m,hn.sameBut hs (Ne.symm (cne x c hc)),fun j y v' e1 e2 e3=>?_⟩,fun y c' e=>?_,I.free,I.freeC,fun p hp=>?_,tracked ⟨oc,hoc,I.freeC x c hc⟩ hs,by simpa using I.len⟩ ⟨c,hs,.inr hc⟩
  ·exact (hs.2 b (Nat.ne_of_lt (Nat.lt_of_lt_of_le (Heap.lt_size e) (I.ok.cab x c hfn hc)))).trans (I.base.keep b o e n hb hx)
  ·obtain ⟨sl,e1⟩:=I.base.slot b o e n hb hx
   exact ⟨sl,(hs.2 b (Nat.ne_of_lt (Nat.lt_of_lt_of_le (Heap.lt_size e) (I.ok.cab x c hfn hc)))).trans e1⟩
  ·obtain ⟨o',e1⟩:=I.base.there b o e hx
   exact ⟨o',(hs.2 b (Nat.ne_of_lt (Nat.lt_of_lt_of_le (Heap.lt_size e) (I.ok.cab x c hfn hc)))).trans e1⟩
  ·by_cases hj:j = i
   ·subst hj
    rw [hi] at e1; cases e1
    rw [List.getElem?_set_self hiσ] at e2
    cases e2
    exact ⟨u,r,.inr ⟨.inl hk,c,hc,hc'⟩⟩
   ·rw [List.getElem?_set_ne (Ne.symm hj)] at e2
    obtain ⟨u',r',q⟩:=hl j y v' e1 e2 e3
    refine ⟨u',r',?_⟩
    rcases q with q | ⟨k,c',e,z'⟩
    ·exact .inl q
    ·refine .inr ⟨k,c',e,z'.sameBut hs ?_⟩
     rintro rfl
     exact hj (nodup_ix hN e1 (I.ok.inj _ _ _ e hc ▸ hi))
  ·by_cases hcc:c' = c
   ·subst hcc; exact ⟨_,hc'⟩
   ·obtain ⟨w2,z2⟩:=I.cell y c' e
    exact ⟨w2,z2.sameBut hs hcc⟩
  ·obtain ⟨e,n,ne,nf,d⟩:=I.pin p hp
   refine ⟨(hs.2 p.1 ?_).trans e,n,ne,nf,d⟩
   intro q
   rw [q,hoc] at e
   have q':oc = p.2:=Option.some.inj e
   exact d w' (by rw [← q']; exact hocd)
theorem store_ok {M:Model} {A:Around} {E:Value→Shared→Prop} {i:Nat} {x:Str} {v:V} {u:Value} {Q:Unit→Shared→Prop} (I:Inv X pins σ H s) (hN:X.N.Nodup) (hi:X.N[i]? = some x) (hx:Loc X.env.scope x) (r:RelV v u)
 (h:∀ s',Inv X pins (σ.set i (some v)) H s'→Q () s') (hf:X.fn x = true∨X.env.scope.names.lookup x = some .local:=by first | exact .inl rfl | exact .inr rfl | assumption):wpAny M A (storeName X.env x u) Q E s :=
 store_ok2 I hN hi hx r (fun s' I' _=>h s' I') hf
theorem Inv.call' {s':Shared} {ch:List Addr} (I:Inv X pins σ H s) (ho:s'.os = s.os) (u:Un (frs X.stack) ch H H' s.heap s'.heap) (hok:HOk X.prog X.w H' s'.heap) (hg:AllBare s'.gens)
 (hch:∀ b ∈ ch,(b ∈ X.ex∨X.s₀.heap.objs.size ≤ b)∧b ≠ X.env.locals∧(∀ x c,X.env.cells.lookup x = some c→c ≠ b)∧∀ p ∈ X.pn++pins,p.1 ≠ b):Inv X pins σ H' s':=by
 obtain ⟨h',g',d',t',o'⟩:=s'
 have e:o' = s.os:=ho
 subst e
 exact I.call (g':=g') (t':=t') (d':=d') u hok hg hch
end
abbrev XK:=Value→Option Addr→Hp→Prop
abbrev St:=List (Option V)
abbrev VK:=V→Hp→Prop
abbrev TE:=St→Hp→VK→Prop
abbrev TT:=St→Hp→(Bool→Hp→Prop)→Prop
abbrev TA:=St→Hp→(List V→Hp→Prop)→Prop
structure Ends where
 nx:St→Hp→Prop
 rt:VK
 bk:St→Hp→Prop:=fun _ _=>False
 ct:St→Hp→Prop:=fun _ _=>False
abbrev TS:=Ends→St→Hp→Prop
def EP (X:Cx) (pins:List (Addr × Obj)) (σ:St) (Q:VK) (u:Value) (s':Shared):Prop:=∃ v H',Inv X pins σ H' s'∧RelV v u∧Q v H'
def TP (X:Cx) (pins:List (Addr × Obj)) (σ:St) (Q:Bool→Hp→Prop) (b:Bool) (s':Shared):Prop:=∃ H',Inv X pins σ H' s'∧Q b H'
def AP (X:Cx) (pins:List (Addr × Obj)) (σ:St) (Q:List V→Hp→Prop) (us:List Value) (s':Shared):Prop:=∃ vs H',Inv X pins σ H' s'∧Vals vs us∧Q vs H'
def SP (X:Cx) (pins:List (Addr × Obj)) (D:Ends) (f:Flow) (s':Shared):Prop :=
 match f with
 | .next=>∃ σ' H',Inv X pins σ' H' s'∧D.nx σ' H'
 | .brk=>∃ σ' H',Inv X pins σ' H' s'∧D.bk σ' H'
 | .cont=>∃ σ' H',Inv X pins σ' H' s'∧D.ct σ' H'
 | .ret u=>∃ v σ' H',Inv X pins σ' H' s'∧RelV v u∧D.rt v H'
def PE (X:Cx) (e:Expr) (t:TE):Prop :=
 ∀ (pins:List (Addr × Obj)) (s:Shared) (σ:St) (H:Hp) (Q:VK),Inv X pins σ H s→t σ H Q→wpAny (model X.prog X.w) X.A (eval e X.env) (EP X pins σ Q) X.xe s
def PT (X:Cx) (e:Expr) (t:TT):Prop :=
 ∀ (pins:List (Addr × Obj)) (s:Shared) (σ:St) (H:Hp) (Q:Bool→Hp→Prop),Inv X pins σ H s→t σ H Q→wpAny (model X.prog X.w) X.A (isTrue e X.env (eval e X.env)) (TP X pins σ Q) X.xe s
def PW (X:Cx) (e:Expr) (t:TT):Prop :=
 ∀ (whole:Sem Value) (pins:List (Addr × Obj)) (s:Shared) (σ:St) (H:Hp) (Q:Bool→Hp→Prop),Inv X pins σ H s→t σ H Q→wpAny (model X.prog X.w) X.A (isTrue e X.env whole) (TP X pins σ Q) X.xe s
theorem PW.pt {X:Cx} {e:Expr} {t:TT} (h:PW X e t):PT X e t:=h _
def PA (X:Cx) (es:List Expr) (t:TA):Prop :=
 ∀ (pos:Pos) (pins:List (Addr × Obj)) (s:Shared) (σ:St) (H:Hp) (Q:List V→Hp→Prop),Inv X pins σ H s→t σ H Q→wpAny (model X.prog X.w) X.A (spliced (backTo pos (starEach es X.env))) (AP X pins σ Q) X.xe s
def PS (X:Cx) (st:Stmt) (t:TS):Prop :=
 ∀ (pins:List (Addr × Obj)) (s:Shared) (σ:St) (H:Hp) (D:Ends),Inv X pins σ H s→t D σ H→wpAny (model X.prog X.w) X.A (exec st X.env) (SP X pins D) X.xe s
def PSs (X:Cx) (st:List Stmt) (t:TS):Prop :=
 ∀ (pins:List (Addr × Obj)) (s:Shared) (σ:St) (H:Hp) (D:Ends),Inv X pins σ H s→t D σ H→wpAny (model X.prog X.w) X.A (execs st X.env) (SP X pins D) X.xe s
theorem thn {α:Type} {t:Sem α} {Q Q':α→Shared→Prop} {M:Model} {A:Around} {E:Value→Shared→Prop} {s:Shared} (h:wpAny M A t Q E s) (hQ:∀ a s,Q a s→Q' a s):wpAny M A t Q' E s:=wpAny_mono h hQ fun _ _ x=>x
section
variable {X:Cx}
def tVar (i:Nat):TE:=fun σ H Q=>∃ v,σ[i]? = some (some v)∧Q v H
def tC (v:V):TE:=fun _ H Q=>Q v H
theorem pe_var {i:Nat} {x:Str} {pos:Pos} (hN:X.N[i]? = some x) (hv:Vis X.env.scope x) (hd:(x == ("__debug__":Str)) = false:=by decide) (hcd:(x == ("__classdict__":Str)) = false:=by decide):PE X (.Name x pos) (tVar i):=by
 intro pins s σ H Q I h
 obtain ⟨v,e,h⟩:=h
 obtain ⟨m,hn,hl⟩:=I.loc
 obtain ⟨u,r,l⟩:=hl i x v hN e hv
 have fin:EP X pins σ Q u s:=⟨v,H,I,r,h⟩
 rcases l with ⟨hk,hm⟩ | ⟨hk,c,hc,hcell⟩
 ·exact wpAny_Name (wpAny_loadName_local I.ok.kind hk hn hm fin) hd
 ·rcases hk with hk | hk
  ·exact wpAny_Name (wpAny_loadName_cell I.ok.kind hk hc hcell fin) hd
  ·exact wpAny_Name (wpAny_loadName_free I.ok.kind hk hc hcell fin hcd) hd
theorem pe_int {i j pos}:PE X (.Constant (.int i) j pos) (tC (.int i)):=fun _ _ _ H _ I h=>wpAny_Constant_int ⟨.int i,H,I.tok _,⟨_,rfl⟩,h⟩
theorem pe_bl {b j pos}:PE X (.Constant (.bool b) j pos) (tC (.bl b)):=fun _ _ _ H _ I h=>Constant_bool ⟨.bl b,H,I,rfl,h⟩
theorem pe_non {j pos}:PE X (.Constant .none j pos) (tC .non):=fun _ _ _ H _ I h=>Constant_none ⟨.non,H,I,rfl,h⟩
theorem pe_str {x j pos}:PE X (.Constant (.str x) j pos) (tC (.str x)):=fun _ _ _ H _ I h=>Calls.Constant_str ⟨.str x,H,I.tok _,⟨_,rfl⟩,h⟩
def Gl (X:Cx) (x:Str):Prop:=X.env.kindOf x = some .globalImplicit
theorem ld_glob {E:Value→Shared→Prop} {pins:List (Addr × Obj)} {s:Shared} {σ:St} {H:Hp} {x:Str} {u:Value} {pos:Pos} {Q:Value→Shared→Prop} (I:Inv X pins σ H s) (hg:Gl X x) (hm:X.mg x = some u) (h:Q u s)
 (hd:(x == ("__debug__":Str)) = false:=by decide):wpAny (model X.prog X.w) X.A (eval (.Name x pos) X.env) Q E s :=
 Calls.Name_function_global I.ok.kind hg (Calls.loadGlobal_global (by rw [I.ok.glob]; exact I.mod.glob.keeps I.bk) hm h) hd
theorem ld_blt {E:Value→Shared→Prop} {pins:List (Addr × Obj)} {s:Shared} {σ:St} {H:Hp} {x:Str} {u:Value} {pos:Pos} {Q:Value→Shared→Prop} (I:Inv X pins σ H s) (hg:Gl X x) (hm:X.mg x = none) (hv:bootBuiltins x = some u) (h:Q u s)
 (hn:x ≠ "__name__":=by decide) (hd:(x == ("__debug__":Str)) = false:=by decide):wpAny (model X.prog X.w) X.A (eval (.Name x pos) X.env) Q E s:=by
 obtain ⟨mb,h1,h2⟩:=I.mod.blt
 exact Calls.Name_function_global I.ok.kind hg (Calls.loadGlobal_builtin (by rw [I.ok.glob]; exact I.mod.glob.keeps I.bk) hm (by rw [I.ok.blt]; exact h1.keeps I.bk) ((h2 x hn).trans hv) h) hd
theorem pe_bltn {x:Str} {v:V} {u:Value} {pos:Pos} (hg:Gl X x) (hm:X.mg x = none) (hv:bootBuiltins x = some u) (r:RelV v u) (hn:x ≠ "__name__":=by decide) (hd:(x == ("__debug__":Str)) = false:=by decide):PE X (.Name x pos) (tC v) :=
 fun _ _ _ H _ I h=>ld_blt I hg hm hv ⟨v,H,I,r,h⟩ hn hd
variable {a b:Expr} {ta tb:TE} {pos:Pos}
def tB (t:TE):TT:=fun σ H Q=>t σ H fun x H1=>∃ c,x = .bl c∧Q c H1
variable {tA tB':TT} {rest:List Expr}
def tAnd (t u:TT):TT:=fun σ H Q=>t σ H fun c H1=>if c = true then u σ H1 Q else Q false H1
def tOr (t u:TT):TT:=fun σ H Q=>t σ H fun c H1=>if c = true then Q true H1 else u σ H1 Q
def tNot (t:TT):TT:=fun σ H Q=>t σ H fun c H1=>Q (!c) H1
theorem pw_and1 (ha:PT X a tA):PW X (.BoolOp .And [a] pos) tA:=by
 intro wh pins s σ H Q I h
 refine isTrue_and (thn (ha pins s σ H Q I h) fun c s1 e=>?_)
 cases c with
 | true=>exact isTrue_and_nil e
 | false=>exact e
theorem pw_or1 (ha:PT X a tA):PW X (.BoolOp .Or [a] pos) tA:=by
 intro wh pins s σ H Q I h
 refine isTrue_or (thn (ha pins s σ H Q I h) fun c s1 e=>?_)
 cases c with
 | false=>exact isTrue_or_nil e
 | true=>exact e
theorem pw_and (ha:PT X a tA) (hb:PW X (.BoolOp .And (b :: rest) pos) tB'):PW X (.BoolOp .And (a :: b :: rest) pos) (tAnd tA tB'):=by
 intro wh pins s σ H Q I h
 refine isTrue_and (thn (ha pins s σ H _ I h) fun c s1 ⟨H1,I1,q1⟩=>?_)
 cases c with
 | true=>exact hb wh pins s1 σ H1 Q I1 q1
 | false=>exact ⟨H1,I1,q1⟩
theorem pw_or (ha:PT X a tA) (hb:PW X (.BoolOp .Or (b :: rest) pos) tB'):PW X (.BoolOp .Or (a :: b :: rest) pos) (tOr tA tB'):=by
 intro wh pins s σ H Q I h
 refine isTrue_or (thn (ha pins s σ H _ I h) fun c s1 ⟨H1,I1,q1⟩=>?_)
 cases c with
 | true=>exact ⟨H1,I1,q1⟩
 | false=>exact hb wh pins s1 σ H1 Q I1 q1
theorem pt_not (ha:PT X a tA):PT X (.UnaryOp .Not a pos) (tNot tA):=by
 intro pins s σ H Q I h
 exact isTrue_not (ha pins s σ H (fun c H1=>Q (!c) H1) I h)
def tAndV (ta tb:TE):TE:=fun σ H Q=>ta σ H fun x H1=>∃ c,x = .bl c∧if c = true then tb σ H1 Q else Q (.bl false) H1
def tNotV (ta:TE):TE:=fun σ H Q=>ta σ H fun x H1=>∃ c,x = .bl c∧Q (.bl (!c)) H1
theorem pe_one {op} {t:TE} (h:PE X a t):PE X (.BoolOp op [a] pos) t:=fun pins s σ H Q I hw=>BoolOp_one (h pins s σ H Q I hw)
theorem pe_and (ha:PE X a ta) (hb:PE X (.BoolOp .And (b :: rest) pos) tb):PE X (.BoolOp .And (a :: b :: rest) pos) (tAndV ta tb):=by
 intro pins s σ H Q I h
 refine BoolOp_and (thn (ha pins s σ H _ I h) fun v s1 ⟨x,H1,I1,r1,q1⟩=>?_)
 obtain ⟨c,rfl,q1⟩:=q1
 cases r1
 refine wpAny_truthy_bool ?_
 cases c with
 | true=>exact hb pins s1 σ H1 Q I1 q1
 | false=>exact ⟨.bl false,H1,I1,rfl,q1⟩
theorem pe_not (ha:PE X a ta):PE X (.UnaryOp .Not a pos) (tNotV ta):=by
 intro pins s σ H Q I h
 refine UnaryOp_ (thn (ha pins s σ H _ I h) fun v s1 ⟨x,H1,I1,r1,q1⟩=>?_)
 obtain ⟨c,rfl,q1⟩:=q1
 cases r1
 exact not_of (wpAny_truthy_bool ⟨.bl (!c),H1,I1,rfl,q1⟩)
end
def SqL (K:PySem.W.Frag) (H:Hp) (a:Addr) (xs:List V):Prop :=
 Rd H a (.lst xs) ∨
  ∃ (o:Obj) (its:Array Value) (n:Nat),K.lookup a = some o∧o.cls = .type "list"∧o.dict = none∧o.data = .seq its n∧its.size ≤ sizeLine∧Vals xs its.toList
def SqT (K:PySem.W.Frag) (H:Hp) (a:Addr) (xs:List V):Prop :=
 Rd H a (.tup xs) ∨
  ∃ (o:Obj) (its:Array Value) (n:Nat),K.lookup a = some o∧(o.cls = .type "tuple"∧o.dict = none)∧o.data = .seq its n∧its.size ≤ sizeLine∧Vals xs its.toList
def absV:Value→Option V
 | .none=>some .non
 | .bool b=>some (.bl b)
 | .int i _=>some (.int i)
 | .str x _=>some (.str x)
 | .bytes b _=>some (.byt b)
 | .float b _=>some (.flt b)
 | .ref a=>some (.ref a)
 | .type n=>some (.ty n)
 | _=>none
theorem RelV.abs {x:V} {u:Value} (r:RelV x u):absV u = some x:=by
 cases x with
 | non=>cases r; rfl
 | bl _=>cases r; rfl
 | int _=>obtain ⟨t,rfl⟩:=r; rfl
 | str _=>obtain ⟨t,rfl⟩:=r; rfl
 | byt _=>obtain ⟨t,rfl⟩:=r; rfl
 | flt _=>obtain ⟨t,rfl⟩:=r; rfl
 | ref _=>cases r; rfl
 | ty _=>cases r; rfl
theorem RelV.inj {x y:V} {u:Value} (r:RelV x u) (q:RelV y u):x = y:=Option.some.inj (r.abs.symm.trans q.abs)
theorem Vals.inj:∀ {xs ys:List V} {us:List Value},Vals xs us→Vals ys us→xs = ys
 | _,_,_,.nil,.nil=>rfl
 | _,_,_,.cons r t,.cons r' t'=>by rw [r.inj r',Vals.inj t t']
section
variable {X:Cx} {pins:List (Addr × Obj)} {σ:St} {H:Hp} {s:Shared} {a:Addr} {xs ys:List V}
theorem SqL.of {K:PySem.W.Frag} (h:H a = some (.lst xs)):SqL K H a xs:=.inl (.inl h)
theorem SqT.of {K:PySem.W.Frag} (h:H a = some (.tup xs)):SqT K H a xs:=.inl (.inl h)
theorem Inv.list (I:Inv X pins σ H s) (h:SqL X.K H a xs):∃ its:List Value,Vals xs its∧PlainL s.heap a its.toArray∧xs.length ≤ sizeLine:=by
 rcases h with h | ⟨o,its,n,hk,hc,hd,hs,hz,r⟩
 ·obtain ⟨z,its,n,r,e⟩:=h.ok I.hok
  exact ⟨its,r,⟨_,n,e,rfl,rfl,rfl⟩,z⟩
 ·refine ⟨its.toList,r,⟨o,n,I.kIn a o hk,hc,hd,by simpa using hs⟩,?_⟩
  have e:=r.length
  simp only [Array.length_toList] at e
  omega
theorem Inv.tuple (I:Inv X pins σ H s) (h:SqT X.K H a xs):∃ its:List Value,Vals xs its∧IsTup s.heap a its.toArray∧xs.length ≤ sizeLine:=by
 rcases h with h | ⟨o,its,n,hk,hc,hs,hz,r⟩
 ·obtain ⟨z,its,r,p⟩:=h.ok I.hok
  exact ⟨its,r,p.tup,z⟩
 ·refine ⟨its.toList,r,⟨o,I.kIn a o hk,hc.1,n,by simpa using hs⟩,?_⟩
  have e:=r.length
  simp only [Array.length_toList] at e
  omega
theorem Inv.list_inj (I:Inv X pins σ H s) (h:SqL X.K H a xs) (h':SqL X.K H a ys):xs = ys:=by
 obtain ⟨its,r,⟨o,n,e,_,_,d⟩,_⟩:=I.list h
 obtain ⟨its',r',⟨o',n',e',_,_,d'⟩,_⟩:=I.list h'
 rw [e] at e'; cases e'
 rw [d] at d'
 injection d' with d1 _
 have:its = its':=by simpa using congrArg Array.toList d1
 subst this
 exact r.inj r'
theorem Inv.tuple_inj (I:Inv X pins σ H s) (h:SqT X.K H a xs) (h':SqT X.K H a ys):xs = ys:=by
 obtain ⟨its,r,⟨o,e,_,n,d⟩,_⟩:=I.tuple h
 obtain ⟨its',r',⟨o',e',_,n',d'⟩,_⟩:=I.tuple h'
 rw [e] at e'; cases e'
 rw [d] at d'
 injection d' with d1 _
 have:its = its':=by simpa using congrArg Array.toList d1
 subst this
 exact r.inj r'
end
abbrev Cx.wish (X:Cx) (E:Value→Shared→Prop):Cx:={ X with xe:=E }
abbrev Cx.nox (X:Cx):Cx:=X.wish fun _ _=>False
theorem Cx.Ok.wish {X:Cx} (ok:X.Ok) (E:Value→Shared→Prop):(X.wish E).Ok :=
 ⟨ok.mod,ok.kind,ok.glob,ok.blt,ok.above,ok.inj,ok.has,ok.cab,ok.hd,ok.frames,ok.stk,ok.exf,ok.bs,ok.bsz,ok.noex,ok.exfs,ok.funs,ok.frf⟩
theorem Cx.Ok.unwish {X:Cx} {E:Value→Shared→Prop} (ok:(X.wish E).Ok):X.Ok :=
 ⟨ok.mod,ok.kind,ok.glob,ok.blt,ok.above,ok.inj,ok.has,ok.cab,ok.hd,ok.frames,ok.stk,ok.exf,ok.bs,ok.bsz,ok.noex,ok.exfs,ok.funs,ok.frf⟩
section
variable {X:Cx} {pins:List (Addr × Obj)} {σ:St} {H:Hp} {s:Shared} {E:Value→Shared→Prop}
theorem Inv.wish (I:Inv X pins σ H s) (E:Value→Shared→Prop):Inv (X.wish E) pins σ H s:=⟨I.ok.wish E,I.os,I.bare,I.base,I.loc,I.cell,I.free,I.freeC,I.pin,I.hok,I.len⟩
theorem Inv.unwish (I:Inv (X.wish E) pins σ H s):Inv X pins σ H s:=⟨I.ok.unwish,I.os,I.bare,I.base,I.loc,I.cell,I.free,I.freeC,I.pin,I.hok,I.len⟩
theorem SP.unwish {D:Ends} {f:Flow} {s':Shared} (h:SP (X.wish E) pins D f s'):SP X pins D f s':=by
 cases f with
 | next=>obtain ⟨σ',H',I,q⟩:=h; exact ⟨σ',H',I.unwish,q⟩
 | brk=>obtain ⟨σ',H',I,q⟩:=h; exact ⟨σ',H',I.unwish,q⟩
 | cont=>obtain ⟨σ',H',I,q⟩:=h; exact ⟨σ',H',I.unwish,q⟩
 | ret u=>obtain ⟨v,σ',H',I,r,q⟩:=h; exact ⟨v,σ',H',I.unwish,r,q⟩
theorem PSs.nox {st:List Stmt} {t:TS} (h:PSs X.nox st t):PSs X st t:=fun pins s σ H D I hw =>
 wpAny_mono (h pins s σ H D (I.wish _) hw) (fun _ _ q=>q.unwish) fun _ _ z=>False.elim z
end
section
variable {X:Cx} {st:Stmt} {rest:List Stmt} {t u:TS} {e:Expr} {te:TE} {pos:Pos}
def tNext:TS:=fun D σ H=>D.nx σ H
def tSeq (t u:TS):TS:=fun D σ H=>t { D with nx:=u D } σ H
theorem pss_nil:PSs X [] tNext:=fun _ _ σ H _ I h=>wpAny_execs_nil ⟨σ,H,I,h⟩
theorem pss_cons (h1:PS X st t) (h2:PSs X rest u):PSs X (st :: rest) (tSeq t u):=by
 intro pins s σ H D I h
 refine wpAny_execs_cons (thn (h1 pins s σ H { D with nx:=u D } I h) fun f s1 q=>?_)
 cases f with
 | next =>
  obtain ⟨σ',H',I',q⟩:=q
  exact h2 pins s1 σ' H' D I' q
 | ret v=>exact q
 | brk=>exact q
 | cont=>exact q
theorem Inv.quiet {pins:List (Addr × Obj)} {σ:St} {H:Hp} {s:Shared} (I:Inv X pins σ H s):interactive X.env = false:=by simp [interactive,I.ok.kind]
def tDrop (te:TE):TS:=fun D σ H=>te σ H fun _ H1=>D.nx σ H1
theorem ps_expr (he:PE X e te) (hs:swapsWith e none pos.line X.env = pure false:=by rfl):PS X (.Expr e pos) (tDrop te):=by
 intro pins s σ H D I h
 exact wpAny_Expr_any (thn (he pins s σ H _ I h) fun v s1 ⟨x,H1,I1,r1,q1⟩=>⟨σ,H1,I1,q1⟩) I.quiet hs
def tRet (te:TE):TS:=fun D σ H=>te σ H D.rt
theorem ps_ret (he:PE X e te):PS X (.Return (some e) pos) (tRet te):=by
 intro pins s σ H D I h
 exact wpAny_Return_some (thn (he pins s σ H _ I h) fun v s1 ⟨x,H1,I1,r1,q1⟩=>⟨x,σ,H1,I1,r1,q1⟩)
def tIfS (c:TT) (t u:TS):TS:=fun D σ H=>c σ H fun b H1=>if b = true then t D σ H1 else u D σ H1
theorem ps_if {c:Expr} {a b:List Stmt} {tc:TT} (hc:PT X c tc) (ha:PSs X a t) (hb:PSs X b u):PS X (.If c a b pos) (tIfS tc t u):=by
 intro pins s σ H D I h
 refine wpAny_If (thn (hc pins s σ H _ I h) fun d s1 ⟨H1,I1,q1⟩=>?_)
 cases d with
 | true=>exact ha pins s1 σ H1 D I1 q1
 | false=>exact hb pins s1 σ H1 D I1 q1
end
abbrev TG:=V→St→Hp→(St→Hp→Prop)→Prop
abbrev TGs:=List V→St→Hp→(St→Hp→Prop)→Prop
def PG (X:Cx) (target:Expr) (t:TG):Prop :=
 ∀ (pins:List (Addr × Obj)) (s:Shared) (σ:St) (H:Hp) (v:V) (u:Value) (Q:St→Hp→Prop),Inv X pins σ H s→RelV v u→t v σ H Q →
  wpAny (model X.prog X.w) X.A (assign target X.env u) (fun _ s'=>∃ σ' H',Inv X pins σ' H' s'∧Q σ' H') X.xe s
def PGs (X:Cx) (ts:List Expr) (t:TGs):Prop :=
 ∀ (pins:List (Addr × Obj)) (s:Shared) (σ:St) (H:Hp) (vs:List V) (us:List Value) (Q:St→Hp→Prop),Inv X pins σ H s→Vals vs us→t vs σ H Q →
  wpAny (model X.prog X.w) X.A (assignInOrder ((assignEach ts X.env).map (·.2)) us) (fun _ s'=>∃ σ' H',Inv X pins σ' H' s'∧Q σ' H') X.xe s
abbrev TSet:=V→V→V→Hp→(Hp→Prop)→Prop
def PSet (X:Cx) (t:TSet):Prop :=
 ∀ (pins:List (Addr × Obj)) (s:Shared) (σ:St) (H:Hp) (o i v:V) (ov iv u:Value) (Q:Hp→Prop),Inv X pins σ H s→RelV o ov→RelV i iv→RelV v u→t o i v H Q →
  wpAny (model X.prog X.w) X.A (setItem ov iv u) (fun _ s'=>∃ H',Inv X pins σ H' s'∧Q H') X.xe s
section
variable {X:Cx} {pos:Pos}
def gName (i:Nat):TG:=fun v σ H Q=>Q (σ.set i (some v)) H
theorem pg_name {i:Nat} {x:Str} (hN:X.N.Nodup) (hi:X.N[i]? = some x) (hx:Loc X.env.scope x) (hf:X.fn x = true∨X.env.scope.names.lookup x = some .local:=by first | exact .inl rfl | exact .inr rfl | assumption):PG X (.Name x pos) (gName i):=by
 intro pins s σ H v u Q I r h
 exact wpAny_assign_Name (store_ok I hN hi hx r (fun s' I'=>⟨_,H,I',h⟩) hf)
def gNil:TGs:=fun vs σ H Q=>vs = []∧Q σ H
def gCons (t:TG) (u:TGs):TGs:=fun vs σ H Q=>∃ v r,vs = v :: r∧t v σ H fun σ' H'=>u r σ' H' Q
theorem pgs_nil:PGs X [] gNil:=by
 intro pins s σ H vs us Q I r h
 obtain ⟨e,h⟩:=h
 subst e
 cases r
 exact assignInOrder_nil ⟨σ,H,I,h⟩
theorem pgs_cons {e:Expr} {es:List Expr} {t:TG} {u:TGs} (h1:PG X e t) (h2:PGs X es u)
 (hs:(assignEach (e :: es) X.env).map (·.2) = assign e X.env :: (assignEach es X.env).map (·.2):=by rfl):PGs X (e :: es) (gCons t u):=by
 intro pins s σ H vs us Q I r h
 obtain ⟨v,vr,e1,h⟩:=h
 subst e1
 cases r with
 | cons r rr =>
  rw [hs]
  refine assignInOrder_cons (thn (h1 pins s σ H _ _ _ I r h) fun _ s1 ⟨σ1,H1,I1,q1⟩=>?_)
  exact h2 pins s1 σ1 H1 _ _ Q I1 rr q1
def gTup (K:PySem.W.Frag) (n:Nat) (t:TGs):TG:=fun v σ H Q=>∃ a xs,v = .ref a∧SqT K H a xs∧xs.length = n∧t xs σ H Q
theorem pg_tup {es:List Expr} {k:Nat} {t:TGs} {n:Nat} (hc:X.calm = true) (h:PGs X es t)
 (hn:(assignEach es X.env).length = n:=by rfl) (hst:(assignEach es X.env).findIdx? (·.1) = none:=by rfl):PG X (.Tuple es k pos) (gTup X.K n t):=by
 intro pins s σ H v u Q I r hw
 obtain ⟨a,xs,e1,hq,hl,hw⟩:=hw
 subst e1
 cases r
 obtain ⟨its,rv,ht,hz⟩:=I.tuple hq
 refine assign_Tuple_tuple (I.ok.hd hc) ht (by simp [hn,← hl,rv.length]) hst fun h' hx=>?_
 have I1:Inv X pins σ H { s with heap:=h' }:=I.kept (t':=s.toks) fun b o e=>hx b o (Nat.ne_of_lt (Heap.lt_size e)) e
 exact h pins _ σ H xs _ Q I1 (by simpa using rv) hw
def gSub (to ti:TE) (t:TSet):TG:=fun v σ H Q=>to σ H fun o H1=>ti σ H1 fun i H2=>t o i v H2 fun H3=>Q σ H3
theorem pg_sub {o i:Expr} {to ti:TE} {t:TSet} (ho:PE X o to) (hi:PE X i ti) (hs:PSet X t)
 (ha:∀ v,assign (.Subscript o i pos) X.env v = (do
  let ov ← holding [v] (eval o X.env)
  let iv ← holding [v,ov] (eval i X.env)
  standAt pos
  holding [v,ov,iv] (setItem ov iv v)
  release [v,ov,iv] []):=by intro _; rfl):PG X (.Subscript o i pos) (gSub to ti t):=by
 intro pins s σ H v u Q I r h
 rw [ha]
 refine wpAny_bind (wpAny_holding (thn (ho pins s σ H _ I h) fun ov s1 ⟨x,H1,I1,r1,q1⟩=>?_))
 refine wpAny_bind (wpAny_holding (thn (hi pins s1 σ H1 _ I1 q1) fun iv s2 ⟨y,H2,I2,r2,q2⟩=>?_))
 refine wpAny_bind (wpAny_standAt (wpAny_bind (wpAny_holding (thn (hs pins s2 σ H2 x y v ov iv u _ I2 r1 r2 r q2) fun _ s3 ⟨H3,I3,q3⟩=>?_))))
 exact wpAny_release ⟨σ,H3,I3,q3⟩
def tAsg (te:TE) (g:TG):TS:=fun D σ H=>te σ H fun x H1=>g x σ H1 D.nx
theorem ps_asg {tg e:Expr} {te:TE} {g:TG} (he:PE X e te) (hg:PG X tg g) (hs:swapsWithSole [tg] e pos.line X.env = pure false:=by rfl) (hw:swappedStores [tg] e X.env = pure none:=by rfl)
 (h1:(assignEach [tg] X.env).map (·.2) = [assign tg X.env]:=by rfl):PS X (.Assign [tg] e pos) (tAsg te g):=by
 intro pins s σ H D I h
 refine wpAny_Assign_stores (thn (he pins s σ H _ I h) fun v s1 ⟨x,H1,I1,r1,q1⟩=>?_) hs hw
 rw [h1]
 exact thn (hg pins s1 σ H1 x v _ I1 r1 q1) fun _ s2 q=>q
theorem ps_set {i:Nat} {x:Str} {e:Expr} {te:TE} {pos':Pos} (hN:X.N.Nodup) (hi:X.N[i]? = some x) (hx:Loc X.env.scope x) (he:PE X e te) (hs:swapsWith e (some (.Name x pos')) pos.line X.env = pure false:=by rfl) (hf:X.fn x = true∨X.env.scope.names.lookup x = some .local:=by first | exact .inl rfl | exact .inr rfl | assumption) :
 PS X (.Assign [.Name x pos'] e pos) (tAsg te (gName i)):=by
 intro pins s σ H D I h
 refine wpAny_Assign_Name (thn (he pins s σ H _ I h) fun v s1 ⟨y,H1,I1,r1,q1⟩=>?_) hs
 exact store_ok I1 hN hi hx r1 (fun s2 I2=>⟨_,H1,I2,q1⟩) hf
end
section
variable {X:Cx} {pos:Pos}
def tWhile (c:TT) (tb:TS):TS:=fun D σ H=>∃ W:Nat→St→Hp→Prop,(∃ m,W m σ H)∧∀ m σ H,W m σ H →
 c σ H fun b H1=>if b = true then ∃ N:St→Hp→Prop,(∀ σ' H',N σ' H'→∃ m',m' < m∧W m' σ' H')∧tb { D with nx:=N,ct:=N,bk:=D.nx } σ H1 else D.nx σ H1
theorem ps_while {c:Expr} {body:List Stmt} {tc:TT} {tb:TS} (hp:PassesOwn (model X.prog X.w) X.A X.env X.xe) (hc:PT X c tc) (hb:PSs X body tb):PS X (.While c body [] pos) (tWhile tc tb):=by
 intro pins s σ H D I h
 obtain ⟨W,⟨m0,w0⟩,turn⟩:=h
 refine wpAny_While (codeAny_whileLoop (fun n s'=>∃ σ' H',Inv X pins σ' H' s'∧W n σ' H') ?_ m0 ⟨σ,H,I,w0⟩)
 rintro n s1 ⟨σ1,H1,I1,w1⟩
 refine wpAny_passesOwn hp (thn (hc pins s1 σ1 H1 _ I1 (turn n σ1 H1 w1)) fun b s2 ⟨H2,I2,q2⟩=>?_)
 cases b with
 | true =>
  obtain ⟨N,hN,q2⟩:=q2
  rw [if_pos rfl]
  refine wpAny_passesOwn hp (thn (hb pins s2 σ1 H2 _ I2 q2) fun f s3 q3=>?_)
  cases f with
  | next =>
   obtain ⟨σ3,H3,I3,n3⟩:=q3
   obtain ⟨m',hm,w3⟩:=hN σ3 H3 n3
   exact ⟨m',hm,σ3,H3,I3,w3⟩
  | cont =>
   obtain ⟨σ3,H3,I3,n3⟩:=q3
   obtain ⟨m',hm,w3⟩:=hN σ3 H3 n3
   exact ⟨m',hm,σ3,H3,I3,w3⟩
  | brk=>exact q3
  | ret v=>exact q3
 | false =>
  rw [if_neg Bool.false_ne_true]
  exact wpAny_execs_nil ⟨σ1,H2,I2,q2⟩
end
structure It where
 go:Nat→Hp→Prop
 yld:Nat→Hp→V→Hp→Prop
 stop:Nat→Hp→Prop
def FpOk (X:Cx) (pins:List (Addr × Obj)) (H:Hp) (b:Addr):Prop :=
 H b = none∧b ≠ X.env.locals∧b ∉ X.fs∧(b ∈ X.ex∨X.s₀.heap.objs.size ≤ b)∧(∀ x c,X.env.cells.lookup x = some c→c ≠ b)∧∀ p ∈ X.pn++pins,p.1 ≠ b
theorem Inv.fpOk {X:Cx} {pins:List (Addr × Obj)} {σ:St} {H H':Hp} {s:Shared} {b:Addr} (I:Inv X pins σ H s) (hb:s.heap.objs.size ≤ b) (hn:H' b = none):FpOk X pins H' b:=by
 refine ⟨hn,Nat.ne_of_gt (Nat.lt_of_lt_of_le I.lt hb),I.nofs hb,.inr (Nat.le_trans I.sz hb),fun x c e z=>?_,fun p hp z=>?_⟩
 ·obtain ⟨v,q⟩:=I.cell x c e
  exact absurd (Nat.lt_of_lt_of_le q.lt (by rw [z]; exact hb)) (Nat.lt_irrefl _)
 ·exact absurd (Nat.lt_of_lt_of_le (Heap.lt_size (I.pin p hp).1) (by rw [z]; exact hb)) (Nat.lt_irrefl _)
structure Turn (P:Program) (w:World) (K:PySem.W.Frag) (tg:Expr) (J:It) (fp:List Addr) (it:Addr) (tn:Nat→Heap→Prop):Prop where
 mem:it ∈ fp
 obj:∀ i h,tn i h→∀ b ∈ fp,∃ o,h.get? b = some o∧∀ v,o.data ≠ .cell v
 keep:∀ i h h',tn i h→(∀ b ∈ fp,∀ o,h.get? b = some o→h'.get? b = some o)→tn i h'
 item:∀ (X:Cx),X.prog = P→X.w = w→X.K = K→X.calm = true→∀ (i:Nat) (pins:List (Addr × Obj)) (s:Shared) (σ:St) (H:Hp) (E:Value→Shared→Prop),Inv X pins σ H s→(∀ b ∈ fp,FpOk X pins H b)→tn i s.heap→J.go i H →
  wpAny (model P w) X.A (pyNext (.ref it)) (fun r s1=>∃ u,r = some u ∧
   wpAny (model P w) X.A (letOwnedTupleGo tg (.ref it) u) (fun _ s2=>∃ x H',Inv X pins σ H' s2∧RelV x u∧J.yld i H x H'∧tn (i + 1) s2.heap∧∀ b ∈ fp,H' b = none) E s1) E s
 done:∀ (X:Cx),X.prog = P→X.w = w→X.K = K→X.calm = true→∀ (i:Nat) (pins:List (Addr × Obj)) (s:Shared) (σ:St) (H:Hp) (E:Value→Shared→Prop),Inv X pins σ H s→(∀ b ∈ fp,FpOk X pins H b)→tn i s.heap→J.stop i H →
  wpAny (model P w) X.A (pyNext (.ref it)) (fun r s1=>r = none∧Inv X pins σ H s1) E s
 self:∀ (A:Around) (i:Nat) (s:Shared) (Q:Value→Shared→Prop) (E:Value→Shared→Prop),tn i s.heap→Q (.ref it) s→wpAny (model P w) A (pyIter (.ref it)) Q E s
abbrev TI:=St→Hp→(It→Hp→Prop)→Prop
def PIE (X:Cx) (pins:List (Addr × Obj)) (σ:St) (tg:Expr) (R:It→Hp→Prop) (itv:Value) (s2:Shared):Prop :=
 ∃ (it:Addr) (fp:List Addr) (tn:Nat→Heap→Prop) (J:It) (H':Hp),itv = .ref it∧Inv X pins σ H' s2∧Turn X.prog X.w X.K tg J fp it tn∧tn 0 s2.heap∧(∀ b ∈ fp,FpOk X pins H' b)∧R J H'
def PI (X:Cx) (tg iter:Expr) (wi:TI):Prop :=
 ∀ (pins:List (Addr × Obj)) (s:Shared) (σ:St) (H:Hp) (R:It→Hp→Prop),Inv X pins σ H s→wi σ H R →
  wpAny (model X.prog X.w) X.A (eval iter X.env) (fun v s1=>wpAny (model X.prog X.w) X.A (pyIter v) (PIE X pins σ tg R) X.xe s1) X.xe s
theorem go_of {M:Model} {A:Around} {E:Value→Shared→Prop} {s:Shared} {tg:Expr} {it:Addr} {u:Value} {o:Obj} {n:String} {vs:Array Value} {Q:Unit→Shared→Prop} (ho:s.heap.get? it = some o) (hc:o.cls = .type n) (hd:o.data = .fields vs)
 (hn:["enumerate","zip","dict_itemiterator","dict_reverseitemiterator","odict_iterator","itertools.zip_longest","itertools.pairwise"].contains n = false) (hQ:Q () s):wpAny M A (letOwnedTupleGo tg (.ref it) u) Q E s:=by
 unfold letOwnedTupleGo
 cases tg <;> first
  | exact wpAny_pure hQ
  | (cases u <;> first
      | exact wpAny_pure hQ
      | (refine wpAny_bind (wpAny_load ho ?_)
         rw [hc,hd]
         show wpAny M A (if (["enumerate","zip","dict_itemiterator","dict_reverseitemiterator","odict_iterator","itertools.zip_longest","itertools.pairwise"].contains n && vs[0]? == some (rawInt _)) = true then _ else _) Q E s
         rw [if_neg (by intro h; rw [hn,Bool.false_and] at h; cases h)]
         exact wpAny_pure hQ))
def Itl (K:PySem.W.Frag) (a:Addr):It :=
 ⟨fun i H=>∃ xs x,SqL K H a xs∧xs[i]? = some x,fun i H x H'=>H' = H∧∀ xs,SqL K H a xs→xs[i]? = some x,fun i H=>∃ xs,SqL K H a xs∧xs.length ≤ i⟩
def Itt (K:PySem.W.Frag) (a:Addr):It :=
 ⟨fun i H=>∃ xs x,SqT K H a xs∧xs[i]? = some x,fun i H x H'=>H' = H∧∀ xs,SqT K H a xs→xs[i]? = some x,fun i H=>∃ xs,SqT K H a xs∧xs.length ≤ i⟩
def Itr (lo:Int) (n:Nat):It:=⟨fun i _=>i < n,fun i H x H'=>H' = H∧x = .int (lo + i),fun i _=>n ≤ i⟩
theorem turn_list {P:Program} {w:World} {K:PySem.W.Frag} {tg:Expr} (a it:Addr):Turn P w K tg (Itl K a) [it] it (fun i h=>h.IsListIter it a i) where
 mem:=by simp
 obj:=fun i h st b hb=>by
  have e:b = it:=by simpa using hb
  subst e
  obtain ⟨o,e,c,d⟩:=st
  exact ⟨o,e,fun v z=>by rw [d] at z; cases z⟩
 keep:=fun i h h' st k=>st.at fun o e=>k it (by simp) o e
 item:=by
  intro X hP hw hK hc i pins s σ H E I hf st hg
  subst hP hw hK
  obtain ⟨xs,x,hq,hx⟩:=hg
  obtain ⟨its,rv,p,hz⟩:=I.list hq
  obtain ⟨u,hu,ru⟩:=rv.get hx
  obtain ⟨f0,f1,f2,f3,f4,f5⟩:=hf it (by simp)
  refine wpAny_pyNext_list_item st p.isList (x:=u) (by simpa using hu) fun h' st' sb=>?_
  have I1:Inv X pins σ H { s with heap:=h' }:=I.turned (t':=s.toks) (fun b o hb e=>(sb.2 b hb).trans e) f0 f1 f3 f4 f5
  obtain ⟨o,e,c,d⟩:=id st'
  exact ⟨u,rfl,go_of (s:={ s with heap:=h' }) e c d (by decide) ⟨x,H,I1,ru,⟨rfl,fun ys hy=>by rw [I.list_inj hy hq]; exact hx⟩,st',fun b hb=>(hf b hb).1⟩⟩
 done:=by
  intro X hP hw hK hc i pins s σ H E I hf st hg
  subst hP hw hK
  obtain ⟨xs,hq,hx⟩:=hg
  obtain ⟨its,rv,p,hz⟩:=I.list hq
  obtain ⟨f0,f1,f2,f3,f4,f5⟩:=hf it (by simp)
  have hl:=rv.length
  exact wpAny_pyNext_list_end (I.ok.hd hc) st p.isList (by simp; omega) fun h' eb=>⟨rfl,I.turned (t':=s.toks) (fun b o hb e=>eb b o hb e) f0 f1 f3 f4 f5⟩
 self:=fun _ _ _ _ _ st h=>wpAny_pyIter_listiter st h
theorem turn_tuple {P:Program} {w:World} {K:PySem.W.Frag} {tg:Expr} (a it:Addr):Turn P w K tg (Itt K a) [it] it (fun i h=>h.IsTupleIter it a i) where
 mem:=by simp
 obj:=fun i h st b hb=>by
  have e:b = it:=by simpa using hb
  subst e
  obtain ⟨o,e,c,d⟩:=st
  exact ⟨o,e,fun v z=>by rw [d] at z; cases z⟩
 keep:=fun i h h' st k=>st.at fun o e=>k it (by simp) o e
 item:=by
  intro X hP hw hK hc i pins s σ H E I hf st hg
  subst hP hw hK
  obtain ⟨xs,x,hq,hx⟩:=hg
  obtain ⟨its,rv,p,hz⟩:=I.tuple hq
  obtain ⟨u,hu,ru⟩:=rv.get hx
  obtain ⟨f0,f1,f2,f3,f4,f5⟩:=hf it (by simp)
  refine wpAny_pyNext_tuple_item st (show s.heap.IsTuple a its.toArray from p) (x:=u) (by simpa using hu) fun h' st' sb=>?_
  have I1:Inv X pins σ H { s with heap:=h' }:=I.turned (t':=s.toks) (fun b o hb e=>(sb.2 b hb).trans e) f0 f1 f3 f4 f5
  obtain ⟨o,e,c,d⟩:=id st'
  exact ⟨u,rfl,go_of (s:={ s with heap:=h' }) e c d (by decide) ⟨x,H,I1,ru,⟨rfl,fun ys hy=>by rw [I.tuple_inj hy hq]; exact hx⟩,st',fun b hb=>(hf b hb).1⟩⟩
 done:=by
  intro X hP hw hK hc i pins s σ H E I hf st hg
  subst hP hw hK
  obtain ⟨xs,hq,hx⟩:=hg
  obtain ⟨its,rv,p,hz⟩:=I.tuple hq
  obtain ⟨f0,f1,f2,f3,f4,f5⟩:=hf it (by simp)
  have hl:=rv.length
  exact wpAny_pyNext_tuple_end (I.ok.hd hc) st (show s.heap.IsTuple a its.toArray from p) (by simp; omega) fun h' eb=>⟨rfl,I.turned (t':=s.toks) (fun b o hb e=>eb b o hb e) f0 f1 f3 f4 f5⟩
 self:=fun _ _ _ _ _ st h=>wpAny_pyIter_tupleiter st h
theorem turn_range {P:Program} {w:World} {K:PySem.W.Frag} {tg:Expr} (it:Addr) (lo:Int) (n:Nat):Turn P w K tg (Itr lo n) [it] it (fun i h=>IsRangeIter h it (lo + (i:Nat) * 1) ((n:Int) - (i:Nat)) 1) where
 mem:=by simp
 obj:=fun i h st b hb=>by
  have e:b = it:=by simpa using hb
  subst e
  exact ⟨_,st,fun v z=>by
   have z':Data.fields _ = Data.cell v:=z
   cases z'⟩
 keep:=fun i h h' st k=>k it (by simp) _ st
 item:=by
  intro X hP hw hK hc i pins s σ H E I hf st hg
  subst hP hw hK
  obtain ⟨f0,f1,f2,f3,f4,f5⟩:=hf it (by simp)
  have W:=Walks.range (prog:=X.prog) (w:=X.w) (I.ok.hd hc) it lo 1 n
  refine W.item i s _ _ hg st fun v h' tk hv st' kk=>?_
  obtain ⟨t,rfl⟩:=hv
  have I1:Inv X pins σ H { s with heap:=h',toks:=tk }:=I.turned (fun b o hb e=>kk b o (by simpa using hb) e) f0 f1 f3 f4 f5
  refine ⟨_,rfl,go_of (s:={ s with heap:=h',toks:=tk }) (n:="range_iterator") st' rfl rfl (by decide) ⟨.int (lo + i),H,I1,⟨t,?_⟩,⟨rfl,rfl⟩,st',fun b hb=>(hf b hb).1⟩⟩
  rw [Int.mul_one]
 done:=by
  intro X hP hw hK hc i pins s σ H E I hf st hg
  subst hP hw hK
  obtain ⟨f0,f1,f2,f3,f4,f5⟩:=hf it (by simp)
  exact wpAny_pyNext_range_end (I.ok.hd hc) st (by have:n ≤ i:=hg; omega) fun h' eb=>⟨rfl,I.turned (t':=s.toks) (fun b o hb e=>eb b o hb e) f0 f1 f3 f4 f5⟩
 self:=fun _ _ _ _ _ st h=>wpAny_pyIter_rangeiter st h
section
variable {X:Cx} {tg:Expr}
def iList (K:PySem.W.Frag) (tl:TE):TI:=fun σ H R=>tl σ H fun x H1=>∃ a,x = .ref a∧(∃ xs,SqL K H1 a xs)∧R (Itl K a) H1
def iTup (K:PySem.W.Frag) (tl:TE):TI:=fun σ H R=>tl σ H fun x H1=>∃ a,x = .ref a∧(∃ xs,SqT K H1 a xs)∧R (Itt K a) H1
theorem pi_list {l:Expr} {tl:TE} (hl:PE X l tl):PI X tg l (iList X.K tl):=by
 intro pins s σ H R I h
 refine thn (hl pins s σ H _ I h) fun v s1 ⟨x,H1,I1,r1,q1⟩=>?_
 obtain ⟨a,e,⟨xs,hq⟩,q⟩:=q1
 subst e
 cases r1
 obtain ⟨its,rv,p,hz⟩:=I1.list hq
 refine wpAny_pyIter_list p.isList ?_
 refine ⟨s1.heap.objs.size,[s1.heap.objs.size],_,_,H1,rfl,I1.kept (t':=s1.toks) fun b o e=>Heap.get?_push_of_some _ e,turn_list a _,⟨_,Heap.get?_push_size _ rfl,rfl,rfl⟩,fun b hb=>?_,q⟩
 have e:b = s1.heap.objs.size:=by simpa using hb
 subst e
 exact I1.fpOk (Nat.le_refl _) (I1.hok.fresh (Nat.le_refl _))
theorem pi_tup {l:Expr} {tl:TE} (hl:PE X l tl):PI X tg l (iTup X.K tl):=by
 intro pins s σ H R I h
 refine thn (hl pins s σ H _ I h) fun v s1 ⟨x,H1,I1,r1,q1⟩=>?_
 obtain ⟨a,e,⟨xs,hq⟩,q⟩:=q1
 subst e
 cases r1
 obtain ⟨its,rv,p,hz⟩:=I1.tuple hq
 refine wpAny_pyIter_tuple (show s1.heap.IsTuple a its.toArray from p) ?_
 refine ⟨s1.heap.objs.size,[s1.heap.objs.size],_,_,H1,rfl,I1.kept (t':=s1.toks) fun b o e=>Heap.get?_push_of_some _ e,turn_tuple a _,⟨_,Heap.get?_push_size _ rfl,rfl,rfl⟩,fun b hb=>?_,q⟩
 have e:b = s1.heap.objs.size:=by simpa using hb
 subst e
 exact I1.fpOk (Nat.le_refl _) (I1.hok.fresh (Nat.le_refl _))
theorem range_it {pins:List (Addr × Obj)} {σ:St} {H:Hp} {s:Shared} {R:It→Hp→Prop} {E:Value→Shared→Prop} {lo hi:Int} {t u v:Tok} {tk:Nat} (I:Inv X pins σ H s) (h1:-(2 ^ 62) ≤ lo) (h2:lo < 2 ^ 62) (h3:-(2 ^ 62) ≤ hi) (h4:hi < 2 ^ 62)
 (q:R (Itr lo (hi - lo).toNat) H):wpAny (model X.prog X.w) X.A (pyIter (.ref s.heap.objs.size)) (PIE X pins σ tg R) E { s with heap:=s.heap.push { cls:=.type "range",data:=.fields #[.int lo t,.int hi u,.int 1 v] },toks:=tk }:=by
 refine wpAny_pyIter_range (IsRange.new ..) (small_one h1 h2 h3 h4) ?_
 have I1:Inv X pins σ H { s with heap:=s.heap.push { cls:=.type "range",data:=.fields #[.int lo t,.int hi u,.int 1 v] },toks:=tk }:=I.kept fun b o e=>Heap.get?_push_of_some _ e
 refine ⟨(s.heap.push { cls:=.type "range",data:=.fields #[.int lo t,.int hi u,.int 1 v] }).objs.size,[(s.heap.push { cls:=.type "range",data:=.fields #[.int lo t,.int hi u,.int 1 v] }).objs.size],_,_,H,rfl,
  I1.kept (t':=tk) fun b o e=>Heap.get?_push_of_some _ e,turn_range _ lo (hi - lo).toNat,?_,fun b hb=>?_,q⟩
 ·have e1:lo + ((0:Nat):Int) * 1 = lo:=by simp
  have e2:(((hi - lo).toNat:Nat):Int) - ((0:Nat):Int) = Builtin.Range.rangeSize lo hi 1:=by rw [rangeSize_one]; split <;> omega
  show IsRangeIter _ _ (lo + ((0:Nat):Int) * 1) ((((hi - lo).toNat:Nat):Int) - ((0:Nat):Int)) 1
  rw [e1,e2]
  exact Heap.get?_push_size _ rfl
 ·have e:b = (s.heap.push { cls:=.type "range",data:=.fields #[.int lo t,.int hi u,.int 1 v] }).objs.size:=by simpa using hb
  subst e
  exact I1.fpOk (Nat.le_refl _) (I1.hok.fresh (Nat.le_refl _))
def iRng1 (ta:TA):TI:=fun σ H R=>ta σ H fun vs H1=>∃ j:Int,vs = [.int j]∧-(2 ^ 62) ≤ j∧j < 2 ^ 62∧R (Itr 0 j.toNat) H1
theorem pi_range1 {a:Expr} {ta:TA} {p pos:Pos} (hg:Gl X "range") (hm:X.mg "range" = none) (ha:PA X [a] ta) (hs:starEach [a] X.env = [(false,eval a X.env)]:=by rfl):PI X tg (.Call (.Name "range" p) [a] [] pos) (iRng1 ta):=by
 intro pins s σ H R I h
 refine Call_ (ld_blt I hg hm boot_range (PyProof.Rows.callWith_type1 (thn (ha pos pins s σ H _ I h) fun us s1 ⟨vs,H1,I1,r1,q1⟩=>?_) hs rfl))
 obtain ⟨j,e,q1,q2,q⟩:=q1
 subst e
 cases r1 with
 | cons r rr =>
  cases rr
  obtain ⟨t,rfl⟩:=r
  exact call_range_1 (range_it I1 (by omega) (by omega) q1 q2 (by simpa using q))
def tFor (wi:TI) (g:TG) (tb:TS):TS:=fun D σ H=>wi σ H fun J H1=>∃ W:Nat→Nat→St→Hp→Prop,(∃ m,W 0 m σ H1)∧∀ i m σ H,W i m σ H →
 (J.stop i H∧D.nx σ H)∨(J.go i H∧∃ N:St→Hp→Prop,(∀ σ' H',N σ' H'→∃ m',m' < m∧W (i + 1) m' σ' H')∧∀ x H',J.yld i H x H'→g x σ H' fun σ2 H2=>tb { D with nx:=N,ct:=N,bk:=D.nx } σ2 H2)
def pinsAt (fp:List Addr) (h:Heap):List (Addr × Obj):=fp.filterMap fun b=>(h.get? b).map fun o=>(b,o)
theorem mem_pinsAt {fp:List Addr} {h:Heap} {b:Addr} {o:Obj} (hb:b ∈ fp) (e:h.get? b = some o):(b,o) ∈ pinsAt fp h:=List.mem_filterMap.mpr ⟨b,hb,by rw [e]; rfl⟩
theorem of_pinsAt {fp:List Addr} {h:Heap} {p:Addr × Obj} (hp:p ∈ pinsAt fp h):p.1 ∈ fp∧h.get? p.1 = some p.2:=by
 obtain ⟨b,hb,e⟩:=List.mem_filterMap.mp hp
 cases q:h.get? b with
 | none=>rw [q] at e; cases e
 | some o =>
  rw [q] at e
  have e':(b,o) = p:=Option.some.inj e
  subst e'
  exact ⟨hb,q⟩
theorem Inv.pinned {pins:List (Addr × Obj)} {σ:St} {H:Hp} {s:Shared} {fp:List Addr} (I:Inv X pins σ H s) (hf:∀ b ∈ fp,FpOk X pins H b) (ho:∀ b ∈ fp,∃ o,s.heap.get? b = some o∧∀ v,o.data ≠ .cell v):Inv X (pins++pinsAt fp s.heap) σ H s :=
 I.pins_of fun p hp=>(List.mem_append.mp hp).elim (fun z=>I.pin p (List.mem_append_right _ z)) fun z=>by
  obtain ⟨hb,e⟩:=of_pinsAt z
  obtain ⟨f0,f1,f2,_⟩:=hf p.1 hb
  obtain ⟨o,e',d⟩:=ho p.1 hb
  rw [e] at e'; cases e'
  exact ⟨e,f0,f1,f2,d⟩
theorem Inv.unpinned {pins pl:List (Addr × Obj)} {σ:St} {H:Hp} {s:Shared} (I:Inv X (pins++pl) σ H s):Inv X pins σ H s:=I.pins_of fun p hp=>I.pin p (List.mem_append_right _ (List.mem_append_left _ hp))
theorem ps_for {iter:Expr} {body:List Stmt} {wi:TI} {g:TG} {tb:TS} {pos:Pos} (hp:PassesOwn (model X.prog X.w) X.A X.env X.xe) (hc:X.calm = true) (hi:PI X tg iter wi) (hg:PG X tg g) (hb:PSs X body tb)
 (hs:∀ x,foldedSetIterable iter X.env x = pure x:=by intro _; rfl):PS X (.For tg iter body [] pos) (tFor wi g tb):=by
 intro pins s σ H D I h
 refine wpAny_For (thn (hi pins s σ H _ I h) fun v s1 h1=>thn h1 fun itv s2 h2=>?_) hs
 obtain ⟨it,fp,tn,J,H2,e,I2,T,st2,f2,W,⟨m0,w0⟩,turn⟩:=h2
 subst e
 have stat:∀ {H':Hp},(∀ b ∈ fp,H' b = none)→∀ b ∈ fp,FpOk X pins H' b:=fun hn b hb=>⟨hn b hb,(f2 b hb).2⟩
 refine codeAny_forLoop_any (fun n s'=>∃ i σ' H',Inv X pins σ' H' s'∧tn i s'.heap∧(∀ b ∈ fp,H' b = none)∧W i n σ' H') ?_ m0 ⟨0,σ,H2,I2,st2,fun b hb=>(f2 b hb).1,w0⟩
 rintro n s3 ⟨i,σ3,H3,I3,st3,fr3,w3⟩
 rcases turn i n σ3 H3 w3 with ⟨stop,qn⟩ | ⟨go,N,hN,step⟩
 ·refine wpAny_passesOwn hp (thn (T.done X rfl rfl rfl hc i pins s3 σ3 H3 X.xe I3 (stat fr3) st3 stop) fun r s4 ⟨hr,I4⟩=>?_)
  subst hr
  exact wpAny_execs_nil ⟨σ3,H3,I4,qn⟩
 ·refine wpAny_passesOwn hp (thn (T.item X rfl rfl rfl hc i pins s3 σ3 H3 X.xe I3 (stat fr3) st3 go) fun r s4 ⟨u,hr,h4⟩=>?_)
  subst hr
  refine wpAny_passesOwn hp (thn h4 fun _ s5 ⟨x,H5,I5,r5,y5,st5,fr5⟩=>?_)
  have I5':=I5.pinned (stat fr5) (T.obj _ _ st5)
  refine wpAny_passesOwn hp (thn (hg _ s5 σ3 H5 x u _ I5' r5 (step x H5 y5)) fun _ s6 ⟨σ6,H6,I6,q6⟩=>?_)
  refine wpAny_passesOwn hp (thn (hb _ s6 σ6 H6 _ I6 q6) fun f s7 q7=>?_)
  have again:∀ {σ7:St} {H7:Hp},Inv X (pins++pinsAt fp s5.heap) σ7 H7 s7→N σ7 H7→∃ m,m < n∧∃ i σ' H',Inv X pins σ' H' s7∧tn i s7.heap∧(∀ b ∈ fp,H' b = none)∧W i m σ' H':=fun {σ7 H7} I7 n7=>by
   obtain ⟨m',hm,w7⟩:=hN σ7 H7 n7
   refine ⟨m',hm,i + 1,σ7,H7,I7.unpinned,T.keep _ _ _ st5 fun b hb o e=>(I7.pin (b,o) (List.mem_append_right _ (List.mem_append_right _ (mem_pinsAt hb e)))).1,fun b hb=>?_,w7⟩
   obtain ⟨o,e,d⟩:=T.obj _ _ st5 b hb
   exact (I7.pin (b,o) (List.mem_append_right _ (List.mem_append_right _ (mem_pinsAt hb e)))).2.1
  cases f with
  | next=>obtain ⟨σ7,H7,I7,n7⟩:=q7; exact again I7 n7
  | cont=>obtain ⟨σ7,H7,I7,n7⟩:=q7; exact again I7 n7
  | brk=>obtain ⟨σ7,H7,I7,q7⟩:=q7; exact ⟨σ7,H7,I7.unpinned,q7⟩
  | ret v=>obtain ⟨x7,σ7,H7,I7,r7,q7⟩:=q7; exact ⟨x7,σ7,H7,I7.unpinned,r7,q7⟩
end
theorem for_range {lo:Int} {n:Nat} {g:TG} {tb:TS} {D:Ends} {σ:St} {H:Hp} (Pv:Nat→St→Hp→Prop) (h0:Pv 0 σ H)
 (hs:∀ i σ H,i < n→Pv i σ H→g (.int (lo + i)) σ H fun σ2 H2=>tb { D with nx:=Pv (i + 1),ct:=Pv (i + 1),bk:=D.nx } σ2 H2) (hd:∀ σ H,Pv n σ H→D.nx σ H) :
 ∃ W:Nat→Nat→St→Hp→Prop,(∃ m,W 0 m σ H)∧∀ i m σ H,W i m σ H →
  ((Itr lo n).stop i H∧D.nx σ H)∨((Itr lo n).go i H∧∃ N:St→Hp→Prop,(∀ σ' H',N σ' H'→∃ m',m' < m∧W (i + 1) m' σ' H')∧∀ x H',(Itr lo n).yld i H x H'→g x σ H' fun σ2 H2=>tb { D with nx:=N,ct:=N,bk:=D.nx } σ2 H2):=by
 refine ⟨fun i m σ H=>m = n - i∧i ≤ n∧Pv i σ H,⟨n,by simp,Nat.zero_le _,h0⟩,?_⟩
 rintro i m σ H ⟨rfl,hi,p⟩
 by_cases hlt:i < n
 ·refine .inr ⟨hlt,Pv (i + 1),fun σ' H' p'=>⟨n - (i + 1),by omega,rfl,hlt,p'⟩,fun x H' y=>?_⟩
  obtain ⟨e,y⟩:=y
  subst e y
  exact hs i σ _ hlt p
 ·have e:i = n:=by omega
  subst e
  exact .inl ⟨Nat.le_refl _,hd σ H p⟩
abbrev R2:=V→V→Hp→VK→Prop
def OpR (X:Cx) (f:Value→Value→Sem Value) (r:R2):Prop :=
 ∀ (pins:List (Addr × Obj)) (s:Shared) (σ:St) (H:Hp) (x y:V) (v u:Value) (Q:VK),Inv X pins σ H s→RelV x v→RelV y u→r x y H Q →
  wpAny (model X.prog X.w) X.A (f v u) (EP X pins σ Q) X.xe s
def UnR (X:Cx) (f:Value→Sem Value) (r:V→Hp→VK→Prop):Prop :=
 ∀ (pins:List (Addr × Obj)) (s:Shared) (σ:St) (H:Hp) (x:V) (v:Value) (Q:VK),Inv X pins σ H s→RelV x v→r x H Q →
  wpAny (model X.prog X.w) X.A (f v) (EP X pins σ Q) X.xe s
def CallR (X:Cx) (f:Value) (r:List V→Hp→VK→Prop):Prop :=
 ∀ (pins:List (Addr × Obj)) (s:Shared) (σ:St) (H:Hp) (xs:List V) (us:List Value) (Q:VK),Inv X pins σ H s→Vals xs us→r xs H Q →
  wpAny (model X.prog X.w) X.A (call f us) (EP X pins σ Q) X.xe s
def TruR (X:Cx) (r:V→Hp→(Bool→Hp→Prop)→Prop):Prop :=
 ∀ (pins:List (Addr × Obj)) (s:Shared) (σ:St) (H:Hp) (x:V) (v:Value) (Q:Bool→Hp→Prop),Inv X pins σ H s→RelV x v→r x H Q →
  wpAny (model X.prog X.w) X.A (truthy v) (TP X pins σ Q) X.xe s
def tOp (r:R2) (ta tb:TE):TE:=fun σ H Q=>ta σ H fun x H1=>tb σ H1 fun y H2=>r x y H2 Q
def tUn (r:V→Hp→VK→Prop) (ta:TE):TE:=fun σ H Q=>ta σ H fun x H1=>r x H1 Q
def rI (C:Int→Int→Prop) (g:Int→Int→V):R2:=fun x y H Q=>∃ i j,x = .int i∧y = .int j∧C i j∧Q (g i j) H
def rI0 (g:Int→Int→V):R2:=fun x y H Q=>∃ i j,x = .int i∧y = .int j∧Q (g i j) H
def rU (g:Int→V):V→Hp→VK→Prop:=fun x H Q=>∃ i,x = .int i∧Q (g i) H
section
variable {X:Cx} {a b c:Expr} {ta tb tc:TE} {pos:Pos}
theorem binT (ha:PE X a ta) (hb:PE X b tb) {pins:List (Addr × Obj)} {s:Shared} {σ:St} {H:Hp} {R:V→V→Hp→Prop} (I:Inv X pins σ H s)
 (h:ta σ H fun x H1=>tb σ H1 fun y H2=>R x y H2) {Q:Value→Shared→Prop} {f:Value→Value→Sem Value}
 (hf:∀ v u s2 x y H2,Inv X pins σ H2 s2→RelV x v→RelV y u→R x y H2→wpAny (model X.prog X.w) X.A (f v u) Q X.xe s2) :
 wpAny (model X.prog X.w) X.A (eval a X.env) (fun v s₁=>wpAny (model X.prog X.w) X.A (eval b X.env) (fun u s₂=>wpAny (model X.prog X.w) X.A (f v u) Q X.xe s₂) X.xe s₁) X.xe s:=by
 refine thn (ha pins s σ H _ I h) fun v s1 ⟨x,H1,I1,r1,q1⟩=>?_
 refine thn (hb pins s1 σ H1 _ I1 q1) fun u s2 ⟨y,H2,I2,r2,q2⟩=>?_
 exact hf v u s2 x y H2 I2 r1 r2 q2
theorem pe_op {op:Operator} {r:R2} (ho:OpR X (binaryOp op) r) (ha:PE X a ta) (hb:PE X b tb):PE X (.BinOp a op b pos) (tOp r ta tb):=by
 intro pins s σ H Q I h
 exact wpAny_BinOp (binT ha hb I h fun v u s2 x y H2 I2 rx ry q=>ho pins s2 σ H2 x y v u Q I2 rx ry q)
theorem pe_un {op:UnaryOp} {r:V→Hp→VK→Prop} (ho:UnR X (unaryOp op) r) (ha:PE X a ta):PE X (.UnaryOp op a pos) (tUn r ta):=by
 intro pins s σ H Q I h
 exact UnaryOp_ (thn (ha pins s σ H _ I h) fun v s1 ⟨x,H1,I1,r1,q1⟩=>ho pins s1 σ H1 x v Q I1 r1 q1)
theorem opI {f:Value→Value→Sem Value} {C:Int→Int→Prop} {g:Int→Int→Int}
 (rule:∀ (i j:Int) (t u:Tok) (s:Shared) (Q:Value→Shared→Prop) (E:Value→Shared→Prop),C i j→Q (.int (g i j) s.toks) { s with toks:=s.toks + 1 }→wpAny (model X.prog X.w) X.A (f (.int i t) (.int j u)) Q E s) :
 OpR X f (rI C fun i j=>.int (g i j)):=by
 intro pins s σ H x y v u Q I rx ry h
 obtain ⟨i,j,rfl,rfl,hc,q⟩:=h
 obtain ⟨t,rfl⟩:=rx
 obtain ⟨t',rfl⟩:=ry
 exact rule i j t t' s _ _ hc ⟨.int (g i j),H,I.tok _,⟨_,rfl⟩,q⟩
theorem opI0 {f:Value→Value→Sem Value} {g:Int→Int→Int}
 (rule:∀ (i j:Int) (t u:Tok) (s:Shared) (Q:Value→Shared→Prop) (E:Value→Shared→Prop),Q (.int (g i j) s.toks) { s with toks:=s.toks + 1 }→wpAny (model X.prog X.w) X.A (f (.int i t) (.int j u)) Q E s) :
 OpR X f (rI0 fun i j=>.int (g i j)):=by
 intro pins s σ H x y v u Q I rx ry h
 obtain ⟨i,j,rfl,rfl,q⟩:=h
 obtain ⟨t,rfl⟩:=rx
 obtain ⟨t',rfl⟩:=ry
 exact rule i j t t' s _ _ ⟨.int (g i j),H,I.tok _,⟨_,rfl⟩,q⟩
theorem opB0 {f:Value→Value→Sem Value} {g:Int→Int→Bool}
 (rule:∀ (i j:Int) (t u:Tok) (s:Shared) (Q:Value→Shared→Prop) (E:Value→Shared→Prop),Q (.bool (g i j)) s→wpAny (model X.prog X.w) X.A (f (.int i t) (.int j u)) Q E s) :
 OpR X f (rI0 fun i j=>.bl (g i j)):=by
 intro pins s σ H x y v u Q I rx ry h
 obtain ⟨i,j,rfl,rfl,q⟩:=h
 obtain ⟨t,rfl⟩:=rx
 obtain ⟨t',rfl⟩:=ry
 exact rule i j t t' s _ _ ⟨.bl (g i j),H,I,rfl,q⟩
def CDiv (i j:Int):Prop:=0 < j∧j < 1073741824
def CPow (i j:Int):Prop:=0 ≤ j∧j ≤ 1000000∧i.natAbs < 2 ^ 64
def CMul (i j:Int):Prop:=(-(2 ^ 64) < i∧i < 2 ^ 64)∨(-(2 ^ 64) < j∧j < 2 ^ 64)
theorem CMul.ok {i j:Int} (h:CMul i j):IntMulOk i j:=by
 rcases h with ⟨h1,h2⟩ | ⟨h1,h2⟩
 ·exact .of_left (intBits_le_64 h1 h2)
 ·exact .of_right (intBits_le_64 h1 h2)
theorem two_pow_nn (k:Nat):(0:Int) ≤ 2 ^ k:=by
 rw [two_pow_cast]
 exact Int.natCast_nonneg _
theorem op_add:OpR X (binaryOp .Add) (rI0 fun i j=>.int (i + j)):=opI0 fun _ _ _ _ _ _ _ q=>add_int q
theorem op_sub:OpR X (binaryOp .Sub) (rI0 fun i j=>.int (i - j)):=opI0 fun _ _ _ _ _ _ _ q=>sub_int q
theorem op_mul:OpR X (binaryOp .Mult) (rI CMul fun i j=>.int (i * j)):=opI fun _ _ _ _ _ _ _ hc q=>mul_int q hc.ok
theorem op_fdiv:OpR X (binaryOp .FloorDiv) (rI CDiv fun i j=>.int (i / j)):=opI fun i j _ _ _ _ _ hc q=>by
 have h1:(0:Int) < j:=hc.1
 have h2:j < 1073741824:=hc.2
 exact floordiv_int (by omega) (by rw [Int.fdiv_eq_ediv_of_nonneg i (by omega)]; exact q) (.inl (PyProof.noPylong_small (by omega)))
theorem op_mod:OpR X (binaryOp .Mod) (rI (fun _ j=>0 < j) fun i j=>.int (i % j)):=opI fun i j _ _ _ _ _ hc q=>by
 have h1:(0:Int) < j:=hc
 exact mod_int' (by omega) (by rw [Int.fmod_eq_emod_of_nonneg i (by omega)]; exact q)
theorem op_pow:OpR X (binaryOp .Pow) (rI CPow fun i j=>.int (i ^ j.toNat)):=opI fun _ _ _ _ _ _ _ hc q=>pow_int_small hc.1 hc.2.1 hc.2.2 q
theorem op_shr:OpR X (binaryOp .RShift) (rI (fun _ j=>0 ≤ j) fun i j=>.int (i / 2 ^ j.toNat)):=opI fun i j _ _ _ _ _ hc q =>
 rshift_int hc (by rw [Int.fdiv_eq_ediv_of_nonneg i (two_pow_nn _)]; exact q)
theorem op_and:OpR X (binaryOp .BitAnd) (rI0 fun i j=>.int (Builtin.bitAnd i j)):=opI0 fun _ _ _ _ _ _ _ q=>and_int q
theorem unI {f:Value→Sem Value} {g:Int→Int}
 (rule:∀ (i:Int) (t:Tok) (s:Shared) (Q:Value→Shared→Prop) (E:Value→Shared→Prop),Q (.int (g i) s.toks) { s with toks:=s.toks + 1 }→wpAny (model X.prog X.w) X.A (f (.int i t)) Q E s) :
 UnR X f (rU fun i=>.int (g i)):=by
 intro pins s σ H x v Q I rx h
 obtain ⟨i,rfl,q⟩:=h
 obtain ⟨t,rfl⟩:=rx
 exact rule i t s _ _ ⟨.int (g i),H,I.tok _,⟨_,rfl⟩,q⟩
theorem un_neg:UnR X (unaryOp .USub) (rU fun i=>.int (-i)):=unI fun _ _ _ _ _ q=>neg_int q
end
def scal:V→V→Bool
 | .non,.non=>true | .non,.int _=>true | .int _,.non=>true | .non,.bl _=>true | .bl _,.non=>true | .non,.str _=>true | .str _,.non=>true
 | .int _,.int _=>true | .bl _,.bl _=>true | .str _,.str _=>true | .byt _,.byt _=>true
 | .int _,.str _=>true | .str _,.int _=>true | .bl _,.str _=>true | .str _,.bl _=>true
 | _,_=>false
def rEq:R2:=fun x y H Q=>scal x y = true∧Q (.bl (decide (x = y))) H
theorem dec_int {i j:Int}:decide (V.int i = V.int j) = (i == j):=by
 rw [Bool.eq_iff_iff]
 simp
theorem dec_bl {i j:Bool}:decide (V.bl i = V.bl j) = (i == j):=by
 rw [Bool.eq_iff_iff]
 simp
theorem dec_str {i j:Str}:decide (V.str i = V.str j) = (i == j):=by
 rw [Bool.eq_iff_iff]
 simp
theorem dec_byt {i j:Array UInt8}:decide (V.byt i = V.byt j) = (i.toList == j.toList):=by
 rw [Bool.eq_iff_iff]
 cases i
 cases j
 simp
section
variable {X:Cx} {a b c:Expr} {ta tb tc:TE} {pos:Pos}
theorem fin_bl {pins:List (Addr × Obj)} {σ:St} {H:Hp} {s:Shared} {Q:VK} {k k':Bool} (I:Inv X pins σ H s) (q:Q (.bl k) H) (e:k = k'):EP X pins σ Q (.bool k') s:=by
 subst e
 exact ⟨.bl k,H,I,rfl,q⟩
theorem op_eq:OpR X (compareOp .Eq) rEq:=by
 intro pins s σ H x y v u Q I rx ry h
 obtain ⟨hs,q⟩:=h
 cases x with
 | non =>
  cases rx
  cases y with
  | non=>cases ry; exact PySem.EqNone.eq_none_none (fin_bl I q (by simp))
  | bl j=>cases ry; exact PySem.EqNone.eq_none_bool (fin_bl I q (by simp))
  | int j=>obtain ⟨t',rfl⟩:=ry; exact PySem.EqNone.eq_none_int (fin_bl I q (by simp))
  | str j=>obtain ⟨t',rfl⟩:=ry; exact PySem.EqNone.eq_none_str (fin_bl I q (by simp))
  | _=>exact absurd (show false = true from hs) Bool.false_ne_true
 | bl i =>
  cases rx
  cases y with
  | non=>cases ry; exact PySem.EqNone.eq_bool_none (fin_bl I q (by simp))
  | bl j=>cases ry; exact eq_bool (fin_bl I q dec_bl)
  | str j=>obtain ⟨t',rfl⟩:=ry; exact PySem.EqMixed.eq_bool_str (fin_bl I q (by simp))
  | _=>exact absurd (show false = true from hs) Bool.false_ne_true
 | int i =>
  obtain ⟨t,rfl⟩:=rx
  cases y with
  | non=>cases ry; exact PySem.EqNone.eq_int_none (fin_bl I q (by simp))
  | int j=>obtain ⟨t',rfl⟩:=ry; exact eq_int (fin_bl I q dec_int)
  | str j=>obtain ⟨t',rfl⟩:=ry; exact PySem.EqMixed.eq_int_str (fin_bl I q (by simp))
  | _=>exact absurd (show false = true from hs) Bool.false_ne_true
 | str i =>
  obtain ⟨t,rfl⟩:=rx
  cases y with
  | non=>cases ry; exact PySem.EqNone.eq_str_none (fin_bl I q (by simp))
  | bl j=>cases ry; exact PySem.EqMixed.eq_str_bool (fin_bl I q (by simp))
  | int j=>obtain ⟨t',rfl⟩:=ry; exact PySem.EqMixed.eq_str_int (fin_bl I q (by simp))
  | str j=>obtain ⟨t',rfl⟩:=ry; exact eq_str (fin_bl I q dec_str)
  | _=>exact absurd (show false = true from hs) Bool.false_ne_true
 | byt i =>
  obtain ⟨t,rfl⟩:=rx
  cases y with
  | byt j=>obtain ⟨t',rfl⟩:=ry; exact PySem.W.eq_bytes (fin_bl I q dec_byt)
  | _=>exact absurd (show false = true from hs) Bool.false_ne_true
 | _=>cases y <;> exact absurd (show false = true from hs) Bool.false_ne_true
theorem op_lt:OpR X (compareOp .Lt) (rI0 fun i j=>.bl (decide (i < j))):=opB0 fun _ _ _ _ _ _ _ q=>lt_int q
theorem op_le:OpR X (compareOp .LtE) (rI0 fun i j=>.bl (decide (i ≤ j))):=opB0 fun _ _ _ _ _ _ _ q=>le_int q
theorem op_gt:OpR X (compareOp .Gt) (rI0 fun i j=>.bl (decide (j < i))):=opB0 fun _ _ _ _ _ _ _ q=>gt_int q
theorem op_ge:OpR X (compareOp .GtE) (rI0 fun i j=>.bl (decide (j ≤ i))):=opB0 fun _ _ _ _ _ _ _ q=>ge_int q
theorem op_lt_str:OpR X (compareOp .Lt) (fun x y H Q=>∃ i j,x = .str i∧y = .str j∧Q (.bl (decide (i.cps.toList < j.cps.toList))) H):=by
 intro pins s σ H x y v u Q I rx ry h
 obtain ⟨i,j,rfl,rfl,q⟩:=h
 obtain ⟨t,rfl⟩:=rx
 obtain ⟨t',rfl⟩:=ry
 exact lt_str (fin_bl I q rfl)
theorem OpR.or {f:Value→Value→Sem Value} {r r':R2} (h:OpR X f r) (h':OpR X f r'):OpR X f (fun x y H Q=>r x y H Q∨r' x y H Q):=by
 intro pins s σ H x y v u Q I rx ry q
 rcases q with q | q
 ·exact h pins s σ H x y v u Q I rx ry q
 ·exact h' pins s σ H x y v u Q I rx ry q
theorem nomark (b:Expr) {op:CmpOp} (h:op ≠ .In:=by decide) (h2:op ≠ .NotIn:=by decide):behindInMarks op b = false:=by
 have e1:(op == CmpOp.In) = false:=by cases op <;> first | rfl | exact absurd rfl h
 have e2:(op == CmpOp.NotIn) = false:=by cases op <;> first | rfl | exact absurd rfl h2
 cases b <;> simp [behindInMarks,e1,e2]
theorem pe_cmpR {op:CmpOp} {r:R2} (ho:OpR X (compareOp op) r) (ha:PE X a ta) (hb:PE X b tb) (hm:behindInMarks op b = false):PE X (.Compare a [op] [b] pos) (tOp r ta tb):=by
 intro pins s σ H Q I h
 exact wpAny_Compare1 (binT ha hb I h fun v u s2 x y H2 I2 rx ry q=>ho pins s2 σ H2 x y v u Q I2 rx ry q) hm
def tTest (t:TE):TT:=fun σ H Q=>t σ H fun x H'=>∃ k,x = .bl k∧Q k H'
theorem pt_cmpR {op:CmpOp} {r:R2} (ho:OpR X (compareOp op) r) (ha:PE X a ta) (hb:PE X b tb) (hm:behindInMarks op b = false):PT X (.Compare a [op] [b] pos) (tTest (tOp r ta tb)):=by
 intro pins s σ H Q I h
 refine wpAny_isTrue_Compare1 (thn (ha pins s σ H _ I h) fun v s1 ⟨x,H1,I1,r1,q1⟩=>thn (hb pins s1 σ H1 _ I1 q1) fun u s2 ⟨y,H2,I2,r2,q2⟩ =>
  thn (ho pins s2 σ H2 x y v u _ I2 r1 r2 q2) fun c s3 ⟨z,H3,I3,r3,k,e,q3⟩=>?_) hm
 subst e
 cases r3
 exact wpAny_truthy_bool ⟨H3,I3,q3⟩
def tChain (r r':R2) (ta tb tc:TE):TE:=fun σ H Q=>ta σ H fun x H1=>tb σ H1 fun y H2=>r x y H2 fun z H3=>∃ k,z = .bl k ∧
 (if k = true then tc σ H3 fun w' H4=>r' y w' H4 Q else Q (.bl false) H3)
theorem pe_chain {op op':CmpOp} {r r':R2} (ho:OpR X (compareOp op) r) (ho':OpR X (compareOp op') r') (ha:PE X a ta) (hb:PE X b tb) (hc:PE X c tc)
 (hm:lastMarks [op,op'] [b,c] = false:=by with_unfolding_all rfl):PE X (.Compare a [op,op'] [b,c] pos) (tChain r r' ta tb tc):=by
 intro pins s σ H Q I h
 refine Compare_chain (thn (ha pins s σ H _ I h) fun v s1 ⟨x,H1,I1,r1,q1⟩=>chain_link (thn (hb pins s1 σ H1 _ I1 q1) fun u s2 ⟨y,H2,I2,r2,q2⟩ =>
  thn (ho pins s2 σ H2 x y v u _ I2 r1 r2 q2) fun d s3 ⟨z,H3,I3,r3,k,e,q3⟩=>?_)) hm
 subst e
 cases r3
 refine wpAny_truthy_bool ?_
 cases k with
 | false=>exact ite_ff ⟨.bl false,H3,I3,rfl,q3⟩
 | true=>exact ite_tt (chain_last (thn (hc pins s3 σ H3 _ I3 q3) fun w' s4 ⟨z',H4,I4,r4,q4⟩=>ho' pins s4 σ H4 y z' u w' Q I4 r2 r4 q4))
def TruV (K:PySem.W.Frag) (x:V) (H:Hp) (k:Bool):Prop :=
 match x with
 | .non=>k = false
 | .bl b=>k = b
 | .int i=>k = (i != 0)
 | .str y=>y.length ≤ sizeLine∧k = ((y.length:Int) != 0)
 | .byt y=>y.size ≤ sizeLine∧k = ((y.size:Int) != 0)
 | .ref p=>(∃ xs,SqL K H p xs∧k = !xs.isEmpty)∨(∃ xs,SqT K H p xs∧k = !xs.isEmpty)∨∃ kvs,H p = some (.dK kvs)∧k = !kvs.isEmpty
 | _=>False
theorem isEmpty_kv {κ:Type} {kvs:List (κ × V)} {vs:List (κ × Value)} (r:KV kvs vs):(!vs.isEmpty) = !kvs.isEmpty:=by
 cases r <;> rfl
theorem isEmpty_of {xs:List V} {its:List Value} (r:Vals xs its):(!its.toArray.isEmpty) = !xs.isEmpty:=by
 cases r <;> simp
theorem line63:(sizeLine:Nat) < 2 ^ 63:=by rw [sizeLine_eq]; decide
theorem tru_ok:TruR X (fun x H Q=>∃ k,TruV X.K x H k∧Q k H):=by
 intro pins s σ H x v Q I rx h
 obtain ⟨k,e,q⟩:=h
 have hl:=line63
 have hs:sizeLine = 16777216:=sizeLine_eq
 cases x with
 | non =>
  cases rx
  have e':k = false:=e
  subst e'
  exact truthy_none ⟨H,I,q⟩
 | bl b =>
  cases rx
  have e':k = b:=e
  subst e'
  exact wpAny_truthy_bool ⟨H,I,q⟩
 | int i =>
  obtain ⟨t,rfl⟩:=rx
  have e':k = (i != 0):=e
  subst e'
  exact PySem.P.truthy_int ⟨H,I,q⟩
 | str y =>
  obtain ⟨t,rfl⟩:=rx
  obtain ⟨hy,e'⟩:y.length ≤ sizeLine∧k = ((y.length:Int) != 0):=e
  subst e'
  exact PySem.P.truthy_str (by omega) ⟨H,I.tok _,q⟩
 | byt y =>
  obtain ⟨t,rfl⟩:=rx
  obtain ⟨hy,e'⟩:y.size ≤ sizeLine∧k = ((y.size:Int) != 0):=e
  subst e'
  exact PySem.W.truthy_bytes (by omega) ⟨H,I.tok _,q⟩
 | ref p =>
  cases rx
  have e':(∃ xs,SqL X.K H p xs∧k = !xs.isEmpty)∨(∃ xs,SqT X.K H p xs∧k = !xs.isEmpty)∨∃ kvs,H p = some (.dK kvs)∧k = !kvs.isEmpty:=e
  rcases e' with ⟨xs,hx,e'⟩ | ⟨xs,hx,e'⟩ | ⟨kvs,hx,e'⟩
  ·subst e'
   obtain ⟨its,r,pl,hz⟩:=I.list hx
   have hlen:=r.length
   exact wpAny_truthy_list pl.isList (by simp only [List.size_toArray]; omega) ⟨H,I.tok _,by rw [isEmpty_of r]; exact q⟩
  ·subst e'
   obtain ⟨its,r,pl,hz⟩:=I.tuple hx
   have hlen:=r.length
   exact truthy_tuple pl (by simp only [List.size_toArray]; omega) ⟨H,I.tok _,by rw [isEmpty_of r]; exact q⟩
  ·subst e'
   obtain ⟨hz,hS,vs,r,m⟩:kvs.length ≤ sizeLine∧(p == sysModules) = false∧∃ vs,KV kvs vs∧s.heap.DictOf (mixKind X.prog X.w) p vs:=I.hok p _ hx
   have hlen:kvs.length = vs.length:=Paired.length r
   exact wpAny_truthy_dict hS m (by omega) ⟨H,I.tok _,by rw [isEmpty_kv r]; exact q⟩
 | _=>exact (show False from e).elim
theorem pt_truth (ha:PE X a ta) (he:∀ whole,isTrue a X.env whole = (do let v ← whole; standAt a.pos; holding [v] (truthy v))) :
 PT X a (fun σ H Q=>ta σ H fun x H'=>∃ k,TruV X.K x H' k∧Q k H'):=by
 intro pins s σ H Q I h
 exact isTrue_plain (thn (ha pins s σ H _ I h) fun v s1 ⟨x,H1,I1,r1,q1⟩=>tru_ok pins s1 σ H1 x v Q I1 r1 q1) (he _)
theorem op_add_str:OpR X (binaryOp .Add) (fun x y H Q=>∃ i j,x = .str i∧y = .str j∧i.length + j.length ≤ sizeLine∧Q (.str (i++j)) H):=by
 intro pins s σ H x y v u Q I rx ry h
 obtain ⟨i,j,rfl,rfl,hz,q⟩:=h
 obtain ⟨t,rfl⟩:=rx
 obtain ⟨t',rfl⟩:=ry
 exact add_str (fun t' tk=>⟨.str (i++j),H,I.tok _,⟨_,rfl⟩,q⟩) hz
theorem vals1 {x:V} {us:List Value} (r:Vals [x] us):∃ u,us = [u]∧RelV x u:=by
 cases r with
 | cons r1 r2=>cases r2; exact ⟨_,rfl,r1⟩
theorem vals2 {x y:V} {us:List Value} (r:Vals [x,y] us):∃ u w',us = [u,w']∧RelV x u∧RelV y w':=by
 cases r with
 | cons r1 r2 =>
  cases r2 with
  | cons r3 r4=>cases r4; exact ⟨_,_,rfl,r1,r3⟩
theorem call_int1:CallR X (.type "int") (fun xs H Q=>(∃ i,xs = [.int i]∧Q (.int i) H)∨∃ k,xs = [.bl k]∧Q (.int (if k then 1 else 0)) H):=by
 intro pins s σ H xs us Q I r h
 rcases h with ⟨i,rfl,q⟩ | ⟨k,rfl,q⟩
 ·obtain ⟨u,rfl,t,rfl⟩:=vals1 r
  exact call_int_int ⟨.int i,H,I,⟨_,rfl⟩,q⟩
 ·obtain ⟨u,rfl,r1⟩:=vals1 r
  cases r1
  exact call_int_bool ⟨.int (if k then 1 else 0),H,I.tok _,⟨_,rfl⟩,q⟩
def LenV (K:PySem.W.Frag) (x:V) (H:Hp) (n:Nat):Prop :=
 match x with
 | .str y=>y.length ≤ sizeLine∧n = y.length
 | .byt y=>y.size ≤ sizeLine∧n = y.size
 | .ref p=>(∃ xs,SqL K H p xs∧n = xs.length)∨∃ xs,SqT K H p xs∧n = xs.length
 | _=>False
theorem call_len:CallR X (.builtin "len") (fun xs H Q=>∃ x n,xs = [x]∧LenV X.K x H n∧Q (.int n) H):=by
 intro pins s σ H xs us Q I r h
 obtain ⟨x,n,rfl,e,q⟩:=h
 obtain ⟨u,rfl,rx⟩:=vals1 r
 have hl:=line63
 have hs:sizeLine = 16777216:=sizeLine_eq
 cases x with
 | str y =>
  obtain ⟨t,rfl⟩:=rx
  obtain ⟨hy,e'⟩:y.length ≤ sizeLine∧n = y.length:=e
  subst e'
  exact len_str (by omega) ⟨.int _,H,I.tok _,⟨_,rfl⟩,q⟩
 | byt y =>
  obtain ⟨t,rfl⟩:=rx
  obtain ⟨hy,e'⟩:y.size ≤ sizeLine∧n = y.size:=e
  subst e'
  exact PySem.W.len_bytes (by omega) ⟨.int _,H,I.tok _,⟨_,rfl⟩,q⟩
 | ref p =>
  cases rx
  have e':(∃ xs,SqL X.K H p xs∧n = xs.length)∨∃ xs,SqT X.K H p xs∧n = xs.length:=e
  rcases e' with ⟨xs,hx,e'⟩ | ⟨xs,hx,e'⟩
  ·subst e'
   obtain ⟨its,r',pl,hz⟩:=I.list hx
   have hlen:=r'.length
   exact Calls.call_len_list pl.isList (by simp only [List.size_toArray]; omega) ⟨.int xs.length,H,I.tok _,⟨_,by simp only [List.size_toArray]; rw [hlen]⟩,q⟩
  ·subst e'
   obtain ⟨its,r',pl,hz⟩:=I.tuple hx
   have hlen:=r'.length
   exact len_tuple pl (by simp only [List.size_toArray]; omega) ⟨.int xs.length,H,I.tok _,⟨_,by simp only [List.size_toArray]; rw [hlen]⟩,q⟩
 | _=>exact (show False from e).elim
end
structure ObjM (h:Heap) (x dx C:Addr) (mA:Str→Option Value):Prop where
 obj:h.get? x = some (PySem.W.instObj C dx)
 ns:h.Ns1 dx mA
 ne:dx ≠ x
theorem lookIn_ns {h:Heap} {dx:Addr} {mA:Str→Option Value} (n:h.Ns1 dx mA):∃ od,h.get? dx = some od∧∀ name,PySem.W.lookIn name od = some (mA name):=by
 obtain ⟨o,es,ep,ho,hd,hk,_,hm⟩:=n
 refine ⟨o,ho,fun name=>?_⟩
 have e:=hm name
 unfold nsFind findBy at e
 rw [← Array.find?_toList] at e
 unfold PySem.W.lookIn
 rw [hd]
 dsimp only
 split
 ·rename_i y q
  rw [q] at e
  exact congrArg some e
 ·rename_i q
  rw [q] at e
  have a:es.toList.any (·.refKey) = false:=by
   rw [List.any_eq_false]
   intro y hy
   obtain ⟨z,t,hkey⟩:=hk y (Array.mem_toList_iff.mp hy)
   simp [DictEntry.refKey,hkey]
  have a':¬ es.toList.any (·.refKey) = true:=by rw [a]; exact Bool.false_ne_true
  rw [if_neg a']
  exact congrArg some e
theorem ObjM.look {h:Heap} {x dx C:Addr} {mA:Str→Option Value} (I:ObjM h x dx C mA):∃ od,PySem.W.InstAt h x (PySem.W.instObj C dx) C (some od)∧∀ name,PySem.W.lookIn name od = some (mA name) :=
 let ⟨od,ho,hl⟩:=lookIn_ns I.ns
 ⟨od,⟨I.obj,rfl,rfl,ho⟩,hl⟩
section
variable {prog:Program} {w:World} {A:Around} {E:Value→Shared→Prop} {s:Shared} {K:PySem.W.Frag} {x dx C f:Addr} {mA:Str→Option Value} {name:Str} {v:Value}
end
theorem RelO.some_of {v:V} {o:Option Value} (r:RelO (some v) o):∃ u,o = some u∧RelV v u:=by
 cases o with
 | none=>exact (show False from r).elim
 | some u=>exact ⟨u,rfl,r⟩
section
variable {P:Program} {w:World} {H H':Hp} {h h':Heap} {a C dx:Addr} {fs fs':List (Str × V)}
theorem ins_get (hok:HOk P w H h) (e:H a = some (.ins C dx fs)):∃ mA,ObjM h a dx C mA∧(∀ f,RelO (fs.lookup f) (mA f))∧PySem.Within mA (fs.map (·.1))∧fs.length ≤ 1000∧H dx = some (.own a):=by
 obtain ⟨d,z,ne,ob,mA,n,r,q⟩:=(show ObjOk P w H h a (.ins C dx fs) from hok a _ e)
 exact ⟨mA,⟨ob,n,ne⟩,r,q,z,d⟩
end
structure Cls (K:PySem.W.Frag) (C:Addr):Prop where
 pg:PySem.W.plainGet K C Str.empty = true
 hd:PySem.W.hasDictIn K C = true
 po:PySem.W.plainOver K C = true
 sa:PySem.W.findIn K (.ref C) "__setattr__" = some (some (.builtin "object.__setattr__"))
theorem Cls.get {K:PySem.W.Frag} {C:Addr} (c:Cls K C) (f:Str):PySem.W.plainGet K C f = true:=c.pg
section
variable {X:Cx} {pins:List (Addr × Obj)} {σ:St} {H:Hp} {s:Shared} {a C dx:Addr} {fs:List (Str × V)} {f:Str} {v:V} {A:Around} {E:Value→Shared→Prop}
end
section
variable {X:Cx} {o e value:Expr} {f:Str} {pos pos' tpos:Pos} {ta tv:TE}
end
section
variable {X:Cx} {pins:List (Addr × Obj)} {σ:St} {H:Hp} {s:Shared} {A:Around} {E:Value→Shared→Prop} {Q:Value→Shared→Prop} {c:Value} {b:Bool}
inductive TyOf (K:PySem.W.Frag) (H:Hp):V→Value→Prop where
 | non:TyOf K H .non (.type "NoneType")
 | bl (x:Bool):TyOf K H (.bl x) (.type "bool")
 | int (i:Int):TyOf K H (.int i) (.type "int")
 | str (x:Str):TyOf K H (.str x) (.type "str")
 | flt (x:UInt64):TyOf K H (.flt x) (.type "float")
 | lst {a:Addr} {xs:List V} (e:H a = some (.lst xs)):TyOf K H (.ref a) (.type "list")
 | frz {a:Addr} {o:Obj} {xs:List V} (e:H a = some (.frz o (.lst xs))):TyOf K H (.ref a) (.type "list")
 | tup {a:Addr} {xs:List V} (e:H a = some (.tup xs)):TyOf K H (.ref a) (.type "tuple")
 | dK {a:Addr} {kvs:List (Key × V)} (e:H a = some (.dK kvs)):TyOf K H (.ref a) (.type "dict")
 | dT {a:Addr} {kvs:List (List Key × V)} (e:H a = some (.dT kvs)):TyOf K H (.ref a) (.type "dict")
 | ins {a C dx:Addr} {fs:List (Str × V)} (e:H a = some (.ins C dx fs)) (cl:Cls K C) (ha:PySem.W.findIn K (.ref C) "__class__" = some (some (.builtin "object.__class__")))
  (hn:PySem.W.specialIn K (.builtin "object.__class__") "__get__" = some (some (.builtin "getset_descriptor.__get__"))) (htk:PySem.W.takesIn K (.builtin "object.__class__") = some true)
  (hm:PySem.W.mroIn K C (.type "object") = some true):TyOf K H (.ref a) (.ref C)
theorem isinst_ok {x:V} {u t:Value} (I:Inv X pins σ H s) (rx:RelV x u) (ty:TyOf X.K H x t) (e:PySem.W.kitOne X.K t c = some b) (h:∀ tk,Q (.bool b) { s with toks:=tk }) :
 wpAny (model X.prog X.w) A (call (.builtin "isinstance") [u,c]) Q E s:=by
 cases ty with
 | non=>cases (show u = Value.none from rx); exact PySem.W.kia_one PySem.W.kitx_none I.kIn True.intro e (fun z=>nomatch z) h
 | bl y=>cases (show u = Value.bool y from rx); exact PySem.W.kia_one PySem.W.kitx_bool I.kIn True.intro e (fun z=>nomatch z) h
 | int i=>obtain ⟨t,q⟩:=(show ∃ t,u = Value.int i t from rx); cases q; exact PySem.W.kia_one PySem.W.kitx_int I.kIn True.intro e (fun z=>nomatch z) h
 | str y=>obtain ⟨t,q⟩:=(show ∃ t,u = Value.str y t from rx); cases q; exact PySem.W.kia_one PySem.W.kitx_str I.kIn True.intro e (fun z=>nomatch z) h
 | flt y=>obtain ⟨t,q⟩:=(show ∃ t,u = Value.float y t from rx); cases q; exact PySem.W.kia_one PySem.W.kitx_float I.kIn True.intro e (fun z=>nomatch z) h
 | @lst a xs ea =>
  cases (show u = Value.ref a from rx)
  obtain ⟨_,_,n,_,h1⟩:=(show ObjOk X.prog X.w H s.heap a (.lst xs) from I.hok a _ ea)
  exact PySem.W.kia_one PySem.W.kitx_list I.kIn ⟨_,h1,rfl⟩ e (fun z=>nomatch z) h
 | @frz a ob xs ea =>
  cases (show u = Value.ref a from rx)
  obtain ⟨_,_,_,n,_,h1⟩:=(show ObjOk X.prog X.w H s.heap a (.frz ob (.lst xs)) from I.hok a _ ea)
  exact PySem.W.kia_one PySem.W.kitx_list I.kIn ⟨_,h1,rfl⟩ e (fun z=>nomatch z) h
 | @tup a xs ea =>
  cases (show u = Value.ref a from rx)
  obtain ⟨_,_,_,p⟩:=(show ObjOk X.prog X.w H s.heap a (.tup xs) from I.hok a _ ea)
  obtain ⟨o,h1,h2,_⟩:=p
  exact PySem.W.kia_one PySem.W.kitx_tuple I.kIn ⟨o,h1,h2.1⟩ e (fun z=>nomatch z) h
 | @dK a kvs ea =>
  cases (show u = Value.ref a from rx)
  obtain ⟨_,_,vs,_,p⟩:=(show ObjOk X.prog X.w H s.heap a (.dK kvs) from I.hok a _ ea)
  obtain ⟨o,es,ep,h1,h2,_⟩:=p
  exact PySem.W.kia_one PySem.W.kitx_dict I.kIn ⟨o,h1,h2.1⟩ e (fun z=>nomatch z) h
 | @dT a kvs ea =>
  cases (show u = Value.ref a from rx)
  obtain ⟨_,_,xs,_,o,es,ep,h1,h2,_⟩:=(show ObjOk X.prog X.w H s.heap a (.dT kvs) from I.hok a _ ea)
  exact PySem.W.kia_one PySem.W.kitx_dict I.kIn ⟨o,h1,h2.1⟩ e (fun z=>nomatch z) h
 | @ins a C dx fs ea cl ha hn htk hm =>
  cases (show u = Value.ref a from rx)
  obtain ⟨mA,O,_⟩:=ins_get I.hok ea
  obtain ⟨od,J,_⟩:=O.look
  exact PySem.W.kia_one (PySem.W.kitx_own (cl.get _) cl.hd ha hn htk hm) I.kIn J e (fun z=>nomatch z) h
end
structure Room (k:Nat) (A:Around):Prop where
 hd:A.handled = none
 dp:A.depth + 3 * k + 5 < recursionLimit
 un:A.units + 16 * k + 200 < cLine
theorem Room.mono {j k:Nat} {A:Around} (r:Room k A) (h:j ≤ k):Room j A:=⟨r.hd,by have:=r.dp; omega,by have:=r.un; omega⟩
theorem Room.deeper {k:Nat} {A:Around} (r:Room (k + 1) A) (env:Env):Room k (A.deeper env) :=
 ⟨r.hd,by have:=r.dp; show A.depth + 1 + 3 * k + 5 < _; omega,by have:=r.un; show A.units + 3 + 16 * k + 200 < _; omega⟩
theorem Room.depth {k:Nat} {A:Around} (r:Room k A):A.depth < recursionLimit:=by have:=r.dp; omega
theorem Room.units {k:Nat} {A:Around} (r:Room k A):A.units + 64 < cLine:=by have:=r.un; omega
def tNil:TA:=fun _ H Q=>Q [] H
def tCons (ta:TE) (tr:TA):TA:=fun σ H Q=>ta σ H fun x H1=>tr σ H1 fun xs H2=>Q (x :: xs) H2
section
variable {X:Cx} {e:Expr} {es:List Expr} {te:TE} {t:TA} {pos:Pos}
theorem pa_nil:PA X [] tNil:=fun _ _ _ _ H Q I h=>Calls.spliced_nil ⟨[],H,I,.nil,h⟩
theorem pa_cons (ha:PE X e te) (hr:PA X es t) (hs:starEach (e :: es) X.env = (false,eval e X.env) :: starEach es X.env:=by rfl):PA X (e :: es) (tCons te t):=by
 intro pos pins s σ H Q I h
 rw [hs]
 show wpAny _ _ (spliced ((false,eval e X.env) :: backTo pos (starEach es X.env))) _ _ s
 refine Calls.spliced_cons (thn (ha pins s σ H _ I h) fun u s1 ⟨x,H1,I1,r1,q1⟩=>?_)
 exact thn (hr pos pins s1 σ H1 _ I1 q1) fun us s2 ⟨xs,H2,I2,r2,q2⟩=>⟨x :: xs,H2,I2,.cons r1 r2,q2⟩
def tTup (t:TA):TE:=fun σ H Q=>t σ H fun xs H1=>xs.length ≤ sizeLine∧∀ p,H1 p = none→Q (.ref p) (upd H1 p (.tup xs))
def tLst (t:TA):TE:=fun σ H Q=>t σ H fun xs H1=>xs.length ≤ sizeLine∧∀ p,H1 p = none→Q (.ref p) (upd H1 p (.lst xs))
theorem pe_tup {x1} (h:PA X es t):PE X (.Tuple es x1 pos) (tTup t):=by
 intro pins s σ H Q I hq
 refine wpAny_Tuple_spliced (thn (h pos pins s σ H _ I hq) fun us s1 ⟨xs,H1,I1,r,z,q⟩=>⟨by rw [← r.length]; exact z,?_⟩)
 have hf:H1 s1.heap.objs.size = none:=I1.hok.fresh (Nat.le_refl _)
 refine ⟨.ref s1.heap.objs.size,upd H1 s1.heap.objs.size (.tup xs),I1.laid (t':=s1.toks) (fun b u e=>Heap.get?_push_of_some _ e) (Nat.le_refl _) ?_,rfl,q _ hf⟩
 exact ⟨z,us,r,⟨_,Heap.get?_push_size _ rfl,⟨rfl,rfl⟩,_,rfl⟩⟩
theorem pe_lst (h:PA X es t):PE X (.List es pos) (tLst t):=by
 intro pins s σ H Q I hq
 refine wpAny_List_spliced (thn (h pos pins s σ H _ I hq) fun us s1 ⟨xs,H1,I1,r,z,q⟩=>⟨by rw [← r.length]; exact z,?_⟩)
 have hf:H1 s1.heap.objs.size = none:=I1.hok.fresh (Nat.le_refl _)
 refine ⟨.ref s1.heap.objs.size,upd H1 s1.heap.objs.size (.lst xs),I1.laid (t':=s1.toks) (fun b u e=>Heap.get?_push_of_some _ e) (Nat.le_refl _) ?_,rfl,q _ hf⟩
 exact ⟨z,us,0,r,Heap.get?_push_size _ rfl⟩
end
abbrev Sp:=List V→Hp→VK→XK→Prop
abbrev CXT:=List Env→Hp→Shared→XK→Value→Shared→Prop
structure Env0 (P:Program) (w:World) (K:PySem.W.Frag) (mg:Str→Option Value) (base:Heap) (A:Around) (outer:List Env) (s:Shared) (H:Hp):Prop where
 frames:A.frames = some outer
 mod:Mod K mg base
 bs:∀ b o,base.get? b = some o→s.heap.get? b = some o∧H b = none
 bsz:base.objs.size ≤ s.heap.objs.size
 funs:s.heap.FunFrames base outer
 frf:∀ b ∈ frs outer,H b = none
 hok:HOk P w H s.heap
 bare:AllBare s.gens
def CE (outer:List Env) (P:Program) (w:World) (H:Hp) (s:Shared) (Q:VK) (u:Value) (s':Shared):Prop :=
 ∃ v H',s'.os = s.os∧AllBare s'.gens∧Un (frs outer) [] H H' s.heap s'.heap∧HOk P w H' s'.heap∧RelV v u∧Q v H'
def CR (CX:CXT) (outer:List Env) (P:Program) (w:World) (H:Hp) (s:Shared) (Q:VK) (E:XK) (r:Result) (s':Shared):Prop :=
 match r with
 | .ok (.ret u)=>CE outer P w H s Q u s'
 | .ok _=>False
 | .error e=>CX outer H s E e s'
structure FnOk (P:Program) (w:World) (K:PySem.W.Frag) (mg:Str→Option Value) (base:Heap) (CX:CXT) (k:Nat) (f:Addr) (fd:FuncData) (ps:List Str) (sp:Sp):Prop where
 len:∀ vs H Q E,sp vs H Q E→vs.length = ps.length
 run:∀ (A:Around) (outer:List Env) (s:Shared) (H:Hp) (args:Args) (us:List Value) (vs:List V) (Q:VK) (E:XK),Room k A→Env0 P w K mg base A outer s H→BindsTo s fd args (ps.zip us)→Vals vs us→sp vs H Q E →
  codeAny (model P w) A (.call (.ref f) args) (CR CX outer P w H s Q E) s
theorem FnOk.imp {P:Program} {w:World} {K:PySem.W.Frag} {mg:Str→Option Value} {base:Heap} {CX:CXT} {k:Nat} {f:Addr} {fd:FuncData} {ps:List Str} {sp sp':Sp} (F:FnOk P w K mg base CX k f fd ps sp)
 (h:∀ vs H Q E,sp' vs H Q E→sp vs H Q E):FnOk P w K mg base CX k f fd ps sp' :=
 ⟨fun vs H Q E q=>F.len vs H Q E (h _ _ _ _ q),fun A outer s H args us vs Q E hr he hb hv hs=>F.run A outer s H args us vs Q E hr he hb hv (h _ _ _ _ hs)⟩
section
variable {X:Cx} {pins:List (Addr × Obj)} {σ:St} {H:Hp} {s s':Shared}
theorem Inv.env0 (I:Inv X pins σ H s):Env0 X.prog X.w X.K X.mg X.base X.A X.stack s H :=
 ⟨I.ok.frames,I.ok.mod,I.bs,Nat.le_trans I.ok.bsz I.sz,I.stack,I.stkFree,I.hok,I.bare⟩
theorem Inv.after {Q:VK} {u:Value} (I:Inv X pins σ H s) (h:CE X.stack X.prog X.w H s Q u s'):EP X pins σ Q u s':=by
 obtain ⟨v,H',os,bare,un,hok,r,q⟩:=h
 obtain ⟨hh,g,d,t,os'⟩:=s'
 obtain rfl:os' = s.os:=os
 exact ⟨v,H',I.call (h':=hh) (g':=g) (d':=d) (t':=t) (ch:=[]) un hok bare (fun b z=>absurd z (by simp)),r,q⟩
end
def tCall (sp:Sp) (dvs:List V) (E:XK) (t:TA):TE:=fun σ H Q=>t σ H fun vs H1=>sp (vs++dvs) H1 Q E
def Binds (K:PySem.W.Frag) (fd:FuncData) (ps:List Str) (ds:List Value):Prop :=
 ∀ (s:Shared) (us:List Value),K.In s.heap→(us++ds).length = ps.length→BindsTo s fd ⟨us,[]⟩ (ps.zip (us++ds))
theorem Binds.all {K:PySem.W.Frag} {fd:FuncData} {ps:List Str} (h:∀ us:List Value,us.length = ps.length→bindArgs fd ⟨us,[]⟩ = pure (ps.zip us)):Binds K fd ps []:=fun s us _ hl=>by
 rw [List.append_nil] at hl ⊢
 exact .of_eq (h us hl)
def Passes (CX:CXT) (X:Cx) (E:XK):Prop:=∀ (pins:List (Addr × Obj)) (σ:St) (H:Hp) (s:Shared) (e:Value) (s':Shared),Inv X pins σ H s→CX X.stack H s E e s'→X.xe e s'
section
variable {X:Cx} {CX:CXT} {k:Nat} {f C:Addr} {fd:FuncData} {ps:List Str} {sp:Sp} {dvs:List V} {ds:List Value} {E:XK} {x m:Str} {p pos apos:Pos} {e o:Expr} {es:List Expr} {ta:TE} {t:TA}
theorem run_fn {pins:List (Addr × Obj)} {σ:St} {H:Hp} {s:Shared} {Q:VK} {us:List Value} {vs:List V} (F:FnOk X.prog X.w X.K X.mg X.base CX k f fd ps sp) (hr:Room k X.A) (hb:Binds X.K fd ps ds) (hd:Vals dvs ds) (hx:Passes CX X E)
 (I:Inv X pins σ H s) (r:Vals vs us) (h:sp (vs++dvs) H Q E):wpAny (model X.prog X.w) X.A (call (.ref f) us) (EP X pins σ Q) X.xe s:=by
 have r2:Vals (vs++dvs) (us++ds):=r.append hd
 have hl:(us++ds).length = ps.length:=by rw [← r2.length]; exact F.len _ _ _ _ h
 refine wpAny_call (codeAny_mono (F.run X.A X.stack s H ⟨us,[]⟩ (us++ds) (vs++dvs) Q E hr I.env0 (hb s us I.kIn hl) r2 h) fun r s' hq=>?_)
 cases r with
 | error e=>exact hx pins σ H s e s' I hq
 | ok fl =>
  cases fl with
  | ret u=>exact I.after hq
  | next=>exact False.elim hq
  | brk=>exact False.elim hq
  | cont=>exact False.elim hq
theorem pe_call (F:FnOk X.prog X.w X.K X.mg X.base CX k f fd ps sp) (hr:Room k X.A) (hg:Gl X x) (hm:X.mg x = some (.ref f)) (hk:PySem.W.keepIn X.K (.ref f) = true) (hb:Binds X.K fd ps ds) (hd:Vals dvs ds) (hx:Passes CX X E)
 (ha:PA X (e :: es) t) (hdb:(x == ("__debug__":Str)) = false:=by decide) (he:starEach (e :: es) X.env = (false,eval e X.env) :: starEach es X.env:=by rfl) (hpl:(backTo pos (starEach es X.env)).any (·.1) = false:=by rfl) :
 PE X (.Call (.Name x p) (e :: es) [] pos) (tCall sp dvs E t):=by
 intro pins s σ H Q I h
 refine wpAny_Call_Name_kw (ld_glob I hg hm ?_ hdb)
 refine PySem.W.callWith_K (h₀:=X.base) I.ok.mod.kin hk (thn (ha pos pins s σ H _ I h) fun us s1 ⟨vs,H1,I1,r,q⟩=>⟨I1.kIn,?_⟩) he hpl
 exact run_fn F hr hb hd hx I1 r q
end
section
variable {X:Cx} {CX:CXT} {k:Nat} {f C:Addr} {fd:FuncData} {ps ks:List Str} {sp:Sp} {E:XK} {x m:Str} {p pos apos kpos:Pos} {e o:Expr} {es:List Expr} {kws:List Keyword} {te ta:TE} {t tk:TA} {nm:Option Str}
variable {g:List Value→List Value→List Value} {gV:List V→List V→List V}
end
structure FnScope (N P:List Str) (sc:Scope):Prop where
 kind:sc.kind = .function
 co:sc.isCoroutine = false
 gen:sc.isGenerator = false
 nd:N.Nodup
 pre:N.take P.length = P
 par:∀ x ∈ P,sc.names.lookup x = some .local∨sc.names.lookup x = some .cell
 nofree:∀ y ∈ sc.names,y.2 ≠ .free
theorem bindL_out {kindOf:Str→Option NameKind} {x:Str}:∀ {binds:List (Str × Value)} {m:Str→Option Value},(∀ v,(x,v) ∉ binds)→bindL kindOf binds m x = m x
 | [],_,_=>rfl
 | (n,v) :: r,m,h=>by
  unfold bindL
  rw [bindL_out fun w hw=>h w (List.mem_cons_of_mem _ hw)]
  split
  ·have:x ≠ n:=by rintro rfl; exact h v List.mem_cons_self
   simp [this]
  ·rfl
theorem bindC_out {kindOf:Str→Option NameKind} {x:Str}:∀ {binds:List (Str × Value)} {m:Str→Option Value},(∀ v,(x,v) ∉ binds)→bindC kindOf binds m x = m x
 | [],_,_=>rfl
 | (n,v) :: r,m,h=>by
  unfold bindC
  rw [bindC_out fun w hw=>h w (List.mem_cons_of_mem _ hw)]
  split
  ·rfl
  ·have:x ≠ n:=by rintro rfl; exact h v List.mem_cons_self
   simp [this]
theorem bindL_get {kindOf:Str→Option NameKind} {x:Str} {v:Value}:∀ {P:List Str} {vs:List Value} {i:Nat} {m:Str→Option Value},P.Nodup→P[i]? = some x→vs[i]? = some v→kindOf x = some .local →
 bindL kindOf (P.zip vs) m x = some v
 | [],_,_,_,_,h,_,_=>by simp at h
 | _ :: _,[],_,_,_,_,h,_=>by simp at h
 | p :: P,w :: vs,0,m,nd,h1,h2,hk=>by
  simp at h1 h2; subst h1; subst h2
  show bindL kindOf ((p,w) :: P.zip vs) m p = _
  unfold bindL
  rw [bindL_out fun v hv=>(List.nodup_cons.mp nd).1 (List.of_mem_zip hv).1,if_pos hk]
  simp
 | p :: P,w :: vs,i + 1,m,nd,h1,h2,hk=>by
  show bindL kindOf ((p,w) :: P.zip vs) m x = _
  unfold bindL
  exact bindL_get (i:=i) (List.nodup_cons.mp nd).2 (by simpa using h1) (by simpa using h2) hk
theorem bindC_get {kindOf:Str→Option NameKind} {x:Str} {v:Value}:∀ {P:List Str} {vs:List Value} {i:Nat} {m:Str→Option Value},P.Nodup→P[i]? = some x→vs[i]? = some v→kindOf x ≠ some .local →
 bindC kindOf (P.zip vs) m x = some v
 | [],_,_,_,_,h,_,_=>by simp at h
 | _ :: _,[],_,_,_,_,h,_=>by simp at h
 | p :: P,w :: vs,0,m,nd,h1,h2,hk=>by
  simp at h1 h2; subst h1; subst h2
  show bindC kindOf ((p,w) :: P.zip vs) m p = _
  unfold bindC
  rw [bindC_out fun v hv=>(List.nodup_cons.mp nd).1 (List.of_mem_zip hv).1,if_neg hk]
  simp
 | p :: P,w :: vs,i + 1,m,nd,h1,h2,hk=>by
  show bindC kindOf ((p,w) :: P.zip vs) m x = _
  unfold bindC
  exact bindC_get (i:=i) (List.nodup_cons.mp nd).2 (by simpa using h1) (by simpa using h2) hk
def start (N:List Str) (vs:List V):St:=vs.map some++List.replicate (N.length - vs.length) none
def cxOf (CX:CXT) (P:Program) (w:World) (K:PySem.W.Frag) (mg:Str→Option Value) (base:Heap) (N:List Str) (qual:Str) (scope:Scope) (f:Addr) (cd:Value) (A:Around) (outer:List Env) (s:Shared) (H:Hp) (E:XK):Cx where
 prog:=P
 w:=w
 K:=K
 mg:=mg
 base:=base
 A:=A.deeper (envOfC qual scope s.heap.objs.size f cd)
 N:=N
 s₀:=s
 H₀:=H
 env:=envOfC qual scope s.heap.objs.size f cd
 outer:=outer
 stack:=envOfC qual scope s.heap.objs.size f cd :: outer
 ex:=[]
 calm:=true
 fn:=fun _=>true
 pn:=[]
 xe:=fun e s'=>wpAny (model P w) (A.deeper (envOfC qual scope s.heap.objs.size f cd)) (leaving (envOfC qual scope s.heap.objs.size f cd) e) (fun _ s''=>CX outer H s E e s'') (fun e' s''=>CX outer H s E e' s'') s'
theorem cell_has {sc:Scope} {n:Nat} {x:Str} (h:sc.names.lookup x = some .cell):∃ c,(cellsFrom n sc.names []).lookup x = some c:=by
 have q:=PySem.W.cellsFrom_some sc.names n [] (.inl h)
 exact Option.isSome_iff_exists.mp q
theorem inv_start {CX:CXT} {P:Program} {w:World} {K:PySem.W.Frag} {mg:Str→Option Value} {base:Heap} {N ps:List Str} {qual:Str} {scope:Scope} {f:Addr} {cd:Value} {A:Around} {outer:List Env} {s s1:Shared} {H:Hp} {E:XK} {us:List Value} {vs:List V}
 (S:FnScope N ps scope) (hd:A.handled = none) (e0:Env0 P w K mg base A outer s H) (hl:vs.length = ps.length) (r:Vals vs us)
 (x:InCallC s s.heap.objs.size (bindL (envOfC qual scope s.heap.objs.size f cd).kindOf (ps.zip us) fun _=>none) (cellsFrom (s.heap.objs.size + 1) scope.names []) (bindC (envOfC qual scope s.heap.objs.size f cd).kindOf (ps.zip us) fun _=>none) s1) :
 Inv (cxOf CX P w K mg base N qual scope f cd A outer s H E) [] (start N vs) H s1:=by
 have hpl:ps.length ≤ N.length:=by have:=congrArg List.length S.pre; rw [List.length_take] at this; omega
 obtain ⟨h1,tk,rfl,hk⟩:=x.done
 have noA:∀ b:Addr,b ∉ (cxOf CX P w K mg base N qual scope f cd A outer s H E).ex:=fun b z=>absurd (show b ∈ ([]:List Addr) from z) (by simp)
 refine ⟨⟨e0.mod,S.kind,rfl,rfl,Nat.le_refl _,fun y z c h1 h2=>?_,fun y hy=>?_,fun y c _ h=>?_,fun _=>hd,Around.frames_deeper e0.frames,.inr ⟨rfl,rfl⟩,fun b z=>absurd z (noA b),e0.bs,e0.bsz,fun b _ _=>noA b,fun b z=>absurd z (noA b),e0.funs,e0.frf⟩,
  rfl,e0.bare,Un.kept hk,⟨_,x.toInCall.ns,fun i y v h1 h2 h3=>?_⟩,fun y c h=>⟨_,x.cell y c h⟩,e0.hok.fresh (Nat.le_refl _),fun y c h=>?_,fun p hp=>absurd (show p ∈ ([]:List (Addr × Obj)) from hp) (by simp),e0.hok.kept hk,?_⟩
 ·exact name_of_addr x.apart (PySem.mem_of_lookup h1) (PySem.mem_of_lookup h2)
 ·have hy:scope.names.lookup y = some .cell∨scope.names.lookup y = some .free:=hy
  rcases hy with hy | hy
  ·exact cell_has hy
  ·exact absurd rfl (S.nofree _ (PySem.mem_of_lookup hy))
 ·exact Nat.le_of_lt (x.above y c (PySem.mem_of_lookup h))
 ·have hi:i < vs.length:=by
   unfold start at h2
   by_cases hi:i < vs.length
   ·exact hi
   ·rw [List.getElem?_append_right (by simpa using hi)] at h2
    rw [List.getElem?_replicate] at h2
    split at h2 <;> cases h2
  have ha:vs[i]? = some v:=by
   unfold start at h2
   rw [List.getElem?_append_left (by simpa using hi),List.getElem?_map] at h2
   cases e:vs[i]? with
   | none=>rw [e] at h2; cases h2
   | some a=>rw [e] at h2; cases h2; rfl
  obtain ⟨u,hu,rv⟩:=r.get ha
  have hp:ps[i]? = some y:=by
   rw [← S.pre,List.getElem?_take_of_lt (by omega)]; exact h1
  have ndP:ps.Nodup:=by rw [← S.pre]; exact S.nd.sublist (List.take_sublist _ _)
  refine ⟨u,rv,?_⟩
  rcases S.par y (List.mem_of_getElem? hp) with k | k
  ·exact .inl ⟨k,bindL_get ndP hp hu k⟩
  ·obtain ⟨c,e⟩:=cell_has (n:=s.heap.objs.size + 1) k
   refine .inr ⟨.inl k,c,e,?_⟩
   have q:=x.cell y c e
   rw [bindC_get ndP hp hu (by show scope.names.lookup y ≠ _; rw [k]; decide)] at q
   exact q
 ·exact e0.hok.fresh (Nat.le_of_lt (x.above y c (PySem.mem_of_lookup h)))
 ·unfold start
  show _ = N.length
  rw [List.length_append,List.length_map,List.length_replicate]
  omega
theorem fn_of {CX:CXT} {P:Program} {w:World} {K:PySem.W.Frag} {mg:Str→Option Value} {base:Heap} {k:Nat} {f:Addr} {name qual:Str} {params:Arguments} {body:List Stmt} {scope:Scope} {dV kV doc pm cdv ct oc:Value} {an od:Option Addr}
 {osl:Array (Option Value)} {N ps:List Str} {sp:Sp} (lk:K.lookup f = some ⟨oc,od,.func (PySem.W.fnOf name qual params body scope dV kV doc pm an cdv ct),osl⟩) (hcd:PySem.W.codeIn K cdv qual = true) (S:FnScope N ps scope)
 (len:∀ vs H Q E,sp vs H Q E→vs.length = ps.length)
 (hbody:∀ (A:Around) (outer:List Env) (s:Shared) (H:Hp) (vs:List V) (Q:VK) (E:XK),Room k (A.deeper (envOfC qual scope s.heap.objs.size f cdv))→sp vs H Q E →
  ∃ t,PSs (cxOf CX P w K mg base N qual scope f cdv A outer s H E) body t∧t { nx:=fun _ H'=>Q .non H',rt:=Q } (start N vs) H) :
 FnOk P w K mg base CX (k + 1) f (PySem.W.fnOf name qual params body scope dV kV doc pm an cdv ct) ps sp:=by
 refine ⟨len,fun A outer s H args us vs Q E hr e0 hb r hsp=>?_⟩
 have hl:=len _ _ _ _ hsp
 have KX:K.In s.heap:=e0.mod.kin.keeps fun b o e=>(e0.bs b o e).1
 have lim:s.heap.NoLimit:=e0.mod.nolimit.keeps fun b o e=>(e0.bs b o e).1
 have hkind:∀ y ∈ ps.zip us,scope.names.lookup y.1 = some .local∨(scope.names.lookup y.1 = some .cell∧((cellsFrom (s.heap.objs.size + 1) scope.names []).lookup y.1).isSome = true):=fun ⟨n,v⟩ hy=>by
  rcases S.par n (List.of_mem_zip hy).1 with q | q
  ·exact .inl q
  ·exact .inr ⟨q,PySem.W.cellsFrom_some _ _ _ (.inl q)⟩
 refine codeAny_call_function hr.depth (KX _ _ lk) rfl S.co S.gen rfl (PySem.W.codeRec_of KX hcd) (hb _ _ _ _ ?_)
 refine wpAny_newFunctionEnv_cells S.kind hkind fun env he s1 x=>?_
 subst he
 refine ⟨lim.keeps x.toInCall.keep,codeAny_func ?_⟩
 obtain ⟨t,ht,hq⟩:=hbody A outer s H vs Q E (hr.deeper _) hsp
 have I:Inv (cxOf CX P w K mg base N qual scope f cdv A outer s H E) [] (start N vs) H s1:=inv_start S hr.hd e0 hl r x
 refine wpAny_mono (ht [] s1 (start N vs) H _ I hq) (fun fl s' hs=>?_) fun e s' hs=>hs
 have fin:∀ {σ':St} {H':Hp} {v:V} {u:Value},Inv (cxOf CX P w K mg base N qual scope f cdv A outer s H E) [] σ' H' s'→RelV v u→Q v H'→CE outer P w H s Q u s' :=
  fun {σ' H' v u} J rv q=>⟨v,H',J.os,J.bare,J.base,J.hok,rv,q⟩
 cases fl with
 | ret u =>
  obtain ⟨v,σ',H',J,rv,q⟩:=hs
  exact fin J rv q
 | next =>
  obtain ⟨σ',H',J,q⟩:=hs
  exact fin (v:=V.non) (u:=Value.none) J rfl q
 | brk =>
  obtain ⟨_,_,_,q⟩:=hs
  exact False.elim q
 | cont =>
  obtain ⟨_,_,_,q⟩:=hs
  exact False.elim q
section
variable {X:Cx} {x:Str} {p pos:Pos} {e:Expr} {es:List Expr} {t:TA} {id T:String} {r:List V→Hp→VK→Prop}
def tCB (r:List V→Hp→VK→Prop) (t:TA):TE:=fun σ H Q=>t σ H fun vs H1=>r vs H1 Q
theorem pe_callB (hc:CallR X (.builtin id) r) (hg:Gl X x) (hm:X.mg x = none) (hv:bootBuiltins x = some (.builtin id)) (ha:PA X (e :: es) t) (hn:x ≠ "__name__":=by decide) (hdb:(x == ("__debug__":Str)) = false:=by decide)
 (he:starEach (e :: es) X.env = (false,eval e X.env) :: starEach es X.env:=by rfl) (hpl:(backTo pos (starEach es X.env)).any (·.1) = false:=by rfl):PE X (.Call (.Name x p) (e :: es) [] pos) (tCB r t):=by
 intro pins s σ H Q I h
 refine wpAny_Call_Name_kw (ld_blt I hg hm hv ?_ hn hdb)
 exact PyProof.Rows.callWith_builtin1 (thn (ha pos pins s σ H _ I h) fun us s1 ⟨vs,H1,I1,r1,q1⟩=>hc pins s1 σ H1 vs us Q I1 r1 q1) he hpl
theorem pe_callTy (hc:CallR X (.type T) r) (hg:Gl X x) (hm:X.mg x = none) (hv:bootBuiltins x = some (.type T)) (ha:PA X (e :: es) t) (hn:x ≠ "__name__":=by decide) (hdb:(x == ("__debug__":Str)) = false:=by decide)
 (he:starEach (e :: es) X.env = (false,eval e X.env) :: starEach es X.env:=by rfl) (hpl:(backTo pos (starEach es X.env)).any (·.1) = false:=by rfl):PE X (.Call (.Name x p) (e :: es) [] pos) (tCB r t):=by
 intro pins s σ H Q I h
 refine wpAny_Call_Name_kw (ld_blt I hg hm hv ?_ hn hdb)
 exact PyProof.Rows.callWith_type1 (thn (ha pos pins s σ H _ I h) fun us s1 ⟨vs,H1,I1,r1,q1⟩=>hc pins s1 σ H1 vs us Q I1 r1 q1) he hpl
end
end L2
namespace HT
open PySem PyProof.Rows
section
open PySem.SeqAt
open PySem.AutoSeq1 (wpAny_loadPart')
open PySem.MeetsSeq PySem.MeetsSeq2 PySem.MeetsSeq3
end
section
variable {prog:Program} {w:World} {A:Around} {E:Value→Shared→Prop} {s:Shared}
theorem cat_tup {t b:Addr} {vs ws:List Value} {Q:Value→Shared→Prop} (ht:IsTup s.heap t vs.toArray) (hb:IsTup s.heap b ws.toArray) (hv:vs ≠ [])
 (h1:ws = []→Q (.ref t) s) (h2:ws ≠ []→Q (.ref s.heap.objs.size) { s with heap:=s.heap.push { cls:=.type "tuple",data:=.seq (vs++ws).toArray } })
 (hsz:vs.length + ws.length ≤ sizeLine):wpAny (model prog w) A (binaryOp .Add (.ref t) (.ref b)) Q E s:=by
 obtain ⟨⟨cls,dd,data,sl⟩,ho,hc,n,hd⟩:=id ht
 obtain ⟨⟨cls2,dd2,data2,sl2⟩,ho2,hc2,n2,hd2⟩:=id hb
 simp only at hc hd hc2 hd2
 subst hc hd hc2 hd2
 have e:vs.toArray++ws.toArray = (vs++ws).toArray:=by simp
 by_cases hw:ws = []
 ·exact concat_meets ⟨_,ho,rfl⟩ ⟨_,ho2,rfl⟩ noFill_tuple_add seq_tuple_add PySem.F.slot_tuple_add PySem.F.entry_tuple_add (PySem.F.args_tuple_add_2 _ _)
   (tuple_addW1 t b vs.toArray ws.toArray n n2 dd dd2 sl sl2 (by simpa using hv) (by simp [hw])) ⟨ho,ho2,h1 hw⟩
 ·refine concat_meets ⟨_,ho,rfl⟩ ⟨_,ho2,rfl⟩ noFill_tuple_add seq_tuple_add PySem.F.slot_tuple_add PySem.F.entry_tuple_add (PySem.F.args_tuple_add_2 _ _)
   (tuple_addW2 t b vs.toArray ws.toArray n n2 dd dd2 sl sl2 (by simpa using hv) (by simpa using hw) (by rw [List.size_toArray,List.size_toArray]; exact hsz)) ⟨ho,ho2,?_⟩
  rw [e]
  exact h2 hw
end
end HT
namespace L2
open PySem PySem.Spec PyProof.Rows
abbrev TO:=St→Hp→(Option Int→Hp→Prop)→Prop
theorem intsAre_of {ns:List Int}:∀ {us:List Value},Vals (ns.map V.int) us→IntsAre us ns:=by
 induction ns with
 | nil=>intro us r; rw [List.map_nil] at r; cases r; exact .nil
 | cons n ns ih =>
  intro us r
  rw [List.map_cons] at r
  cases r with
  | cons r1 r2 =>
   obtain ⟨t,e⟩:=r1
   subst e
   exact .cons n t (ih r2)
section
variable {X:Cx} {e:Expr} {te:TE} {lo hi:Option Expr} {tl th:TO} {pos p2:Pos}
def rCatT (K:PySem.W.Frag):R2:=fun x y H Q=>∃ a b xs ys,x = .ref a∧y = .ref b∧SqT K H a xs∧SqT K H b ys∧xs ≠ []∧xs.length + ys.length ≤ sizeLine ∧
 (ys = []→Q (.ref a) H)∧(ys ≠ []→∀ p,H p = none→Q (.ref p) (upd H p (.tup (xs++ys))))
theorem Vals.nil_iff {xs:List V} {us:List Value} (r:Vals xs us):us = [] ↔ xs = []:=by
 cases r with
 | nil=>simp
 | cons _ _=>simp
theorem op_catT:OpR X (binaryOp .Add) (rCatT X.K):=by
 intro pins s σ H x y v u Q I rx ry h
 obtain ⟨a,b,xs,ys,rfl,rfl,ha,hb,hx,hz,q1,q2⟩:=h
 cases rx
 cases ry
 obtain ⟨its,r1,p1,_⟩:=I.tuple ha
 obtain ⟨its2,r2,p2,_⟩:=I.tuple hb
 refine HT.cat_tup p1 p2 (fun z=>hx (r1.nil_iff.mp z)) (fun z=>⟨.ref a,H,I,rfl,q1 (r2.nil_iff.mp z)⟩) (fun z=>?_) (by rw [← r1.length,← r2.length]; exact hz)
 refine ⟨.ref s.heap.objs.size,_,I.laid (t':=s.toks) (o:=.tup (xs++ys)) (fun b ob q=>Heap.get?_push_of_some _ q) (Nat.le_refl _) ?_,rfl,q2 (fun w=>z (r2.nil_iff.mpr w)) _ (I.hok.fresh (Nat.le_refl _))⟩
 exact ⟨by rw [List.length_append]; exact hz,_,r1.append r2,FT.IsTup0.new _ _⟩
end
def ixN (n:Nat) (i:Int):Option Nat:=if 0 ≤ i then (if i < n then some i.toNat else none) else if -(n:Int) ≤ i then some (i + n).toNat else none
def atI {α:Type} (xs:List α) (i:Int):Option α:=(ixN xs.length i).bind fun j=>xs[j]?
theorem ixN_seq {n:Nat} {i:Int} {j:Nat} (h:ixN n i = some j):seqIndex? i n = some j∧j < n∧-(n:Int) ≤ i∧i < n:=by
 unfold ixN at h
 by_cases h0:0 ≤ i
 ·rw [if_pos h0] at h
  by_cases h1:i < n
  ·rw [if_pos h1] at h
   have e:i.toNat = j:=Option.some.inj h
   exact ⟨by rw [seqIndex_of h0 h1,e],by omega,by omega,h1⟩
  ·rw [if_neg h1] at h; cases h
 ·rw [if_neg h0] at h
  by_cases h1:-(n:Int) ≤ i
  ·rw [if_pos h1] at h
   have e:(i + n).toNat = j:=Option.some.inj h
   exact ⟨by rw [seqIndex_neg (by omega) h1,e],by omega,h1,by omega⟩
  ·rw [if_neg h1] at h; cases h
theorem atI_get {α:Type} {xs:List α} {i:Int} {v:α} (h:atI xs i = some v):∃ j,seqIndex? i xs.length = some j∧xs[j]? = some v∧j < xs.length∧-(xs.length:Int) ≤ i∧i < xs.length:=by
 unfold atI at h
 cases e:ixN xs.length i with
 | none=>rw [e] at h; cases h
 | some j =>
  rw [e] at h
  obtain ⟨h1,h2,h3,h4⟩:=ixN_seq e
  exact ⟨j,h1,h,h2,h3,h4⟩
theorem atI_nat {α:Type} {xs:List α} {j:Nat} {v:α} (h:xs[j]? = some v):atI xs (j:Int) = some v:=by
 have hj:j < xs.length:=(List.getElem?_eq_some_iff.mp h).1
 have e:ixN xs.length (j:Int) = some j:=by
  unfold ixN
  rw [if_pos (by omega),if_pos (by omega)]; simp
 unfold atI; rw [e]; exact h
def PlainIx (b:Expr):Prop:=∀ o i,subscripted b false o i = operate [o,i] (getItem o i)
def IxR (X:Cx) (r:R2):Prop :=
 ∀ (value slice:Expr) (pins:List (Addr × Obj)) (s:Shared) (σ:St) (H:Hp) (x y:V) (v u:Value) (Q:VK),Inv X pins σ H s→RelV x v→RelV y u→r x y H Q →
  subscripted slice false v u = operate [v,u] (getItem v u)→wpAny (model X.prog X.w) X.A (subscriptTail value slice v u) (EP X pins σ Q) X.xe s
def MtR (X:Cx) (id:String) (r:V→List V→Hp→VK→Prop):Prop :=
 ∀ (pins:List (Addr × Obj)) (s:Shared) (σ:St) (H:Hp) (x:V) (xs:List V) (v:Value) (us:List Value) (Q:VK),Inv X pins σ H s→RelV x v→Vals xs us→r x xs H Q →
  wpAny (model X.prog X.w) X.A (call (.builtin id) (v :: us)) (EP X pins σ Q) X.xe s
section
variable {X:Cx} {a b:Expr} {ta tb:TE} {pos:Pos}
theorem IxR.or {r r':R2} (h:IxR X r) (h':IxR X r'):IxR X (fun x y H Q=>r x y H Q∨r' x y H Q):=by
 intro value slice pins s σ H x y v u Q I rx ry q hs
 rcases q with q | q
 ·exact h value slice pins s σ H x y v u Q I rx ry q hs
 ·exact h' value slice pins s σ H x y v u Q I rx ry q hs
theorem pe_ix {r:R2} (hr:IxR X r) (ha:PE X a ta) (hb:PE X b tb) (hs:PlainIx b):PE X (.Subscript a b pos) (tOp r ta tb):=by
 intro pins s σ H Q I h
 exact Subscript_ (binT ha hb I h fun v u s2 x y H2 I2 rx ry q=>hr a b pins s2 σ H2 x y v u Q I2 rx ry q (hs _ _))
def rIxL (K:PySem.W.Frag):R2:=fun x y H Q=>∃ p xs i v,x = .ref p∧y = .int i∧SqL K H p xs∧atI xs i = some v∧Q v H
def rIxT (K:PySem.W.Frag):R2:=fun x y H Q=>∃ p xs i v,x = .ref p∧y = .int i∧SqT K H p xs∧atI xs i = some v∧Q v H
def rIxS:R2:=fun x y H Q=>∃ z i c,x = .str z∧y = .int i∧z.length ≤ sizeLine∧atI z.cps.toList i = some c∧Q (.str ⟨#[c]⟩) H
theorem ix_list:IxR X (rIxL X.K):=by
 intro value slice pins s σ H x y v u Q I rx ry h hs
 obtain ⟨p,xs,i,z,rfl,rfl,hq,he,q⟩:=h
 cases rx
 obtain ⟨t,rfl⟩:=ry
 obtain ⟨its,r,pl,hz⟩:=I.list hq
 obtain ⟨j,h1,h2,h3,h4,h5⟩:=atI_get he
 obtain ⟨w,ew,rw'⟩:=r.get h2
 have hl:=r.length
 have hn:=line63
 have fin:EP X pins σ Q w s:=⟨z,H,I,rw',q⟩
 by_cases h0:0 ≤ i
 ·have hj:i.toNat = j:=by
   rw [seqIndex_of h0 h5] at h1
   exact Option.some.inj h1
  exact item_listR pl.isList h0 (by omega) (by rw [hj]; simpa using ew) fin hs
 ·have hj:(i + (its.toArray.size:Int)).toNat = j:=by
   rw [seqIndex_neg (by omega) h4] at h1
   rw [List.size_toArray,← hl]
   exact Option.some.inj h1
  exact subscriptTail_builtinR (x:=w) pl.isList.typeIs slot_list_getitem.lookup
   (wpAny_getItem_list_neg (Q:=fun r s'=>r = w∧EP X pins σ Q r s') pl.isList (by omega) (by rw [List.size_toArray] <;> omega) (by omega) (by rw [hj]; simpa using ew) ⟨rfl,fin⟩) hs
theorem ix_tup:IxR X (rIxT X.K):=by
 intro value slice pins s σ H x y v u Q I rx ry h hs
 obtain ⟨p,xs,i,z,rfl,rfl,hq,he,q⟩:=h
 cases rx
 obtain ⟨t,rfl⟩:=ry
 obtain ⟨its,r,pl,hz⟩:=I.tuple hq
 obtain ⟨j,h1,h2,h3,h4,h5⟩:=atI_get he
 obtain ⟨w,ew,rw'⟩:=r.get h2
 have hl:=r.length
 have hn:=line63
 have fin:EP X pins σ Q w s:=⟨z,H,I,rw',q⟩
 exact subscriptTail_builtinR (x:=w) pl.typeIs slot_tuple_getitem.lookup
  (getItem_tuple (j:=j) (Q:=fun r s'=>r = w∧EP X pins σ Q r s') pl (by omega) (by omega) (by rw [List.size_toArray,← hl]; exact h1) (by simpa using ew) ⟨rfl,fin⟩) hs
theorem ix_str:IxR X rIxS:=by
 intro value slice pins s σ H x y v u Q I rx ry h hs
 obtain ⟨z,i,c,rfl,rfl,hz,he,q⟩:=h
 obtain ⟨t,rfl⟩:=rx
 obtain ⟨t',rfl⟩:=ry
 obtain ⟨j,h1,h2,h3,h4,h5⟩:=atI_get he
 have hl:z.cps.toList.length = z.length:=by simp [Str.length]
 rw [hl] at h1 h4 h5
 have hn:=line63
 exact tail_any (typeIs_str s z t) slot_str_getitem.lookup (getItem_str (c:=c) (by
  have e1:decide (i < -(2 ^ 63:Int)) = false:=decide_eq_false (by omega)
  have e2:decide (i ≥ 2 ^ 63) = false:=decide_eq_false (by omega)
  rw [e1,e2,Bool.or_false]) (by rw [h1]; simpa using h2) ⟨.str ⟨#[c]⟩,H,I.tok _,⟨_,rfl⟩,q⟩) hs
def rIx (K:PySem.W.Frag):R2:=fun x y H Q=>rIxL K x y H Q∨rIxT K x y H Q∨rIxS x y H Q
theorem ix_seq:IxR X (rIx X.K):=ix_list.or (ix_tup.or ix_str)
theorem mapSeq_set (its:List Value) (n j:Nat) (u:Value):Obj.mapSeq (·.setIfInBounds j u) { cls:=.type "list",data:=.seq its.toArray n } = { cls:=.type "list",data:=.seq (its.set j u).toArray n }:=by
 simp [Obj.mapSeq]
theorem Inv.lst {pins:List (Addr × Obj)} {σ:St} {H:Hp} {s:Shared} {p:Addr} {xs:List V} (I:Inv X pins σ H s) (h:H p = some (.lst xs)) :
 ∃ (its:List Value) (n:Nat),Vals xs its∧s.heap.get? p = some { cls:=.type "list",data:=.seq its.toArray n }∧xs.length ≤ sizeLine:=by
 obtain ⟨z,its,n,r,e⟩:=I.hok p _ h
 exact ⟨its,n,r,e,z⟩
theorem Inv.lstUpd {pins:List (Addr × Obj)} {σ:St} {H:Hp} {s:Shared} {p:Addr} {xs ys:List V} {its its':List Value} {n n':Nat} {f:Obj→Obj} (I:Inv X pins σ H s) (h:H p = some (.lst xs))
 (ho:s.heap.get? p = some { cls:=.type "list",data:=.seq its.toArray n }) (hf:f { cls:=.type "list",data:=.seq its.toArray n } = { cls:=.type "list",data:=.seq its'.toArray n' }) (r:Vals ys its') (hz:ys.length ≤ sizeLine) (t:Nat) :
 Inv X pins σ (upd H p (.lst ys)) { s with heap:=s.heap.update p f,toks:=t }:=by
 have e:(s.heap.update p f).get? p = some { cls:=.type "list",data:=.seq its'.toArray n' }:=by
  rw [Heap.get?_update_self f ho (by rw [hf] <;> rfl),hf]
 refine I.write (x:=p) (e:=p) (by rw [h]; trivial) (.inl rfl) (fun b u hb q=>(Heap.get?_update_other _ _ (Ne.symm hb)).trans q) ⟨_,e⟩ ?_
 exact ⟨hz,its',n',r,e⟩
def rSetL:V→V→V→Hp→(Hp→Prop)→Prop:=fun o i v H Q=>∃ p xs k j,o = .ref p∧i = .int k∧H p = some (.lst xs)∧ixN xs.length k = some j∧Q (upd H p (.lst (xs.set j v)))
theorem set_list:PSet X rSetL:=by
 intro pins s σ H o i v ov iv u Q I ro ri rv h
 obtain ⟨p,xs,k,j,rfl,rfl,hp,hj,q⟩:=h
 cases ro
 obtain ⟨t,rfl⟩:=ri
 obtain ⟨its,n,r,ho,hz⟩:=I.lst hp
 obtain ⟨h1,h2,h3,h4⟩:=ixN_seq hj
 have hl:=r.length
 have hn:=line63
 have I':Inv X pins σ (upd H p (.lst (xs.set j v))) { s with heap:=s.heap.update p (Obj.mapSeq (·.setIfInBounds j u)) } :=
  I.lstUpd hp ho (mapSeq_set its n j u) (r.set rv j) (by rw [List.length_set]; exact hz) s.toks
 by_cases h0:0 ≤ k
 ·have hk:k.toNat = j:=by
   rw [seqIndex_of h0 h4] at h1
   exact Option.some.inj h1
  exact PySem.W.ki_setAt ho h0 (by omega) (by rw [List.size_toArray,← hl]; exact h4) (by rw [hk]; exact ⟨_,I',q⟩)
 ·have hk:(k + (its.toArray.size:Int)).toNat = j:=by
   rw [seqIndex_neg (by omega) h3] at h1
   rw [List.size_toArray,← hl]
   exact Option.some.inj h1
  exact PySem.W.ki_setBack ho (by omega) (by rw [List.size_toArray,← hl]; exact h3) (by omega) (by rw [hk]; exact ⟨_,I',q⟩)
def flatV:V→Bool
 | .non=>true
 | .bl _=>true
 | .int _=>true
 | .str _=>true
 | _=>false
def eqV:V→V→Bool
 | .non,.non=>true
 | .bl a,.bl b=>a == b
 | .bl a,.int b=>(if a then 1 else 0) == b
 | .int a,.bl b=>a == (if b then 1 else 0)
 | .int a,.int b=>a == b
 | .str a,.str b=>a == b
 | _,_=>false
theorem eqAt_V {A:Around} {s:Shared} {y x:V} {u v:Value} (ry:RelV y u) (rx:RelV x v) (fy:flatV y = true) (fx:flatV x = true):SeqAt.EqAt A s u v (eqV y x):=by
 cases y with
 | non =>
  cases ry
  cases x with
  | non=>cases rx; exact SeqAt.EqAt.same _
  | bl b=>cases rx; exact SeqAt.EqAt.none_bool b
  | int b=>obtain ⟨t,rfl⟩:=rx; exact SeqAt.EqAt.none_int b t
  | str b=>obtain ⟨t,rfl⟩:=rx; exact SeqAt.EqAt.none_str b t
  | _=>exact absurd (show false = true from fx) Bool.false_ne_true
 | bl a =>
  cases ry
  cases x with
  | non=>cases rx; exact SeqAt.EqAt.bool_none a
  | bl b=>cases rx; exact SeqAt.EqAt.bool_bool a b
  | int b=>obtain ⟨t,rfl⟩:=rx; exact SeqAt.EqAt.bool_int a b t
  | str b=>obtain ⟨t,rfl⟩:=rx; exact SeqAt.EqAt.bool_str a b t
  | _=>exact absurd (show false = true from fx) Bool.false_ne_true
 | int a =>
  obtain ⟨t',rfl⟩:=ry
  cases x with
  | non=>cases rx; exact SeqAt.EqAt.int_none a t'
  | bl b=>cases rx; exact SeqAt.EqAt.int_bool a t' b
  | int b=>obtain ⟨t,rfl⟩:=rx; exact SeqAt.EqAt.int_int a t' b t
  | str b=>obtain ⟨t,rfl⟩:=rx; exact SeqAt.EqAt.int_str a t' b t
  | _=>exact absurd (show false = true from fx) Bool.false_ne_true
 | str a =>
  obtain ⟨t',rfl⟩:=ry
  cases x with
  | non=>cases rx; exact SeqAt.EqAt.str_none a t'
  | bl b=>cases rx; exact SeqAt.EqAt.str_bool a t' b
  | int b=>obtain ⟨t,rfl⟩:=rx; exact SeqAt.EqAt.str_int a t' b t
  | str b=>obtain ⟨t,rfl⟩:=rx; exact SeqAt.EqAt.str_str a t' b t
  | _=>exact absurd (show false = true from fx) Bool.false_ne_true
 | _=>exact absurd (show false = true from fy) Bool.false_ne_true
def eqU (x:V) (u:Value):Bool:=match u with
 | .none=>eqV .non x
 | .bool b=>eqV (.bl b) x
 | .int i _=>eqV (.int i) x
 | .str z _=>eqV (.str z) x
 | _=>false
theorem eqU_of {x y:V} {u:Value} (r:RelV y u) (f:flatV y = true):eqU x u = eqV y x:=by
 cases y with
 | non=>cases r; rfl
 | bl b=>cases r; rfl
 | int i=>obtain ⟨t,rfl⟩:=r; rfl
 | str z=>obtain ⟨t,rfl⟩:=r; rfl
 | _=>exact absurd (show false = true from f) Bool.false_ne_true
theorem any_eqU {x:V}:∀ {xs:List V} {us:List Value},Vals xs us→xs.all flatV = true→us.any (eqU x) = xs.any fun y=>eqV y x
 | _,_,.nil,_=>rfl
 | y :: xs,u :: us,.cons r t,f=>by
  rw [List.all_cons,Bool.and_eq_true] at f
  rw [List.any_cons,List.any_cons,eqU_of r f.1,any_eqU t f.2]
theorem mem_eqAt {A:Around} {s:Shared} {x:V} {v:Value} (rx:RelV x v) (fx:flatV x = true):∀ {xs:List V} {us:List Value},Vals xs us→xs.all flatV = true→∀ u ∈ us,SeqAt.EqAt A s u v (eqU x u)
 | _,_,.nil,_=>fun u hu=>by cases hu
 | y :: xs,u :: us,.cons r t,f=>fun u' hu=>by
  rw [List.all_cons,Bool.and_eq_true] at f
  rcases List.mem_cons.mp hu with rfl | hu
  ·rw [eqU_of r f.1]; exact eqAt_V r rx f.1 fx
  ·exact mem_eqAt rx fx t f.2 u' hu
def inV (x:V) (xs:List V):Bool:=xs.any fun y=>eqV y x
def rIn (K:PySem.W.Frag) (neg:Bool):R2:=fun x y H Q=>∃ p xs,y = .ref p∧(SqL K H p xs∨SqT K H p xs)∧flatV x = true∧xs.all flatV = true∧Q (.bl (if neg then !inV x xs else inV x xs)) H
theorem op_in_seq:OpR X (compareOp .In) (rIn X.K false):=by
 intro pins s σ H x y v u Q I rx ry h
 obtain ⟨p,xs,rfl,hq,fx,fs,q⟩:=h
 cases ry
 rcases hq with hq | hq
 ·obtain ⟨its,r,pl,hz⟩:=I.list hq
  refine SeqAt.in_listAt (eqU x) pl.isList (fun w hw=>mem_eqAt rx fx r fs w (by simpa using hw)) ⟨.bl _,H,I,rfl,?_⟩
  rw [show its.toArray.any (eqU x) = its.any (eqU x) by simp,any_eqU r fs]
  exact q
 ·obtain ⟨its,r,pl,hz⟩:=I.tuple hq
  refine SeqAt.in_tupleAt (eqU x) pl (fun w hw=>mem_eqAt rx fx r fs w (by simpa using hw)) ⟨.bl _,H,I,rfl,?_⟩
  rw [show its.toArray.any (eqU x) = its.any (eqU x) by simp,any_eqU r fs]
  exact q
theorem op_notIn_seq:OpR X (compareOp .NotIn) (rIn X.K true):=by
 intro pins s σ H x y v u Q I rx ry h
 obtain ⟨p,xs,rfl,hq,fx,fs,q⟩:=h
 cases ry
 rcases hq with hq | hq
 ·obtain ⟨its,r,pl,hz⟩:=I.list hq
  refine SeqAt.notIn_listAt (eqU x) pl.isList (fun w hw=>mem_eqAt rx fx r fs w (by simpa using hw)) ⟨.bl _,H,I,rfl,?_⟩
  rw [show its.toArray.any (eqU x) = its.any (eqU x) by simp,any_eqU r fs]
  exact q
 ·obtain ⟨its,r,pl,hz⟩:=I.tuple hq
  refine SeqAt.notIn_tupleAt (eqU x) pl (fun w hw=>mem_eqAt rx fx r fs w (by simpa using hw)) ⟨.bl _,H,I,rfl,?_⟩
  rw [show its.toArray.any (eqU x) = its.any (eqU x) by simp,any_eqU r fs]
  exact q
theorem call_list_of:CallR X (.type "list") (fun xs H Q=>∃ p ys,xs = [.ref p]∧(SqL X.K H p ys∨SqT X.K H p ys)∧∀ l,H l = none→Q (.ref l) (upd H l (.lst ys))):=by
 intro pins s σ H xs us Q I r h
 obtain ⟨p,ys,rfl,hq,q⟩:=h
 obtain ⟨u,rfl,rx⟩:=vals1 r
 cases rx
 have fin:∀ (its:List Value),Vals ys its→ys.length ≤ sizeLine→∀ (h':Heap) (c':Nat),(∀ b o',s.heap.get? b = some o'→h'.get? b = some o') →
  h'.get? s.heap.objs.size = some { cls:=.type "list",dict:=none,data:=.seq its.toArray c',slots:=#[] }→EP X pins σ Q (.ref s.heap.objs.size) { s with heap:=h' }:=fun its r' hz h' c' kp e =>
  ⟨.ref s.heap.objs.size,_,I.laid (t':=s.toks) kp (Nat.le_refl _) (show ObjOk X.prog X.w _ h' _ (.lst ys) from ⟨hz,its,c',r',e⟩),rfl,q _ (I.hok.fresh (Nat.le_refl _))⟩
 rcases hq with hq | hq
 ·obtain ⟨its,r',pl,hz⟩:=I.list hq
  have hlen:=r'.length
  obtain ⟨o,ho,hc,n,hd⟩:=pl.isList
  exact call_list_seq p (.inl rfl) ho hc hd (fun h' c' kp e=>fin its r' hz h' c' kp e) (by simp only [List.size_toArray] <;> omega)
 ·obtain ⟨its,r',pl,hz⟩:=I.tuple hq
  have hlen:=r'.length
  obtain ⟨o,ho,hc,n,hd⟩:=pl
  exact call_list_seq p (.inr rfl) ho hc hd (fun h' c' kp e=>fin its r' hz h' c' kp e) (by simp only [List.size_toArray] <;> omega)
theorem call_tuple_of:CallR X (.type "tuple") (fun xs H Q=>∃ p ys,xs = [.ref p]∧((SqL X.K H p ys∧∀ l,H l = none→Q (.ref l) (upd H l (.tup ys)))∨(SqT X.K H p ys∧Q (.ref p) H))):=by
 intro pins s σ H xs us Q I r h
 obtain ⟨p,ys,rfl,h⟩:=h
 obtain ⟨u,rfl,rx⟩:=vals1 r
 cases rx
 rcases h with ⟨hq,q⟩ | ⟨hq,q⟩
 ·obtain ⟨its,r',pl,hz⟩:=I.list hq
  have hlen:=r'.length
  refine call_tuple_list pl.isList (fun h' kp=>?_) (by simp only [List.size_toArray] <;> omega)
  have I1:Inv X pins σ H { s with heap:=h' }:=I.kept (t':=s.toks) kp
  have I2:Inv X pins σ (upd H h'.objs.size (.tup ys)) { s with heap:=h'.push { cls:=.type "tuple",data:=.seq its.toArray } } :=
   I1.laid (t':=s.toks) (fun b o e=>Heap.get?_push_of_some _ e) (Nat.le_refl _) (show ObjOk X.prog X.w _ _ _ (.tup ys) from ⟨hz,its,r',FT.IsTup0.new _ _⟩)
  exact ⟨.ref h'.objs.size,_,I2,rfl,q _ (I1.hok.fresh (Nat.le_refl _))⟩
 ·obtain ⟨its,r',pl,hz⟩:=I.tuple hq
  exact call_tuple_same pl ⟨.ref p,H,I,rfl,q⟩
def tyV (K:PySem.W.Frag) (T:String) (x:V) (H:Hp):Prop:=match x with
 | .str _=>T = "str"
 | .int _=>T = "int"
 | .ref p=>(T = "list"∧∃ xs,SqL K H p xs)∨(T = "tuple"∧∃ o,K.lookup p = some o∧o.cls = .type "tuple"∧o.dict = none) ∨
  (T = "dict"∧((∃ kvs,H p = some (.dK kvs))∨∃ kvs,H p = some (.dT kvs)))∨(T = "set"∧∃ ks,H p = some (.set ks))
 | _=>False
theorem tyV_is {pins:List (Addr × Obj)} {σ:St} {H:Hp} {s:Shared} {T:String} {x:V} {v:Value} (I:Inv X pins σ H s) (r:RelV x v) (ty:tyV X.K T x H) :
 s.TypeIs v T∧∀ a,v = .ref a→∃ ob,s.heap.get? a = some ob∧ob.dict = none:=by
 cases x with
 | str z =>
  obtain ⟨t,rfl⟩:=r
  cases (show T = "str" from ty)
  exact ⟨typeIs_str s z t,fun _ e=>nomatch e⟩
 | int i =>
  obtain ⟨t,rfl⟩:=r
  cases (show T = "int" from ty)
  exact ⟨typeIs_int s i t,fun _ e=>nomatch e⟩
 | ref p =>
  cases r
  rcases ty with ⟨rfl,xs,hq⟩ | ⟨rfl,o,hk,hc,hd⟩ | ⟨rfl,hk⟩ | ⟨rfl,ks,hk⟩
  ·obtain ⟨its,_,pl,_⟩:=I.list hq
   refine ⟨pl.isList.typeIs,fun a e=>?_⟩
   cases e
   obtain ⟨o,n,e,c,hd,_⟩:=pl
   exact ⟨o,e,hd⟩
  ·refine ⟨⟨o,I.kIn p o hk,hc⟩,fun a e=>?_⟩
   cases e
   exact ⟨o,I.kIn _ o hk,hd⟩
  ·have z:∃ o,s.heap.get? p = some o∧o.ExactDict:=by
    rcases hk with ⟨kvs,hk⟩ | ⟨kvs,hk⟩
    ·obtain ⟨_,_,_,_,o,_,_,e,ex,_⟩:=I.hok p _ hk
     exact ⟨o,e,ex⟩
    ·obtain ⟨_,_,_,_,o,_,_,e,ex,_⟩:=I.hok p _ hk
     exact ⟨o,e,ex⟩
   obtain ⟨o,e,ex⟩:=z
   refine ⟨⟨o,e,ex.1⟩,fun a e2=>?_⟩
   cases e2
   exact ⟨o,e,ex.2.1⟩
  ·obtain ⟨o,_,_,_,_,e,ex,_⟩:=I.hok p _ hk
   refine ⟨⟨o,e,ex.1⟩,fun a e2=>?_⟩
   cases e2
   exact ⟨o,e,ex.2.1⟩
 | _=>exact False.elim ty
def tBM0 (K:PySem.W.Frag) (T:String) (r:V→List V→Hp→VK→Prop) (to:TE):TE:=fun σ H Q=>to σ H fun x H1=>tyV K T x H1∧r x [] H1 Q
def tBM (K:PySem.W.Frag) (T:String) (r:V→List V→Hp→VK→Prop) (to:TE) (t:TA):TE:=fun σ H Q=>to σ H fun x H1=>tyV K T x H1∧t σ H1 fun xs H2=>r x xs H2 Q
variable {o e:Expr} {es:List Expr} {to:TE} {t:TA} {name:Str} {apos cpos:Pos} {T id:String} {r:V→List V→Hp→VK→Prop}
theorem pe_bm0 (pa:PlainAttrs T) (slot:Slot T name id) (hty:typeOf (.builtin id) = pure (.type "method_descriptor")) (hm:MtR X id r) (ho:PE X o to)
 (hbase:attributeBase o name X.env (eval o X.env) = eval o X.env:=by rfl) (hline:(apos.endLine == cpos.line) = true:=by rfl):PE X (.Call (.Attribute o name apos) [] [] cpos) (tBM0 X.K T r to):=by
 intro pins s σ H Q I h
 refine wpAny_Call_method0_late hbase hline (thn (ho pins s σ H _ I h) fun v s1 ⟨x,H1,I1,r1,ty,q1⟩=>?_)
 obtain ⟨h1,h2⟩:=tyV_is I1 r1 ty
 exact ⟨T,id,pa,slot,hty,h1,h2,Calls.callWith_builtin rfl (PySem.evalArgs_none (hm pins s1 σ H1 x [] v [] Q I1 r1 .nil q1))⟩
theorem pe_bm (pa:PlainAttrs T) (slot:Slot T name id) (hty:typeOf (.builtin id) = pure (.type "method_descriptor")) (hm:MtR X id r) (ho:PE X o to) (ha:PA X (e :: es) t)
 (hbase:attributeBase o name X.env (eval o X.env) = eval o X.env:=by rfl)
 (hfew:((backTo cpos (starEach (e :: es) X.env)).all (fun x=>!x.1) && (backToKw cpos (keywordEach [] X.env)).all (fun x=>x.1.isSome)
  && decide ((e :: es).length + ([]:List Keyword).length + (if ([]:List Keyword).isEmpty then 0 else 1) < 30)) = true:=by rfl)
 (hline:(apos.endLine == cpos.line) = true:=by rfl) (hs:starEach (e :: es) X.env = (false,eval e X.env) :: starEach es X.env:=by rfl) (hplain:(backTo cpos (starEach es X.env)).any (·.1) = false:=by rfl) :
 PE X (.Call (.Attribute o name apos) (e :: es) [] cpos) (tBM X.K T r to t):=by
 intro pins s σ H Q I h
 refine wpAny_Call_method_late hbase hfew hline rfl (thn (ho pins s σ H _ I h) fun v s1 ⟨x,H1,I1,r1,ty,q1⟩=>?_)
 obtain ⟨h1,h2⟩:=tyV_is I1 r1 ty
 refine ⟨T,id,pa,slot,hty,h1,h2,?_⟩
 have hA:=ha cpos pins s1 σ H1 _ I1 q1
 rw [hs] at hA ⊢
 refine Calls.callWith_builtin (by show (false || (backTo cpos (starEach es X.env)).any (·.1)) = false; rw [hplain] <;> rfl) (Calls.evalArgs_plain ?_)
 exact thn hA fun us s2 ⟨vs,H2,I2,r2,q2⟩=>hm pins s2 σ H2 x vs v us Q I2 r1 r2 q2
end
def MtM (X:Cx) (id:String) (r:V→List V→Hp→VK→Prop):Prop :=
 ∀ (pins:List (Addr × Obj)) (s:Shared) (σ:St) (H:Hp) (x:V) (xs:List V) (v:Value) (us:List Value) (Q:VK),Inv X pins σ H s→RelV x v→Vals xs us→r x xs H Q →
  wpAny (model X.prog X.w) X.A (call (.builtin id) (v :: us)) (EP X pins σ Q) X.xe s
theorem Vals.one:∀ {x:V} {us:List Value},Vals [x] us→∃ u,us = [u]∧RelV x u
 | _,_,.cons r .nil=>⟨_,rfl,r⟩
theorem Vals.zero:∀ {us:List Value},Vals [] us→us = []
 | _,.nil=>rfl
theorem Vals.dropLast {xs:List V} {us:List Value} (h:Vals xs us):Vals xs.dropLast us.dropLast:=by
 induction h with
 | nil=>exact .nil
 | cons r t ih =>
  cases t with
  | nil=>exact .nil
  | cons q t'=>exact .cons r ih
theorem Vals.eraseIdx:∀ {xs:List V} {us:List Value} (i:Nat),Vals xs us→Vals (xs.eraseIdx i) (us.eraseIdx i)
 | _,_,_,.nil=>.nil
 | _,_,0,.cons _ t=>t
 | _,_,i + 1,.cons r t=>.cons r (Vals.eraseIdx i t)
theorem Vals.rep {xs:List V} {us:List Value} (h:Vals xs us):∀ k:Nat,Vals (List.replicate k xs).flatten (List.replicate k us).flatten
 | 0=>.nil
 | k + 1=>by
  rw [List.replicate_succ,List.replicate_succ,List.flatten_cons,List.flatten_cons]
  exact Vals.append h (Vals.rep h k)
theorem erase_last {α:Type} (l:List α):l.eraseIdx (l.length - 1) = l.dropLast:=by
 induction l with
 | nil=>rfl
 | cons a r ih =>
  cases r with
  | nil=>rfl
  | cons b r =>
   have e:(a :: b :: r).length - 1 = ((b :: r).length - 1) + 1:=by
    have h1:(a :: b :: r).length = r.length + 2:=rfl
    have h2:(b :: r).length = r.length + 1:=rfl
    omega
   rw [e,List.eraseIdx_cons_succ,ih]
   all_goals rfl
theorem len_erase {α:Type}:∀ (l:List α) (i:Nat),(l.eraseIdx i).length ≤ l.length
 | [],_=>Nat.le_refl _
 | _ :: _,0=>Nat.le_succ _
 | _ :: r,i + 1=>Nat.succ_le_succ (len_erase r i)
theorem foldl_rep (its:List Value):∀ (k:Nat) (acc:List Value),
 List.foldl (fun x1 x2=>x1++x2) acc.toArray (List.replicate k its.toArray) = (acc++(List.replicate k its).flatten).toArray
 | 0,acc=>by simp
 | k + 1,acc=>by
  have e:acc.toArray++its.toArray = (acc++its).toArray:=by simp
  have e2:(acc++its)++(List.replicate k its).flatten = acc++(List.replicate (k + 1) its).flatten:=by
   rw [List.replicate_succ,List.flatten_cons,List.append_assoc]
  rw [← e2,← foldl_rep its k (acc++its),← e,List.replicate_succ,List.foldl_cons]
section
variable {X:Cx} {pins:List (Addr × Obj)} {σ:St} {H:Hp} {s:Shared} {l b:Addr} {xs ys zs:List V}
theorem Inv.lset {its its':List Value} {n:Nat} {f:Array Value→Array Value} {t':Nat} (I:Inv X pins σ H s) (hH:H l = some (.lst xs))
 (e:s.heap.get? l = some { cls:=.type "list",data:=.seq its.toArray n }) (hf:f its.toArray = its'.toArray) (hv:Vals ys its') (hz:ys.length ≤ sizeLine) :
 Inv X pins σ (upd H l (.lst ys)) { s with heap:=s.heap.update l (Obj.mapSeq f),toks:=t' }:=by
 have q:=PySem.IsL.update e f
 rw [hf] at q
 refine I.write (x:=l) (e:=l) (by rw [hH]; exact trivial) (.inl rfl) (fun b' u hb hu=>(Heap.get?_update_other s.heap (Obj.mapSeq f) (Ne.symm hb)).trans hu) ⟨_,q⟩ ?_
 exact ⟨hz,its',_,hv,q⟩
theorem Inv.lnew {its:List Value} {t':Nat} (I:Inv X pins σ H s) (hv:Vals ys its) (hz:ys.length ≤ sizeLine) :
 Inv X pins σ (upd H s.heap.objs.size (.lst ys)) { s with heap:=s.heap.push { cls:=.type "list",data:=.seq its.toArray },toks:=t' } :=
 I.laid (fun _ _ q=>Heap.get?_push_of_some _ q) (Nat.le_refl _) ⟨hz,its,0,hv,Heap.get?_push_size _ rfl⟩
theorem Inv.fresh (I:Inv X pins σ H s):H s.heap.objs.size = none:=I.hok.fresh (Nat.le_refl _)
theorem Inv.lstM (I:Inv X pins σ H s) (hH:H l = some (.lst xs)):xs.length ≤ sizeLine∧∃ (its:List Value) (n:Nat),Vals xs its∧xs.length = its.length∧s.heap.get? l = some { cls:=.type "list",data:=.seq its.toArray n }:=by
 obtain ⟨z,its,n,r,e⟩:=I.hok l _ hH
 exact ⟨z,its,n,r,r.length,e⟩
theorem notLongL {n:Nat} (h:n ≤ sizeLine):Builtin.List.listTooLong n = false:=by
 unfold Builtin.List.listTooLong
 exact decide_eq_false (by omega)
end
section
variable {X:Cx}
def rAppend:V→List V→Hp→VK→Prop:=fun x vs H Q=>∃ l xs y,x = .ref l∧vs = [y]∧H l = some (.lst xs)∧xs.length < sizeLine∧Q .non (upd H l (.lst (xs++[y])))
theorem mt_append:MtM X "list.append" rAppend:=by
 intro pins s σ H x vs v us Q I rx rv h
 obtain ⟨l,xs,y,rfl,rfl,hH,hz,q⟩:=h
 cases rx
 obtain ⟨u,rfl,ru⟩:=rv.one
 obtain ⟨z,its,n,r,hl,e⟩:=I.lstM hH
 refine call_meets F.slot_list_append ⟨_,e,rfl⟩ F.entry_list_append (F.args_list_append_2 _ _) (PySem.list_append l its.toArray n u (by rw [List.size_toArray]; omega)) ⟨e,?_⟩
 refine ⟨.non,_,I.lset (its':=its++[u]) hH e (by simp) (r.append (.cons ru .nil)) ?_,rfl,q⟩
 rw [List.length_append,List.length_singleton]
 omega
def rExtend:V→List V→Hp→VK→Prop:=fun x vs H Q=>∃ l b xs zs,x = .ref l∧vs = [.ref b]∧H l = some (.lst xs)∧H b = some (.lst zs)∧xs.length + zs.length ≤ sizeLine∧Q .non (upd H l (.lst (xs++zs)))
theorem mt_extend:MtM X "list.extend" rExtend:=by
 intro pins s σ H x vs v us Q I rx rv h
 obtain ⟨l,b,xs,zs,rfl,rfl,hH,hB,hz,q⟩:=h
 cases rx
 obtain ⟨u,rfl,ru⟩:=rv.one
 cases ru
 obtain ⟨z,its,n,r,hl,e⟩:=I.lstM hH
 obtain ⟨z2,its2,n2,r2,hl2,e2⟩:=I.lstM hB
 have hsz:its.toArray.size + its2.toArray.size ≤ sizeLine:=by rw [List.size_toArray,List.size_toArray]; omega
 have hlong:¬ (!its.toArray.isEmpty && Builtin.List.listTooLong (its.toArray.size + its2.toArray.size)) = true:=by
  rw [notLongL hsz,Bool.and_false]
  exact Bool.false_ne_true
 refine call_meets F.slot_list_extend ⟨_,e,rfl⟩ F.entry_list_extend (F.args_list_extend_2 _ _)
  (AutoSeq1.list_extend_list_list_0 l its.toArray n b its2.toArray n2 hlong (by rw [List.size_toArray]; omega) (by omega)) ⟨e,e2,?_⟩
 refine ⟨.non,_,I.lset (its':=its++its2) hH e (by simp) (r.append r2) ?_,rfl,q⟩
 rw [List.length_append]
 omega
def rPop:V→List V→Hp→VK→Prop:=fun x vs H Q=>∃ l xs y,x = .ref l∧vs = []∧H l = some (.lst xs)∧xs[xs.length - 1]? = some y∧Q y (upd H l (.lst xs.dropLast))
theorem mt_pop:MtM X "list.pop" rPop:=by
 intro pins s σ H x vs v us Q I rx rv h
 obtain ⟨l,xs,y,rfl,rfl,hH,hy,q⟩:=h
 cases rx
 have hus:=rv.zero
 subst hus
 obtain ⟨z,its,n,r,hl,e⟩:=I.lstM hH
 obtain ⟨u,hu,ru⟩:=r.get hy
 have hy':its.toArray[its.toArray.size - 1]? = some u:=by
  show its.toArray[its.length - 1]? = some u
  rw [← Array.getElem?_toList,← hl]
  exact hu
 refine call_meets F.slot_list_pop ⟨_,e,rfl⟩ F.entry_list_pop (F.args_list_pop_1 _) (MeetsSeq.list_pop_last l its.toArray n u hy' (by rw [List.size_toArray]; omega)) ⟨e,?_⟩
 refine ⟨y,_,I.lset (its':=its.dropLast) hH e ?_ r.dropLast ?_,ru,q⟩
 ·show its.toArray.eraseIdxIfInBounds (its.toArray.size - 1) = its.dropLast.toArray
  rw [List.size_toArray,List.eraseIdxIfInBounds_toArray,erase_last]
 ·rw [List.length_dropLast]
  omega
def rPopAt:V→List V→Hp→VK→Prop:=fun x vs H Q=>∃ l xs i k y,x = .ref l∧vs = [.int i]∧H l = some (.lst xs)∧-(2 ^ 63) ≤ i∧i < 2 ^ 63∧seqIndex? i xs.length = some k∧xs[k]? = some y∧Q y (upd H l (.lst (xs.eraseIdx k)))
theorem mt_popAt:MtM X "list.pop" rPopAt:=by
 intro pins s σ H x vs v us Q I rx rv h
 obtain ⟨l,xs,i,k,y,rfl,rfl,hH,h1,h2,hk,hy,q⟩:=h
 cases rx
 obtain ⟨u,rfl,ru⟩:=rv.one
 obtain ⟨t,rfl⟩:=ru
 obtain ⟨z,its,n,r,hl,e⟩:=I.lstM hH
 obtain ⟨w,hw,rw'⟩:=r.get hy
 refine call_meets F.slot_list_pop ⟨_,e,rfl⟩ F.entry_list_pop (F.args_list_pop_2 _ _)
  (MeetsSeq.list_pop_at l its.toArray n i t k w (fitsIndex_both h1 h2) (by rw [List.size_toArray,← hl]; exact hk) (by rw [← Array.getElem?_toList]; exact hw) (by rw [List.size_toArray]; omega)) ⟨e,?_⟩
 refine ⟨y,_,I.lset (its':=its.eraseIdx k) hH e ?_ (r.eraseIdx k) ?_,rw',q⟩
 ·show its.toArray.eraseIdxIfInBounds k = (its.eraseIdx k).toArray
  rw [List.eraseIdxIfInBounds_toArray]
 ·have:=len_erase xs k
  omega
def rClear:V→List V→Hp→VK→Prop:=fun x vs H Q=>∃ l xs,x = .ref l∧vs = []∧H l = some (.lst xs)∧Q .non (upd H l (.lst []))
theorem mt_clear:MtM X "list.clear" rClear:=by
 intro pins s σ H x vs v us Q I rx rv h
 obtain ⟨l,xs,rfl,rfl,hH,q⟩:=h
 cases rx
 have hus:=rv.zero
 subst hus
 obtain ⟨z,its,n,r,hl,e⟩:=I.lstM hH
 refine call_meets F.slot_list_clear ⟨_,e,rfl⟩ F.entry_list_clear (F.args_list_clear_1 _) (AutoSeq1.list_clear_list_0 l its.toArray n (by rw [List.size_toArray]; omega)) ⟨e,?_⟩
 exact ⟨.non,_,I.lset (its':=[]) (ys:=[]) hH e rfl .nil (Nat.zero_le _),rfl,q⟩
def rCat:R2:=fun x y H Q=>∃ l b xs zs,x = .ref l∧y = .ref b∧H l = some (.lst xs)∧H b = some (.lst zs)∧xs.length + zs.length ≤ sizeLine∧∀ p,H p = none→Q (.ref p) (upd H p (.lst (xs++zs)))
theorem op_cat:OpR X (binaryOp .Add) rCat:=by
 intro pins s σ H x y v u Q I rx ry h
 obtain ⟨l,b,xs,zs,rfl,rfl,hH,hB,hz,q⟩:=h
 cases rx
 cases ry
 obtain ⟨z,its,n,r,hl,e⟩:=I.lstM hH
 obtain ⟨z2,its2,n2,r2,hl2,e2⟩:=I.lstM hB
 refine PySem.P.add_list e e2 ?_ (by rw [List.size_toArray,List.size_toArray]; omega)
 have ea:its.toArray++its2.toArray = (its++its2).toArray:=by simp
 rw [ea]
 exact ⟨.ref _,_,I.lnew (t':=s.toks) (r.append r2) (by rw [List.length_append]; omega),rfl,q _ I.fresh⟩
def rRep:R2:=fun x y H Q=>∃ l k xs,x = .ref l∧y = .int k∧H l = some (.lst xs)∧-(2 ^ 63) ≤ k∧k < 2 ^ 63∧xs.length * k.toNat ≤ sizeLine ∧
 ∀ p,H p = none→Q (.ref p) (upd H p (.lst (List.replicate k.toNat xs).flatten))
theorem len_rep {α:Type} (xs:List α) (k:Nat):(List.replicate k xs).flatten.length = k * xs.length:=by
 induction k with
 | zero=>simp
 | succ k ih=>rw [List.replicate_succ,List.flatten_cons,List.length_append,ih,Nat.succ_mul,Nat.add_comm]
theorem op_rep:OpR X (binaryOp .Mult) rRep:=by
 intro pins s σ H x y v u Q I rx ry h
 obtain ⟨l,k,xs,rfl,rfl,hH,h1,h2,hz,q⟩:=h
 cases rx
 obtain ⟨t,rfl⟩:=ry
 obtain ⟨z,its,n,r,hl,e⟩:=I.lstM hH
 have hlen:its.toArray.size * k.toNat ≤ sizeLine:=by rw [List.size_toArray,← hl]; exact hz
 have hcap:¬ its.toArray.size * k.toNat > (2 ^ 63 - 1) / 8:=by
  have:(sizeLine:Nat) ≤ (2 ^ 63 - 1) / 8:=by decide
  omega
 have hfit:¬ (!Builtin.List.listFitsIndex k) = true:=by
  rw [fitsIndex_both h1 h2]
  exact Bool.false_ne_true
 have hlong:¬ Builtin.List.listTooLong (its.toArray.size * k.toNat) = true:=by
  rw [notLongL hlen]
  exact Bool.false_ne_true
 have hnew:List.foldl (fun x1 x2=>x1++x2) #[] (List.replicate (if its.toArray.isEmpty = true then 0 else k.toNat) its.toArray) = (List.replicate k.toNat its).flatten.toArray:=by
  have f0:∀ m:Nat,List.foldl (fun x1 x2=>x1++x2) #[] (List.replicate m its.toArray) = (List.replicate m its).flatten.toArray:=fun m=>by
   have:=foldl_rep its m []
   rw [List.nil_append] at this
   exact this
  rw [f0]
  cases its with
  | nil=>simp
  | cons a r'=>rw [if_neg (by simp)]
 refine wpAny_binaryOp_repeat_ref (T:="list") (U:="int") (by decide) ⟨_,e,rfl⟩ (fun s'=>typeIs_int s' k t) noFill_list_mul F.fills_int_mul F.slot_int_rmul repeat_list F.slot_int_index.lookup
  (call_meets F.slot_int_rmul (typeIs_int s k t) F.entry_int_rmul (F.args_int_rmul_2 _ _) (int___rmul___int_list k t l its.toArray n)
   ⟨e,rfl,⟨_,e,rfl⟩,call_meets F.slot_list_mul ⟨_,e,rfl⟩ F.entry_list_mul (F.args_list_mul_2 _ _) (AutoListH.list___mul___list_int_3 l its.toArray n k t hfit hcap hlong) ⟨e,?_⟩⟩)
 rw [hnew]
 exact ⟨.ref _,_,I.lnew (t':=s.toks) (r.rep k.toNat) (by rw [len_rep,Nat.mul_comm]; exact hz),rfl,q _ I.fresh⟩
end
section
variable {prog:Program} {w:World} {A:Around} {E:Value→Shared→Prop} {s:Shared}
end
section
variable {X:Cx}
end
end L2
namespace Att
open PySem PySem.W PySem.Calls PyProof.Rows
theorem ints_of_wellAll {P:Params} {h:Heap}:∀ (ns:List Int) (vs:List Value),WellAll P h vs (ns.map WData.int)→IntsAre vs ns:=by
 intro ns
 induction ns with
 | nil =>
  intro vs w
  rw [List.map_nil] at w
  cases w
  exact .nil
 | cons n ns ih =>
  intro vs w
  rw [List.map_cons] at w
  cases w with
  | cons a b =>
   cases a
   exact .cons _ _ (ih _ b)
theorem script_of {l:OpenLaw} {n:Nat} (hn:l.most = some n) {P:Params} {h:Heap} {args:List WData} {vals:List Value}
 (hpre:l.row.toRowW.claim.pre args = true) (hwl:WellAll P h vals args) :
 ∃ a vs ns,vals = [Value.ref a]∧args = [WData.list (ns.map WData.int)]∧h.get? a = some { cls:=.type "list",data:=.seq vs.toArray }∧IntsAre vs ns∧ns.length ≤ n:=by
 have hsh:WShape.hasAll [] args [.list .int] = true:=(pre_splitW hpre).1
 have hc:l.pre.holds [] { args:=args } = true:=(pre_splitW hpre).2
 obtain ⟨d,r,rfl,h1,h2⟩:=hasAllW_cons hsh
 obtain rfl:=hasAllW_nil h2
 obtain ⟨xs,rfl,h3⟩:=hasW_list h1
 obtain ⟨ns,rfl⟩:=items_int h3
 have hlen:ns.length ≤ n:=by
  unfold OpenLaw.pre at hc
  have h4:(WTm.not (.lt (.lit (.int (n:Int))) (.len (.arg 0)))).holds [] { args:=[.list (ns.map .int)] } = true:=by
   have h4:=(holds_andW hc).1
   rw [hn] at h4
   exact h4
  have h5:=condW_of h4 (w_not (w_lt w_lit (w_len_list (w_arg rfl))))
  rw [List.length_map] at h5
  refine Nat.le_of_not_lt fun q=>?_
  have q':(n:Int) < ((ns.length:Nat):Int):=by omega
  first
   | (rw [decide_eq_true q'] at h5; exact absurd h5 (by decide))
   | (simp at h5; omega)
 cases hwl with
 | cons w1 w2 =>
  cases w2
  cases w1 with
  | list ho hall=>exact ⟨_,_,ns,rfl,rfl,ho,ints_of_wellAll ns _ hall,hlen⟩
theorem post_true (l:OpenLaw) (args:List WData):l.row.toRowW.claim.post args (.bool true) args = true :=
 postW_of (r:=l.row.toRowW) (X:=(true == true))
  (show WShape.has [] (.bool true) .bool = true by first | rfl | decide | simp [WShape.has,WShape.arms,WShape.armsAll])
  (show (WTm.eq .res (.lit (.bool true))).value [] { args:=args,res:=some (.bool true),after:=args } = some (.bool (true == true)) from w_eq_bool (w_res rfl) w_lit) rfl
theorem attach_call {l:OpenLaw} {n:Nat} {q:Program} {loose:List Str} {XP:(Str→Option Value)→Heap→Prop} {YP:World→Heap→Prop} {d:DefRec}
 (hn:l.most = some n) (hdf:d.params.defaults = [])
 (call:∀ (w:World) (s₀ s₁:Shared) (mg mb:Str→Option Value) (fa:Addr) (o:Obj) (pm cd doc:Value) (a:Addr) (vs:List Value) (ns:List Int),
  Ground q loose [] XP w s₀ mg mb s₁.heap→YP w s₁.heap →
  s₁.heap.get? fa = some o→o.data = .func (docDef d.name d.params d.body d.scope pm cd doc)→s₁.heap.CodeRec cd d.name→mg d.name = some (.ref fa) →
  s₁.heap.get? a = some { cls:=.type "list",data:=.seq vs.toArray }→IntsAre vs ns→ns.length ≤ n→s₁.gens = #[] →
  codeAny (model l.prog w) callerA (.call (.ref fa) ⟨[.ref a],[]⟩) (fun r s'=>r = .ok (.ret (.bool true))∧OldK s₁.heap s'.heap∧s'.os = s₁.os∧AllBare s'.gens) s₁) :
 WalkO q loose XP YP l.row.toRowW d [] (fun f vs=>PySem.call f vs):=by
 intro w s₀ s₁ mg mb G Y fa o pm cd doc dV kV ho hd hcd hD hmg hg args vals as hpre hlay hrd hwl hlo
 obtain rfl:dV = .none:=Dflts.none hD hdf
 obtain rfl:kV = .none:=Dflts.noKw hD
 obtain ⟨a,vs,ns,rfl,rfl,hobj,hints,hlen⟩:=script_of hn hpre hwl
 refine enter_call (codeAny_mono (call w s₀ s₁ mg mb fa o pm cd doc a vs ns G Y ho (fd_plain hd) hcd hmg hobj hints hlen hg) fun r s' hq=>?_)
 obtain ⟨rfl,h2,h3,h4⟩:=hq
 exact ⟨.inl ⟨.bool true,.bool true,[],rfl,fun _=>rfl,.bool true,post_true l _,fun _=>⟨List.Pairwise.nil,fun _ hm=>(nomatch hm)⟩⟩,h2,h3,h4⟩
section
variable {prog:Program} {w:World} {A:Around} {E:Value→Shared→Prop} {s:Shared} {K:Frag}
end
end Att
namespace L2
open PySem PySem.Spec PyProof.Rows
theorem vals_ints:∀ {vs:List Value} {ns:List Int},IntsAre vs ns→Vals (ns.map V.int) vs
 | _,_,.nil=>.nil
 | _,_,.cons n t h=>.cons ⟨t,rfl⟩ (vals_ints h)
def Only (H:Hp):Prop:=∀ b,H b = none∨∃ o xs,H b = some (.frz o (.lst xs))
theorem law_call {P:Program} {w:World} {K:PySem.W.Frag} {mg mb:Str→Option Value} {CX:CXT} {k:Nat} {fa a:Addr} {fd:FuncData} {x:Str} {sp:Sp} {s₁:Shared} {vs:List Value} {ns:List Int}
 (KX:K.In s₁.heap) (hns:s₁.heap.Ns mainGlobals mg) (hb:s₁.heap.Ns builtinsNs mb) (hbb:∀ x:Str,x ≠ "__name__"→mb x = bootBuiltins x) (hlim:s₁.heap.NoLimit) (hg:s₁.gens = #[])
 (ha:s₁.heap.get? a = some { cls:=.type "list",data:=.seq vs.toArray }) (hi:IntsAre vs ns) (hl:ns.length ≤ sizeLine) (hr:Room k callerA)
 (F:∀ base:Heap,K.In base→base.Ns mainGlobals mg→FnOk P w K mg base CX k fa fd [x] sp) (hbind:∀ (s:Shared) (u:Value),BindsTo s fd ⟨[u],[]⟩ [(x,u)])
 (hsp:∀ H:Hp,Only H→SqL K H a (ns.map V.int)→sp [.ref a] H (fun v _=>v = .bl true) fun _ _ _=>False)
 (hCX:∀ H e s',CX [] H s₁ (fun _ _ _=>False) e s'→False) :
 codeAny (model P w) callerA (.call (.ref fa) ⟨[.ref a],[]⟩) (fun r s'=>r = .ok (.ret (.bool true))∧OldK s₁.heap s'.heap∧s'.os = s₁.os∧AllBare s'.gens) s₁:=by
 have rv:=vals_ints hi
 have lenV:=hi.length
 have core:∀ H:Hp,Only H→SqL K H a (ns.map V.int)→HOk P w H s₁.heap→(∀ b,H b ≠ none→b = a)→(H a ≠ none→K.lookup a = none) →
  codeAny (model P w) callerA (.call (.ref fa) ⟨[.ref a],[]⟩) (fun r s'=>r = .ok (.ret (.bool true))∧OldK s₁.heap s'.heap∧s'.os = s₁.os∧AllBare s'.gens) s₁:=by
  intro H hO hS hok hA hK
  have base_of:∀ {b:Addr} {o:Obj},s₁.heap.get? b = some o→H b = none→(hidT s₁.heap H).get? b = some o:=fun e n=>hidT_get e n
  have noA:∀ {b:Addr} {o:Obj} {es:Array DictEntry} {ep:Nat},s₁.heap.get? b = some o→o.data = .dict es ep→H b = none:=fun {b o es ep} e d=>by
   cases q:H b with
   | none=>rfl
   | some u =>
    have e':b = a:=hA b (by rw [q]; simp)
    subst e'
    rw [ha] at e; cases e
    have d':Data.seq vs.toArray _ = Data.dict es ep:=d
    cases d'
  have nsK:∀ {b:Addr} {m:Str→Option Value},s₁.heap.Ns b m→(hidT s₁.heap H).Ns b m:=fun {b m} ⟨o,es,ep,e,d,r⟩=>⟨o,es,ep,base_of e (noA e d),d,r⟩
  have hKb:K.In (hidT s₁.heap H):=fun b o e=>base_of (KX b o e) (by
   cases q:H b with
   | none=>rfl
   | some u =>
    have e':b = a:=hA b (by rw [q]; simp)
    subst e'
    rw [hK (by rw [q]; simp)] at e; cases e)
  have hM:Mod K mg (hidT s₁.heap H):=⟨hKb,nsK hns,⟨mb,nsK hb,hbb⟩,let ⟨mc,h1,h2⟩:=hlim; ⟨mc,nsK h1,h2⟩⟩
  have e0:Env0 P w K mg (hidT s₁.heap H) callerA [] s₁ H:=⟨rfl,hM,fun b o e=>of_hidT e,Nat.le_of_eq (hidT_size _ _),trivial,fun b hb=>absurd (show b ∈ ([]:List Addr) from hb) (by simp),hok,.of_eq hg⟩
  refine codeAny_mono ((F _ hKb (nsK hns)).run callerA [] s₁ H ⟨[.ref a],[]⟩ [.ref a] [.ref a] _ _ hr e0 (hbind s₁ (.ref a)) (.cons rfl .nil) (hsp H hO hS)) fun r s' h=>?_
  cases r with
  | error e=>exact (hCX H e s' h).elim
  | ok fl =>
   cases fl with
   | next=>exact False.elim h
   | brk=>exact False.elim h
   | cont=>exact False.elim h
   | ret u =>
    obtain ⟨v,H',os,bare,un,hok',r',q⟩:=h
    have q':v = .bl true:=q
    subst q'
    obtain rfl:u = Value.bool true:=r'
    refine ⟨rfl,OldK.of_keep fun b o e=>?_,os,bare⟩
    cases q:H b with
    | none=>exact un.keep b o e q (by intro z; exact absurd (show b ∈ ([]:List Addr) from z) (by simp)) (by simp)
    | some u =>
     rcases hO b with z | ⟨ob,xs,z⟩
     ·rw [q] at z; cases z
     ·have z2:=un.frzs b ob _ z
      obtain ⟨e1,_⟩:=hok b _ z
      obtain ⟨e2,_⟩:=hok' b _ z2
      rw [e] at e1; cases e1
      exact e2
 cases hk:K.lookup a with
 | some o =>
  have e:=KX a o hk
  rw [ha] at e
  cases e
  refine core (fun _=>none) (fun _=>.inl rfl) (.inr ⟨_,vs.toArray,_,hk,rfl,rfl,rfl,by rw [List.size_toArray,lenV]; exact hl,by simpa using rv⟩) (fun b u z=>by have z':(none:Option HO) = some u:=z; cases z') (fun b z=>absurd rfl z) fun z=>absurd rfl z
 | none =>
  refine core (fun b=>if b = a then some (.frz { cls:=.type "list",data:=.seq vs.toArray } (.lst (ns.map V.int))) else none) (fun b=>?_) (.inl (.inr ⟨{ cls:=.type "list",data:=.seq vs.toArray },if_pos rfl⟩)) (fun b u z=>?_) (fun b z=>?_) fun _=>hk
  ·by_cases hb:b = a
   ·exact .inr ⟨_,_,if_pos hb⟩
   ·exact .inl (if_neg hb)
  ·by_cases hb:b = a
   ·have z':=(if_pos hb).symm.trans z
    cases z'
    subst hb
    exact ⟨ha,by rw [List.length_map]; exact hl,vs,_,rv,ha⟩
   ·have z':=(if_neg hb).symm.trans z
    cases z'
  ·by_cases hb:b = a
   ·exact hb
   ·exact absurd (if_neg hb) z
abbrev KOf {K:PySem.W.Frag} {h:Heap} (_:K.In h):PySem.W.Frag:=K
theorem walk_of {l:PySem.W.OpenLaw} {n k:Nat} {q:Program} {loose:List Str} {XP:(Str→Option Value)→Heap→Prop} {YP:World→Heap→Prop} {d:DefRec} {K:Params→PySem.W.Frag} {CX:World→CXT} {sp:World→Sp} {x:Str}
 (hn:l.most = some n) (hn2:n ≤ sizeLine) (hdf:d.params.defaults = []) (hr:Room k callerA)
 (hY:∀ (w:World) (h:Heap),YP w h→(K w.params).In h)
 (F:∀ (w:World) (mg:Str→Option Value) (fa:Addr) (h:Heap),(K w.params).In h→h.Ns mainGlobals mg→mg d.name = some (.ref fa) →
  ∃ fd:FuncData,(∀ (s:Shared) (u:Value),BindsTo s fd ⟨[u],[]⟩ [(x,u)]) ∧
   ∀ base:Heap,(K w.params).In base→base.Ns mainGlobals mg→FnOk l.prog w (K w.params) mg base (CX w) k fa fd [x] (sp w))
 (hsp:∀ (w:World) (H:Hp) (a:Addr) (ns:List Int),ns.length ≤ n→Only H→SqL (K w.params) H a (ns.map V.int)→sp w [.ref a] H (fun v _=>v = .bl true) fun _ _ _=>False)
 (hCX:∀ (w:World) (H:Hp) (s:Shared) (e:Value) (s':Shared),CX w [] H s (fun _ _ _=>False) e s'→False) :
 PySem.W.WalkO q loose XP YP l.row.toRowW d [] (fun f vs=>PySem.call f vs):=by
 refine Att.attach_call hn hdf fun w s₀ s₁ mg mb fa o pm cd doc a vs ns G Y ho hd hcd hmg hobj hints hlen hg=>?_
 have KX:=hY w _ Y
 obtain ⟨fd,hb,hF⟩:=F w mg fa _ KX G.T.g hmg
 exact law_call KX G.T.g G.T.b G.T.builtins G.T.nolimit hg hobj hints (Nat.le_trans hlen hn2) hr hF hb (fun H hO hS=>hsp w H a ns hlen hO hS) fun H e s'=>hCX w H s₁ e s'
def defArgs (s:Stmt):Arguments:=match s with
 | .FunctionDef _ a _ _ _ _ _ _ _ _=>a
 | _=>{ posonlyargs:=[],args:=[],vararg:=none,kwonlyargs:=[],kw_defaults:=[],kwarg:=none,defaults:=[] }
def defBody (s:Stmt):List Stmt:=match s with
 | .FunctionDef _ _ b _ _ _ _ _ _ _=>b
 | _=>[]
def defScope (s:Stmt):Scope:=match s with
 | .FunctionDef _ _ _ _ _ _ sc _ _ _=>sc
 | _=>{ kind:=.function,names:=[],isGenerator:=false,isCoroutine:=false }
abbrev CX0:CXT:=fun _ _ _ _ _ _=>False
abbrev E0:XK:=fun _ _ _=>False
theorem pass0 {X:Cx}:Passes CX0 X E0:=fun _ _ _ _ _ _ _ h=>h.elim
structure Fun (K:PySem.W.Frag) (x qual:Str) (st:Stmt) (f:Addr) (fd:FuncData):Prop where
 ex:∃ (oc:Value) (od:Option Addr) (kV doc pm:Value) (an:Option Addr) (cdv ct:Value) (osl:Array (Option Value)),
  fd = PySem.W.fnOf x qual (defArgs st) (defBody st) (defScope st) .none kV doc pm an cdv ct∧K.lookup f = some ⟨oc,od,.func fd,osl⟩∧PySem.W.codeIn K cdv qual = true
 kp:PySem.W.keepIn K (.ref f) = true
section
variable {P:Program} {w:World} {K:PySem.W.Frag} {mg:Str→Option Value} {base:Heap}
theorem Fun.ok {x qual:Str} {st:Stmt} {f:Addr} {fd:FuncData} {N ps:List Str} {k:Nat} {sp:Sp} (F:Fun K x qual st f fd) (S:FnScope N ps (defScope st)) (len:∀ vs H Q E,sp vs H Q E→vs.length = ps.length)
 (hbody:∀ (cdv:Value) (A:Around) (outer:List Env) (s:Shared) (H:Hp) (vs:List V) (Q:VK) (E:XK),Room k (A.deeper (envOfC qual (defScope st) s.heap.objs.size f cdv))→sp vs H Q E →
  ∃ t,PSs (cxOf CX0 P w K mg base N qual (defScope st) f cdv A outer s H E).nox (defBody st) t∧t { nx:=fun _ H'=>Q .non H',rt:=Q } (start N vs) H):FnOk P w K mg base CX0 (k + 1) f fd ps sp:=by
 obtain ⟨oc,od,kV,doc,pm,an,cdv,ct,osl,rfl,lk,hcd⟩:=F.ex
 refine fn_of lk hcd S len fun A outer s H vs Q E hr hsp=>?_
 obtain ⟨t,h,q⟩:=hbody cdv A outer s H vs Q E hr hsp
 exact ⟨t,h.nox,q⟩
theorem Fun.binds {x qual:Str} {st:Stmt} {f:Addr} {fd:FuncData} {ps:List Str} (F:Fun K x qual st f fd)
 (h:∀ (kV doc pm:Value) (an:Option Addr) (cdv ct:Value) (us:List Value),us.length = ps.length→bindArgs (PySem.W.fnOf x qual (defArgs st) (defBody st) (defScope st) .none kV doc pm an cdv ct) ⟨us,[]⟩ = pure (ps.zip us)):Binds K fd ps []:=by
 obtain ⟨oc,od,kV,doc,pm,an,cdv,ct,osl,rfl,lk,hcd⟩:=F.ex
 exact .all (h kV doc pm an cdv ct)
theorem fun_mk {x qual:Str} {st:Stmt} {f:Addr} {oc:Value} {od an:Option Addr} {osl:Array (Option Value)} {kV doc pm cdv ct:Value} (l:K.lookup f = some ⟨oc,od,.func (PySem.W.fnOf x qual (defArgs st) (defBody st) (defScope st) .none kV doc pm an cdv ct),osl⟩)
 (c:PySem.W.codeIn K cdv qual = true) (k:PySem.W.keepIn K (.ref f) = true):Fun K x qual st f (PySem.W.fnOf x qual (defArgs st) (defBody st) (defScope st) .none kV doc pm an cdv ct):=⟨⟨oc,od,kV,doc,pm,an,cdv,ct,osl,rfl,l,c⟩,k⟩
end
theorem hu_of {A:Around} {k:Nat} (hr:Room k A):A.units + 1 < cLine:=Nat.lt_of_le_of_lt (Nat.add_le_add_left (by decide:1 ≤ 64) _) hr.units
section
variable {X:Cx}
end
abbrev testsM (ifs:List Expr) (env:Env):Sem Bool :=
 forIn ifs true fun c r=>if r = true then do { let ok ← isTrue c env (eval c env); pure (ForInStep.yield ok) } else pure (ForInStep.yield r)
theorem comp_loop {prog:Program} {w:World} {A:Around} {R:Result→Shared→Prop} {s:Shared} {elt target iter:Expr}
 {ifs:List Expr} {scope:Scope} {pos:Pos} {it acc:Value} {env:Env} (I:Nat→Shared→Prop)
 (turn:∀ n s,I n s→wpAny (model prog w) A (pyNext it) (fun r s1=>match r with
  | none=>R (.ok .next) s1
  | some v=>wpAny (model prog w) A (letOwnedTupleGo target it v) (fun _ s2 =>
   wpAny (model prog w) A (assign target env v) (fun _ s3 =>
    wpAny (model prog w) A (testsM ifs env) (fun ok s4 =>
     if ok = true then wpAny (model prog w) A (eval elt env) (fun x s5 =>
      wpAny (model prog w) A (call (.builtin "list.append") [acc,x]) (fun _ s6=>∃ m,m < n∧I m s6)
       (notedBy (model prog w) A env fun e s'=>R (.error e) s') s5)
       (notedBy (model prog w) A env fun e s'=>R (.error e) s') s4
     else ∃ m,m < n∧I m s4)
     (notedBy (model prog w) A env fun e s'=>R (.error e) s') s3)
    (notedBy (model prog w) A env fun e s'=>R (.error e) s') s2)
   (notedBy (model prog w) A env fun e s'=>R (.error e) s') s1)
  (notedBy (model prog w) A env fun e s'=>R (.error e) s') s)
 (n:Nat) (h:I n s) :
 codeAny (model prog w) A (.compLoop (.ListComp elt [⟨target,iter,ifs,0⟩] scope pos) 0 it acc env) R s:=by
 refine codeAny_loop rfl I (fun n s hI=>?_) n h
 show wpAny _ A ((compTurn (.ListComp elt [⟨target,iter,ifs,0⟩] scope pos) 0 it acc env).onRaise
  (fun x=>do noteFrame x env; theTreesLotGoes x)) _ _ s
 refine wpAny_noted ?_
 rw [compTurn_list]
 refine wpAny_bind (wpAny_standAt (wpAny_bind (wpAny_mono (turn n s hI) (fun r s1 h1=>?_) fun _ _ z=>z)))
 cases r with
 | none=>exact wpAny_pure h1
 | some v =>
  refine wpAny_bind (wpAny_mono h1 (fun _ s2 h2=>?_) fun _ _ z=>z)
  refine wpAny_bind (wpAny_mono h2 (fun _ s3 h3=>wpAny_bind (wpAny_mono h3 (fun ok s4 h4=>?_) fun _ _ z=>z)) fun _ _ z=>z)
  cases ok with
  | false=>exact wpAny_pure ⟨rfl,h4⟩
  | true =>
   refine wpAny_bind (wpAny_bind (wpAny_mono h4 (fun x s5 h5=>wpAny_bind (wpAny_mono h5 (fun _ s6 h6=>?_) fun _ _ z=>z)) fun _ _ z=>z))
   exact wpAny_pure (wpAny_pure ⟨rfl,h6⟩)
def capCells (env:Env):List (Str × NameKind)→List (Str × Addr)→List (Str × Addr)
 | [],acc=>acc
 | (n,k) :: r,acc=>capCells env r (if k == .free then match env.cells.lookup n with | some c=>(n,c) :: acc | none=>acc else acc)
theorem closure_eq {env:Env}:∀ (names:List (Str × NameKind)) (acc:List (Str × Addr)),(∀ x ∈ names,x.2 = .free→∃ c,env.cells.lookup x.1 = some c) →
 (forIn names acc fun (x:Str × NameKind) (r:List (Str × Addr))=>(if (x.2 == NameKind.free) = true then do { let c ← cellOf env x.1; pure (ForInStep.yield ((x.1,c) :: r)) } else pure (ForInStep.yield r):Sem (ForInStep (List (Str × Addr))))) = (pure (capCells env names acc):Sem _)
 | [],acc,_=>by rw [List.forIn_nil]; rfl
 | (n,k) :: r,acc,h=>by
  rw [List.forIn_cons]
  have hr:∀ x ∈ r,x.2 = .free→∃ c,env.cells.lookup x.1 = some c:=fun x hx=>h x (List.mem_cons_of_mem _ hx)
  by_cases hk:k = .free
  ·subst hk
   obtain ⟨c,hc⟩:=h (n,.free) List.mem_cons_self rfl
   have hc':env.cells.lookup n = some c:=hc
   simp only [capCells,beq_self_eq_true,if_true,cellOf,hc',pure_bind]
   exact closure_eq r _ hr
  ·have hb:(k == NameKind.free) = false:=by simpa using hk
   simp only [capCells,hb,Bool.false_eq_true,if_false,pure_bind]
   exact closure_eq r _ hr
theorem closureFor_eq {scope:Scope} {env:Env} (h:∀ x ∈ scope.names,x.2 = .free→∃ c,env.cells.lookup x.1 = some c) :
 closureFor scope env = pure (capCells env scope.names []):=by
 unfold closureFor
 exact congrArg (fun m:Sem (List (Str × Addr))=>m >>= fun z=>pure z) (closure_eq scope.names [] h)
theorem cap_from {env:Env}:∀ (names:List (Str × NameKind)) (acc:List (Str × Addr)) {x:Str} {c:Addr},(capCells env names acc).lookup x = some c →
 env.cells.lookup x = some c∨acc.lookup x = some c
 | [],acc,x,c,h=>.inr h
 | (n,k) :: r,acc,x,c,h=>by
  rcases cap_from r _ h with q | q
  ·exact .inl q
  ·by_cases hk:(k == NameKind.free) = true
   ·rw [if_pos hk] at q
    cases e:env.cells.lookup n with
    | none=>rw [e] at q; exact .inr q
    | some c' =>
     rw [e] at q
     simp only [List.lookup_cons] at q
     cases hx:x == n with
     | true =>
      rw [hx] at q
      cases q
      have:x = n:=by simpa using hx
      subst this
      exact .inl e
     | false=>rw [hx] at q; exact .inr q
   ·rw [if_neg hk] at q
    exact .inr q
theorem cap_stay {env:Env} {x:Str} {c:Addr} (hc:env.cells.lookup x = some c):∀ (names:List (Str × NameKind)) (acc:List (Str × Addr)),
 acc.lookup x = some c→(capCells env names acc).lookup x = some c
 | [],acc,h=>h
 | (n,k) :: r,acc,h=>by
  refine cap_stay hc r _ ?_
  by_cases hk:(k == NameKind.free) = true
  ·rw [if_pos hk]
   cases e:env.cells.lookup n with
   | none=>exact h
   | some c' =>
    simp only [List.lookup_cons]
    cases hx:x == n with
    | true =>
     have:x = n:=by simpa using hx
     subst this
     rw [hc] at e
     exact e.symm
    | false=>exact h
  ·rw [if_neg hk]; exact h
theorem cap_has {env:Env} {x:Str} {c:Addr} (hc:env.cells.lookup x = some c):∀ (names:List (Str × NameKind)) (acc:List (Str × Addr)),
 (x,NameKind.free) ∈ names→(capCells env names acc).lookup x = some c
 | [],_,h=>absurd h (by simp)
 | (n,k) :: r,acc,h=>by
  rcases List.mem_cons.mp h with e | h
  ·cases e
   refine cap_stay hc r _ ?_
   rw [if_pos (by simp),hc]
   simp [List.lookup_cons]
  ·exact cap_has hc r _ h
theorem relabel_lookup {sc:Scope} {env:Env} {x:Str} {k:NameKind} (h:(relabel sc env).names.lookup x = some k) :
 ∃ k0,sc.names.lookup x = some k0∧(k = k0∨(k = .cell∧k0 = .free)):=by
 unfold relabel at h
 dsimp only at h
 generalize sc.names = ns at h ⊢
 induction ns with
 | nil=>simp at h
 | cons a r ih =>
  obtain ⟨n,k1⟩:=a
  simp only [List.map_cons] at h
  by_cases hc:(k1 == NameKind.free && env.scope.kind == .function && env.kindOf n == some .cell) = true
  ·rw [if_pos hc] at h
   simp only [List.lookup_cons] at h ⊢
   cases hx:x == n with
   | true =>
    rw [hx] at h
    cases h
    refine ⟨k1,rfl,.inr ⟨rfl,?_⟩⟩
    simp only [Bool.and_eq_true] at hc
    simpa using hc.1.1
   | false=>rw [hx] at h; exact ih h
  ·rw [if_neg hc] at h
   simp only [List.lookup_cons] at h ⊢
   cases hx:x == n with
   | true=>rw [hx] at h; cases h; exact ⟨_,rfl,.inl rfl⟩
   | false=>rw [hx] at h; exact ih h
theorem relabel_free {sc:Scope} {env:Env} {x:Str} (h:sc.names.lookup x = some .free) :
 (relabel sc env).names.lookup x = some .cell∨(relabel sc env).names.lookup x = some .free:=by
 unfold relabel
 dsimp only
 generalize sc.names = ns at h ⊢
 induction ns with
 | nil=>simp at h
 | cons a r ih =>
  obtain ⟨n,k1⟩:=a
  simp only [List.map_cons]
  simp only [List.lookup_cons] at h
  by_cases hc:(k1 == NameKind.free && env.scope.kind == .function && env.kindOf n == some .cell) = true
  ·rw [if_pos hc]
   simp only [List.lookup_cons]
   cases hx:x == n with
   | true=>exact .inl rfl
   | false=>rw [hx] at h; exact ih h
  ·rw [if_neg hc]
   simp only [List.lookup_cons]
   cases hx:x == n with
   | true=>rw [hx] at h; exact .inr h
   | false=>rw [hx] at h; exact ih h
structure CS (X:Cx) (sc:Scope) (N':List Str) (cap:List (Option Nat)):Prop where
 kind:sc.kind = .function
 nocell:∀ y ∈ sc.names,y.2 ≠ .cell
 loc:∀ x ∈ sc.names,x.2 = .local→sc.names.lookup x.1 = some .local
 fr:∀ x ∈ sc.names,x.2 = .free→X.env.kindOf x.1 = some .cell∨X.env.kindOf x.1 = some .free
 len:cap.length = N'.length
 capt:∀ (i j:Nat),cap[i]? = some (some j)→∃ x,N'[i]? = some x∧X.N[j]? = some x∧sc.names.lookup x = some .free
def capSt (cap:List (Option Nat)) (σ:St):St:=cap.map fun o=>match o with | some j=>(σ[j]?).join | none=>none
def Cx.comp (X:Cx) (N':List Str) (sc:Scope) (s:Shared) (H:Hp) (fp:List Addr) (xe:Value→Shared→Prop):Cx :=
 { X with N:=N',s₀:=s,H₀:=H,env:=compEnvC sc (capCells X.env sc.names []) s.heap.objs.size X.env,outer:=X.stack,stack:=X.stack,ex:=fp,fn:=fun _=>false,pn:=[],xe:=xe }
section
variable {X:Cx} {pins:List (Addr × Obj)} {σ:St} {H:Hp} {s:Shared} {sc:Scope} {N':List Str} {cap:List (Option Nat)} {fp:List Addr} {xe:Value→Shared→Prop} {h':Heap}
theorem CS.cells (S:CS X sc N' cap) (I:Inv X pins σ H s):∀ x ∈ sc.names,x.2 = .free→∃ c,X.env.cells.lookup x.1 = some c:=fun x hx hf =>
 I.ok.has x.1 (S.fr x hx hf)
theorem Inv.compIn {t:Nat} (I:Inv X pins σ H s) (S:CS X sc N' cap) (hf:∀ b ∈ fp,FpOk X pins H b) (hlt:∀ b ∈ fp,b < s.heap.objs.size)
 (hns:h'.Ns s.heap.objs.size fun _=>none) (hk:∀ b o,s.heap.get? b = some o→h'.get? b = some o) :
 Inv (X.comp N' sc s H fp xe) [] (capSt cap σ) H { s with heap:=h',toks:=t }:=by
 have hfrom:∀ {x c},(capCells X.env sc.names []).lookup x = some c→X.env.cells.lookup x = some c:=fun {x c} q=>by
  rcases cap_from _ _ q with z | z
  ·exact z
  ·simp at z
 have hlook:∀ {x},((relabel sc X.env).names.lookup x = some .cell∨(relabel sc X.env).names.lookup x = some .free)→sc.names.lookup x = some .free:=fun {x} q=>by
  rcases q with q | q
  ·obtain ⟨k0,e,z⟩:=relabel_lookup q
   rcases z with z | z
   ·subst z; exact absurd rfl (S.nocell _ (PySem.mem_of_lookup e))
   ·rw [e,z.2]
  ·obtain ⟨k0,e,z⟩:=relabel_lookup q
   rcases z with z | z
   ·rw [e,z]
   ·cases z.1
 refine ⟨⟨I.ok.mod,?_,I.ok.glob,I.ok.blt,Nat.le_refl _,fun x y c h1 h2=>I.ok.inj x y c (hfrom h1) (hfrom h2),fun x hx=>?_,fun x c q=>absurd (show false = true from q) (by decide),I.ok.hd,I.ok.frames,.inl rfl,fun b hb=>⟨?_,fun x c q=>?_⟩,
  I.bs,Nat.le_trans I.ok.bsz I.sz,fun b o e hb=>?_,fun b hb hz=>?_,I.stack,I.stkFree⟩,
  rfl,I.bare,Un.kept hk,⟨_,hns,fun i x v h1 h2 h3=>?_⟩,fun x c q=>?_,I.hok.fresh (Nat.le_refl _),fun x c q=>I.freeC x c (hfrom q),fun p hp=>absurd (show p ∈ ([]:List (Addr × Obj)) from hp) (by simp),I.hok.kept hk,?_⟩
 ·exact S.kind
 ·have e:=hlook hx
  have e2:=PySem.mem_of_lookup e
  obtain ⟨c,hc⟩:=I.ok.has x (S.fr _ e2 rfl)
  exact ⟨c,cap_has hc _ _ e2⟩
 ·exact Nat.ne_of_lt (hlt b hb)
 ·exact (hf b hb).2.2.2.2.1 x c (hfrom q)
 ·rcases (hf b hb).2.2.2.1 with z | z
  ·exact I.ok.noex b o e z
  ·exact absurd (Nat.lt_of_lt_of_le (Heap.lt_size e) (Nat.le_trans I.ok.bsz z)) (Nat.lt_irrefl _)
 ·rcases List.mem_cons.mp (I.stkSub b hz) with z | z
  ·exact (hf b hb).2.1 z
  ·exact (hf b hb).2.2.1 z
 ·have h2':(cap.map fun o=>match o with | some j=>(σ[j]?).join | none=>none)[i]? = some (some v):=h2
  rw [List.getElem?_map] at h2'
  cases e:cap[i]? with
  | none=>rw [e] at h2'; cases h2'
  | some o =>
   rw [e] at h2'
   cases o with
   | none=>simp at h2'
   | some j =>
    have hj:σ[j]? = some (some v):=by
     have h4:(σ[j]?).join = some v:=by simpa using h2'
     cases e2:σ[j]? with
     | none=>rw [e2] at h4; simp at h4
     | some o2=>rw [e2] at h4; simp at h4; rw [h4]
    obtain ⟨y,n1,n2,n3⟩:=S.capt i j e
    have ey:y = x:=by
     have h1':N'[i]? = some x:=h1
     rw [n1] at h1'; exact Option.some.inj h1'
    subst ey
    have hm:=PySem.mem_of_lookup n3
    have hkind:=S.fr _ hm rfl
    obtain ⟨m,hn,hl⟩:=I.loc
    have vis:Vis X.env.scope y:=by
     rcases hkind with z | z
     ·exact .inr (.inl z)
     ·exact .inr (.inr z)
    obtain ⟨u,r,l⟩:=hl j y v n2 hj vis
    refine ⟨u,r,.inr ?_⟩
    rcases l with ⟨z,_⟩ | ⟨_,c,hc,hcell⟩
    ·have z':X.env.kindOf y = some .local:=z
     rcases hkind with q | q <;> (have q':X.env.kindOf y = _:=q; rw [z'] at q'; cases q')
    ·obtain ⟨o,ho,hd⟩:=hcell
     exact ⟨relabel_free n3,c,cap_has hc _ _ hm,o,hk c o ho,hd⟩
 ·obtain ⟨v,o,ho,hd⟩:=I.cell x c (hfrom q)
  exact ⟨v,o,hk c o ho,hd⟩
 ·show (cap.map _).length = N'.length
  rw [List.length_map]; exact S.len
theorem Inv.compOut {pins':List (Addr × Obj)} {σ':St} {H':Hp} {s':Shared} (I:Inv X pins σ H s) (hf:∀ b ∈ fp,FpOk X pins H b)
 (J:Inv (X.comp N' sc s H fp xe) pins' σ' H' s') (hs:Heap.SameBut s.heap.objs.size s'.heap h'):Inv X pins σ H' { s' with heap:=h' }:=by
 have hu:Un (frs X.stack) fp H H' s.heap s'.heap:=J.base
 have hC:H' s.heap.objs.size = none:=J.free
 have lt:∀ {b:Addr} {o:Obj},s.heap.get? b = some o→b ≠ s.heap.objs.size:=fun e=>Nat.ne_of_lt (Heap.lt_size e)
 refine I.call' (s':={ s' with heap:=h' }) (ch:=fp) J.os ⟨fun b o e n h1 h2=>?_,fun b o e n h1 h2=>?_,hu.free,fun b o e h1=>?_,hu.tups,hu.frzs,hu.tbls⟩ (fun b u e=>?_) J.bare (fun b hb=>⟨(hf b hb).2.2.2.1,(hf b hb).2.1,(hf b hb).2.2.2.2.1,(hf b hb).2.2.2.2.2⟩)
 ·exact (hs.2 b (lt e)).trans (hu.keep b o e n h1 h2)
 ·obtain ⟨sl,q⟩:=hu.slot b o e n h1 h2
  exact ⟨sl,(hs.2 b (lt e)).trans q⟩
 ·obtain ⟨o',q⟩:=hu.there b o e h1
  exact ⟨o',(hs.2 b (lt e)).trans q⟩
 ·refine (J.hok b u e).stay (fun c v hc q=>?_) (fun _ q=>q) fun _ _ q=>q
  have ne:c ≠ s.heap.objs.size:=by
   rintro rfl
   rcases hc with z | z
   ·rw [← z,hC] at e; cases e
   ·rw [hC] at z; cases z
  exact (hs.2 c ne).trans q
end
def PTs (X:Cx) (ifs:List Expr) (t:TT):Prop :=
 ∀ (pins:List (Addr × Obj)) (s:Shared) (σ:St) (H:Hp) (Q:Bool→Hp→Prop),Inv X pins σ H s→t σ H Q→wpAny (model X.prog X.w) X.A (testsM ifs X.env) (TP X pins σ Q) X.xe s
def tTests0:TT:=fun _ H Q=>Q true H
def tTests (t r:TT):TT:=fun σ H Q=>t σ H fun b H1=>if b = true then r σ H1 Q else Q false H1
theorem tests_off {X:Cx} {E:Value→Shared→Prop} {Q:Bool→Shared→Prop}:∀ {ifs:List Expr} {s:Shared},Q false s →
 wpAny (model X.prog X.w) X.A (forIn ifs false fun c r=>if r = true then do { let ok ← isTrue c X.env (eval c X.env); pure (ForInStep.yield ok) } else pure (ForInStep.yield r)) Q E s
 | [],s,h=>by rw [List.forIn_nil]; exact wpAny_pure h
 | c :: r,s,h=>by
  rw [List.forIn_cons]
  refine wpAny_bind ?_
  rw [if_neg (by decide)]
  exact wpAny_pure (tests_off h)
theorem pts_nil {X:Cx}:PTs X [] tTests0:=fun pins s σ H Q I h=>by
 unfold testsM
 rw [List.forIn_nil]
 exact wpAny_pure ⟨H,I,h⟩
theorem pts_cons {X:Cx} {c:Expr} {r:List Expr} {t u:TT} (h1:PT X c t) (h2:PTs X r u):PTs X (c :: r) (tTests t u):=fun pins s σ H Q I h=>by
 unfold testsM
 rw [List.forIn_cons]
 refine wpAny_bind ?_
 rw [if_pos rfl]
 refine wpAny_bind (thn (h1 pins s σ H _ I h) fun b s1 ⟨H1,I1,q1⟩=>wpAny_pure ?_)
 cases b with
 | true=>exact h2 pins s1 σ H1 Q I1 (by simpa using q1)
 | false=>exact tests_off ⟨H1,I1,by simpa using q1⟩
def compRun (cap:List (Option Nat)) (g:TG) (ti:TT) (te:TE) (σ:St) (J:It) (D:Addr) (Q:Hp→Prop) (H:Hp):Prop :=
 ∃ W:Nat→Nat→Hp→Prop,(∃ m,W 0 m H)∧∀ i m H,W i m H →
  (J.stop i H∧Q H)∨(J.go i H∧∀ x H1,J.yld i H x H1→g x (capSt cap σ) H1 fun σ2 H2=>(∀ (j:Nat) v,(capSt cap σ)[j]? = some (some v)→σ2[j]? = some (some v)) ∧
   ti σ2 H2 fun ok H3=>if ok = true then te σ2 H3 fun v H4=>∃ acc,H4 D = some (.lst acc)∧acc.length < sizeLine∧∃ m',m' < m∧W (i + 1) m' (upd H4 D (.lst (acc++[v])))
    else ∃ m',m' < m∧W (i + 1) m' H3)
section
variable {X:Cx} {elt tg iter:Expr} {ifs:List Expr} {sc:Scope} {pos:Pos} {N':List Str} {cap:List (Option Nat)} {g:TG} {ti:TT} {te:TE}
theorem comp_core {pins:List (Addr × Obj)} {σ:St} {H2:Hp} {s2:Shared} {it:Addr} {fp:List Addr} {tn:Nat→Heap→Prop} {J:It} {E:Value→Shared→Prop} {RR:Value→Addr→Result→Shared→Prop} {Q:Addr→Hp→Prop}
 (hc:X.calm = true) (S:CS X sc N' cap) (hg:∀ s H fp xe,PG (X.comp N' sc s H fp xe) tg g) (ht:∀ s H fp xe,PTs (X.comp N' sc s H fp xe) ifs ti) (he:∀ s H fp xe,PE (X.comp N' sc s H fp xe) elt te)
 (I2:Inv X pins σ H2 s2) (T:Turn X.prog X.w X.K tg J fp it tn) (st2:tn 0 s2.heap) (f2:∀ b ∈ fp,FpOk X pins H2 b)
 (hq:∀ D,H2 D = none→compRun cap g ti te σ J D (Q D) (upd H2 D (.lst [])))
 (hRR:∀ (D:Addr) (s3:Shared) (H3:Hp) (xe:Value→Shared→Prop) (H':Hp) (pins':List (Addr × Obj)) (σ':St) (s':Shared),Inv X pins σ H3 s3→(∀ b ∈ fp,FpOk X pins H3 b)→Inv (X.comp N' sc s3 H3 fp xe) pins' σ' H' s'→Q D H'→RR (.ref D) s3.heap.objs.size (.ok .next) s') :
 wpAny (model X.prog X.w) X.A (newList []) (fun acc s3=>wpAny (model X.prog X.w) X.A (newFunctionEnv sc X.env.globals (capCells X.env sc.names []) [] X.env.qual none .none (some X.env)) (fun cenv s4 =>
  codeAny (model X.prog X.w) X.A (.compStart (.ListComp elt [⟨tg,iter,ifs,0⟩] sc pos) 0 (.ref it) acc { cenv with scope:=relabel sc X.env }) (RR acc cenv.locals) s4) E s3) E s2:=by
 refine wpAny_newObj_type ?_
 have I3:=I2.lnew (ys:=[]) (its:=[]) (t':=s2.toks) .nil (Nat.zero_le _)
 have hfr:H2 s2.heap.objs.size = none:=I2.fresh
 have lt2:∀ b ∈ fp,b < s2.heap.objs.size:=fun b hb=>by
  obtain ⟨o,e,_⟩:=T.obj _ _ st2 b hb
  exact Heap.lt_size e
 generalize hD:s2.heap.objs.size = D at I3 hfr lt2 ⊢
 have r0:=hq D hfr
 generalize hs3:({ s2 with heap:=s2.heap.push { cls:=.type "list",data:=.seq ([]:List Value).toArray },toks:=s2.toks }:Shared) = s3 at I3
 have f3:∀ b ∈ fp,FpOk X pins (upd H2 D (.lst [])) b:=fun b hb=>⟨by rw [upd_ne (Nat.ne_of_lt (lt2 b hb))]; exact (f2 b hb).1,(f2 b hb).2⟩
 have kp3:∀ b o,s2.heap.get? b = some o→s3.heap.get? b = some o:=fun b o e=>by rw [← hs3]; exact Heap.get?_push_of_some _ e
 have st3:tn 0 s3.heap:=T.keep _ _ _ st2 fun b hb o e=>kp3 b o e
 have lt3:∀ b ∈ fp,b < s3.heap.objs.size:=fun b hb=>by
  obtain ⟨o,e,_⟩:=T.obj _ _ st3 b hb
  exact Heap.lt_size e
 generalize upd H2 D (.lst []) = H3 at I3 r0 f3
 refine wpAny_newFunctionEnv S.nocell (fun x hx=>absurd hx (by simp)) (fun h1 hns hsb=>?_) S.kind
 have kp4:∀ b o,s3.heap.get? b = some o→h1.get? b = some o:=fun b o e=>by
  rw [hsb.2 b (Nat.ne_of_lt (Heap.lt_size e))]
  exact Heap.get?_push_of_some _ e
 have hns':h1.Ns s3.heap.objs.size fun _=>none:=hns
 have st4:tn 0 h1:=T.keep _ _ _ st3 fun b hb o e=>kp4 b o e
 have frees:∀ b ∈ fp,H3 b = none:=fun b hb=>(f3 b hb).1
 have loop:codeAny (model X.prog X.w) X.A (.compLoop (.ListComp elt [⟨tg,iter,ifs,0⟩] sc pos) 0 (.ref it) (.ref D) (compEnvC sc (capCells X.env sc.names []) s3.heap.objs.size X.env))
  (RR (.ref D) s3.heap.objs.size) { s3 with heap:=h1,toks:=s3.toks + ([]:List (Str × Value)).length }:=by
  let xe:Value→Shared→Prop:=notedBy (model X.prog X.w) X.A (compEnvC sc (capCells X.env sc.names []) s3.heap.objs.size X.env) fun e s'=>RR (.ref D) s3.heap.objs.size (.error e) s'
  have I4:Inv (X.comp N' sc s3 H3 fp xe) [] (capSt cap σ) H3 { s3 with heap:=h1,toks:=s3.toks + ([]:List (Str × Value)).length }:=I3.compIn S f3 lt3 hns' kp4
  have stat:∀ {H':Hp},(∀ b ∈ fp,H' b = none)→∀ b ∈ fp,FpOk (X.comp N' sc s3 H3 fp xe) [] H' b:=fun hn b hb=>by
   obtain ⟨q1,q2⟩:=I4.ok.exf b hb
   exact ⟨hn b hb,q1,I4.ok.exfs b hb,.inl hb,q2,fun p hp=>absurd (show p ∈ ([]:List (Addr × Obj)) from hp) (by simp)⟩
  obtain ⟨W,⟨m0,w0⟩,turn⟩:=r0
  refine comp_loop (fun n s'=>∃ i H',Inv (X.comp N' sc s3 H3 fp xe) [] (capSt cap σ) H' s'∧tn i s'.heap∧(∀ b ∈ fp,H' b = none)∧W i n H') ?_ m0 ⟨0,H3,I4,st4,frees,w0⟩
  rintro n s5 ⟨i,H5,I5,st5,fr5,w5⟩
  rcases turn i n H5 w5 with ⟨stop,qn⟩ | ⟨go,step⟩
  ·refine thn (T.done (X.comp N' sc s3 H3 fp xe) rfl rfl rfl hc i [] s5 _ H5 xe I5 (stat fr5) st5 stop) fun r s6 ⟨hr,I6⟩=>?_
   subst hr
   exact hRR D s3 H3 xe H5 [] _ s6 I3 f3 I6 qn
  ·refine thn (T.item (X.comp N' sc s3 H3 fp xe) rfl rfl rfl hc i [] s5 _ H5 xe I5 (stat fr5) st5 go) fun r s6 ⟨u,hr,h6⟩=>?_
   subst hr
   refine thn h6 fun _ s7 ⟨x,H7,I7,r7,y7,st7,fr7⟩=>?_
   have I7':=I7.pinned (stat fr7) (T.obj _ _ st7)
   refine thn (hg s3 H3 fp xe _ s7 _ H7 x u _ I7' r7 (step x H7 y7)) fun _ s8 ⟨σ8,H8,I8,k8,q8⟩=>?_
   refine thn (ht s3 H3 fp xe _ s8 σ8 H8 _ I8 q8) fun ok s9 ⟨H9,I9,q9⟩=>?_
   have again:∀ {σa:St} {Ha:Hp} {sa:Shared},Inv (X.comp N' sc s3 H3 fp xe) ([]++pinsAt fp s7.heap) σa Ha sa→(∀ (j:Nat) v,(capSt cap σ)[j]? = some (some v)→σa[j]? = some (some v)) →
    Inv (X.comp N' sc s3 H3 fp xe) [] (capSt cap σ) Ha sa∧tn (i + 1) sa.heap∧∀ b ∈ fp,Ha b = none:=fun {σa Ha sa} Ia ka=>by
    refine ⟨Ia.unpinned.weak (I5.len.trans Ia.len.symm) ka,T.keep _ _ _ st7 fun b hb o e=>(Ia.pin (b,o) (List.mem_append_right _ (List.mem_append_right _ (mem_pinsAt hb e)))).1,fun b hb=>?_⟩
    obtain ⟨o,e,d⟩:=T.obj _ _ st7 b hb
    exact (Ia.pin (b,o) (List.mem_append_right _ (List.mem_append_right _ (mem_pinsAt hb e)))).2.1
   cases ok with
   | false =>
    have q9':∃ m',m' < n∧W (i + 1) m' H9:=by simpa using q9
    obtain ⟨m',hm,w9⟩:=q9'
    obtain ⟨a1,a2,a3⟩:=again I9 k8
    exact ⟨m',hm,i + 1,H9,a1,a2,a3,w9⟩
   | true =>
    rw [if_pos rfl] at q9
    refine thn (he s3 H3 fp xe _ s9 σ8 H9 _ I9 q9) fun v sa ⟨y,Ha,Ia,ra,acc,ea,za,m',hm,wa⟩=>?_
    refine thn (mt_append (X:=X.comp N' sc s3 H3 fp xe) _ sa σ8 Ha (.ref D) [y] (.ref D) [v] (fun _ H'=>H' = upd Ha D (.lst (acc++[y]))) Ia rfl (.cons ra .nil) ⟨D,acc,y,rfl,rfl,ea,za,rfl⟩) fun _ sb ⟨_,Hb,Ib,_,eb⟩=>?_
    subst eb
    obtain ⟨a1,a2,a3⟩:=again Ib k8
    exact ⟨m',hm,i + 1,_,a1,a2,a3,wa⟩
 exact codeAny_compStart_list loop (T.self _ 0 _ _ _ st4 loop)
def tComp (cap:List (Option Nat)) (wi:TI) (g:TG) (ti:TT) (te:TE):TE:=fun σ H Q=>wi σ H fun J H1=>∀ D,H1 D = none→compRun cap g ti te σ J D (fun H'=>Q (.ref D) H') (upd H1 D (.lst []))
theorem pe_comp {wi:TI} (hc:X.calm = true) (S:CS X sc N' cap) (hi:PI X tg iter wi) (hg:∀ s H fp xe,PG (X.comp N' sc s H fp xe) tg g) (ht:∀ s H fp xe,PTs (X.comp N' sc s H fp xe) ifs ti)
 (he:∀ s H fp xe,PE (X.comp N' sc s H fp xe) elt te) (hs:∀ x,foldedSetIterable iter X.env x = pure x:=by intro _; rfl):PE X (.ListComp elt [⟨tg,iter,ifs,0⟩] sc pos) (tComp cap wi g ti te):=by
 intro pins s σ H Q I h
 rw [eval_ListComp]
 refine wpAny_comprehension_free (use:=none) rfl hs (closureFor_eq (S.cells I)) S.kind S.loc (thn (hi pins s σ H _ I h) fun v s1 h1=>thn h1 fun itv s2 h2=>?_)
 obtain ⟨it,fp,tn,J,H2,e,I2,T,st2,f2,rq⟩:=h2
 subst e
 refine comp_core (RR:=fun acc C=>compPost (model X.prog X.w) X.A X.xe none (EP X pins σ Q) acc C) (Q:=fun D H'=>Q (.ref D) H') hc S hg ht he I2 T st2 f2 rq ?_
 intro D s3 H3 xe H' pins' σ' s' I3 f3 J3 q
 obtain ⟨m,hn,_⟩:=id J3.loc
 exact ⟨m,hn,fun h' hs=>⟨.ref D,H',I3.compOut f3 J3 hs,rfl,q⟩⟩
def sComp (cap:List (Option Nat)) (wi:TI) (g:TG) (ti:TT) (te:TE) (i:Nat):TS:=fun D σ H=>wi σ H fun J H1=>∀ d,H1 d = none→compRun cap g ti te σ J d (fun H'=>D.nx (σ.set i (some (.ref d))) H') (upd H1 d (.lst []))
theorem ps_comp {wi:TI} {y:Str} {py spos:Pos} {i:Nat} (hc:X.calm = true) (S:CS X sc N' cap) (hi:PI X tg iter wi) (hg:∀ s H fp xe,PG (X.comp N' sc s H fp xe) tg g) (ht:∀ s H fp xe,PTs (X.comp N' sc s H fp xe) ifs ti)
 (he:∀ s H fp xe,PE (X.comp N' sc s H fp xe) elt te) (hN:X.N.Nodup) (hy:X.N[i]? = some y) (hl:X.env.scope.names.lookup y = some .local)
 (hsw:swapsWith (.ListComp elt [⟨tg,iter,ifs,0⟩] sc pos) (some (.Name y py)) spos.line X.env = pure true:=by rfl) (hs:∀ x,foldedSetIterable iter X.env x = pure x:=by intro _; rfl) :
 PS X (.Assign [.Name y py] (.ListComp elt [⟨tg,iter,ifs,0⟩] sc pos) spos) (sComp cap wi g ti te i):=by
 intro pins s σ H D I h
 rw [exec_Assign_Name_used _ _ _ _ hsw]
 refine wpAny_bind (wpAny_standAt (wpAny_bind ?_))
 show wpAny _ X.A (do let _ ← comprehension (.ListComp elt [⟨tg,iter,ifs,0⟩] sc pos) sc X.env _ (newList []) false (eval iter X.env) (some (assign (.Name y py) X.env))) _ _ s
 refine wpAny_bind (wpAny_mono (wpAny_comprehension_free (use:=some (assign (.Name y py) X.env)) (Q:=fun _ s'=>SP X pins D .next s') rfl hs (closureFor_eq (S.cells I)) S.kind S.loc
  (thn (hi pins s σ H _ I h) fun v s1 h1=>thn h1 fun itv s2 h2=>?_)) (fun _ s' hq=>wpAny_pure (wpAny_pure hq)) fun _ _ z=>z)
 obtain ⟨it,fp,tn,J,H2,e,I2,T,st2,f2,rq⟩:=h2
 subst e
 refine comp_core (RR:=fun acc C=>compPost (model X.prog X.w) X.A X.xe (some (assign (.Name y py) X.env)) (fun _ s'=>SP X pins D .next s') acc C) (Q:=fun d H'=>D.nx (σ.set i (some (.ref d))) H') hc S hg ht he I2 T st2 f2 rq ?_
 intro d s3 H3 xe H' pins' σ' s' I3 f3 J3 q
 obtain ⟨m,hn,_⟩:=id J3.loc
 have Is:Inv X pins σ H' s':=I3.compOut (h':=s'.heap) f3 J3 (Heap.SameBut.refl _ _)
 obtain ⟨oC,es,ep,hoC,hdC,hrC⟩:=id hn
 have hC:H' s3.heap.objs.size = none:=J3.free
 have neL:s3.heap.objs.size ≠ X.env.locals:=Nat.ne_of_gt I3.lt
 have nfs:s3.heap.objs.size ∉ X.fs:=I3.nofs (Nat.le_refl _)
 have Ip:Inv X (pins++[(s3.heap.objs.size,oC)]) σ H' s':=Is.pins_of fun p hp=>by
  rcases List.mem_append.mp hp with z | z
  ·exact Is.pin p (List.mem_append_right _ z)
  ·obtain rfl:p = (s3.heap.objs.size,oC):=by simpa using z
   exact ⟨hoC,hC,neL,nfs,fun v hv=>by have hdC':oC.data = _:=hdC; rw [hdC'] at hv; cases hv⟩
 show wpAny _ X.A (assign (.Name y py) X.env (.ref d)) _ _ s'
 refine thn (pg_name (X:=X) (i:=i) hN hy (.inl hl) (.inr hl) _ s' σ H' (.ref d) (.ref d) (fun σ2 H2=>D.nx σ2 H2) Ip rfl q) fun _ s4 ⟨σ4,H4,I4,q4⟩=>?_
 have pn:=I4.pin (s3.heap.objs.size,oC) (List.mem_append_right _ (List.mem_append_right _ (by simp)))
 refine ⟨m,⟨oC,es,ep,pn.1,hdC,hrC⟩,fun h' hs=>⟨σ4,H4,?_,q4⟩⟩
 have I4u:Inv X pins σ4 H4 s4:=I4.unpinned
 have st:=I4u.step (g':=s4.gens) (t':=s4.toks) (d':=s4.drawn) (h':=h') (H':=H4) (ch:=[s3.heap.objs.size]) (fun b hb=>?_) (fun b o _ _ hc e _=>(hs.2 b (by simpa using hc)).trans e)
  (fun b o _ _ hc e _=>⟨o.slots,(hs.2 b (by simpa using hc)).trans e⟩) (fun _ _ _ _ n=>n) (fun b o hc e=>⟨o,(hs.2 b (by simpa using hc)).trans e⟩) (fun _ _ e=>e) (fun _ _ _ e=>e) (fun b ps e=>⟨#[],by rw [e]; simp⟩) (fun m hm=>?_) (fun b u e=>?_) I4u.bare
 ·exact st
 ·have e:b = s3.heap.objs.size:=by simpa using hb
  subst e
  refine ⟨.inr I3.sz,neL,fun x c e2 z=>?_,fun p hp z=>?_⟩
  ·obtain ⟨v,q2⟩:=I3.cell x c e2
   exact absurd q2.lt (by rw [z]; exact Nat.lt_irrefl _)
  ·have e3:=(I3.pin p hp).1
   exact absurd (Heap.lt_size e3) (by rw [z]; exact Nat.lt_irrefl _)
 ·obtain ⟨o,es',ep',ho',r'⟩:=hm
  exact ⟨o,es',ep',(hs.2 _ (Ne.symm neL)).trans ho',r'⟩
 ·refine (I4u.hok b u e).stay (fun c v hc q=>?_) (fun _ q=>q) fun _ _ q=>q
  have n4:H4 s3.heap.objs.size = none:=pn.2.1
  have ne:c ≠ s3.heap.objs.size:=by
   rintro rfl
   rcases hc with z | z
   ·rw [← z,n4] at e; cases e
   ·rw [n4] at z; cases z
  exact (hs.2 c ne).trans q
end
end L2
namespace L2
open PySem
def excO (a C:Addr):HO:=.ext fun h=>∃ o,h.get? a = some o∧o.cls = .ref C
def dctO (a:Addr):HO:=.ext fun h=>∃ o,h.get? a = some o∧o.cls = .type "dict"
end L2
namespace FT
open PySem PySem.Spec PyProof.Rows L2
inductive D where
 | non | bl (b:Bool) | int (i:Int) | str (x:Str) | tup (xs:List D) | fl (xs:List D) | ref (n:Nat)
inductive O where
 | lst (xs:List D)
 | set (ks:List Key)
 | dct
 | dK (kvs:List (Key × D))
 | dF (kvs:List (Key × D))
 | exc (c:Str)
abbrev AH:=List O
abbrev G:=List (Option D)
structure Exn where
 cls:Str
 fs:List (Str × D)
inductive Res (α:Type) where
 | ok (a:α) (h:AH) | err (x:Exn) (h:AH) | bad
abbrev M (α:Type):=AH→Res α
def M.pure {α:Type} (a:α):M α:=fun h=>.ok a h
def M.bind {α β:Type} (m:M α) (f:α→M β):M β:=fun h=>match m h with
 | .ok a h1=>f a h1
 | .err x h1=>.err x h1
 | .bad=>.bad
instance:Monad M where
 pure:=M.pure
 bind:=M.bind
def bad {α:Type}:M α:=fun _=>.bad
theorem M.bind_eq {α β:Type} (m:M α) (f:α→M β) (h:AH):(m >>= f) h = match m h with
 | .ok a h1=>f a h1
 | .err x h1=>.err x h1
 | .bad=>.bad:=rfl
theorem M.bind_ok {α β:Type} {m:M α} {f:α→M β} {h h1:AH} {a:α} (e:m h = .ok a h1):(m >>= f) h = f a h1:=by rw [M.bind_eq,e]
def SqLP (K:PySem.W.Frag) (H:Hp) (a:Addr) (xs:List V):Prop :=
 (∃ o,H a = some (.frz o (.lst xs))) ∨
  ∃ (o:Obj) (its:Array Value) (n:Nat),K.lookup a = some o∧o.cls = .type "list"∧o.dict = none∧o.data = .seq its n∧its.size ≤ sizeLine∧Vals xs its.toList
theorem SqLP.sq {K:PySem.W.Frag} {H:Hp} {a:Addr} {xs:List V} (h:SqLP K H a xs):SqL K H a xs:=by
 rcases h with ⟨o,h⟩ | h
 ·exact .inl (.inr ⟨o,h⟩)
 ·exact .inr h
mutual
def RD (K:PySem.W.Frag) (ρ:List Addr) (H:Hp):D→V→Prop
 | .non,v=>v = .non
 | .bl b,v=>v = .bl b
 | .int i,v=>v = .int i
 | .str x,v=>v = .str x
 | .tup ds,v=>∃ a xs,v = .ref a∧SqT K H a xs∧RDs K ρ H ds xs
 | .fl ds,v=>∃ a xs,v = .ref a∧SqLP K H a xs∧RDs K ρ H ds xs
 | .ref n,v=>∃ a,v = .ref a∧ρ[n]? = some a
def RDs (K:PySem.W.Frag) (ρ:List Addr) (H:Hp):List D→List V→Prop
 | [],xs=>xs = []
 | d :: ds,xs=>∃ x r,xs = x :: r∧RD K ρ H d x∧RDs K ρ H ds r
end
def Pre (ρ ρ':List Addr):Prop:=∀ (n:Nat) a,ρ[n]? = some a→ρ'[n]? = some a
theorem Pre.refl (ρ:List Addr):Pre ρ ρ:=fun _ _ h=>h
theorem Pre.trans {a b c:List Addr} (x:Pre a b) (y:Pre b c):Pre a c:=fun n z h=>y n z (x n z h)
theorem Pre.app (ρ r:List Addr):Pre ρ (ρ++r):=fun n a h=>by
 rw [List.getElem?_append_left (List.getElem?_eq_some_iff.mp h).1]; exact h
structure Ext (K:PySem.W.Frag) (H H':Hp):Prop where
 t:∀ a xs,SqT K H a xs→SqT K H' a xs
 l:∀ a xs,SqLP K H a xs→SqLP K H' a xs
 d:∀ a o vs,H a = some (.frz o (.dK vs))→H' a = some (.frz o (.dK vs))
theorem Ext.refl (K:PySem.W.Frag) (H:Hp):Ext K H H:=⟨fun _ _ h=>h,fun _ _ h=>h,fun _ _ _ h=>h⟩
theorem Ext.trans {K:PySem.W.Frag} {a b c:Hp} (x:Ext K a b) (y:Ext K b c):Ext K a c:=⟨fun z xs h=>y.t z xs (x.t z xs h),fun z xs h=>y.l z xs (x.l z xs h),fun z o vs h=>y.d z o vs (x.d z o vs h)⟩
def Trk:HO→Prop
 | .lst _=>True
 | .set _=>True
 | .ext _=>True
 | .dK _=>True
 | _=>False
theorem Ext.upd {K:PySem.W.Frag} {H:Hp} {p:Addr} {o:HO} (h:H p = none∨∃ u,H p = some u∧Trk u):Ext K H (upd H p o):=by
 have ne:∀ {b:Addr} {u:HO},H b = some u→¬ Trk u→b ≠ p:=fun {b u} e n z=>by
  subst z
  rcases h with h | ⟨u',h,tr⟩
  ·rw [h] at e; cases e
  ·rw [h] at e; cases e; exact n tr
 refine ⟨fun a xs q=>?_,fun a xs q=>?_,fun a o vs q=>by rw [upd_ne (ne q (fun z=>z))]; exact q⟩
 ·rcases q with (q | ⟨u,q⟩) | q
  ·exact .inl (.inl (by rw [upd_ne (ne q (fun z=>z))]; exact q))
  ·exact .inl (.inr ⟨u,by rw [upd_ne (ne q (fun z=>z))]; exact q⟩)
  ·exact .inr q
 ·rcases q with ⟨u,q⟩ | q
  ·exact .inl ⟨u,by rw [upd_ne (ne q (fun z=>z))]; exact q⟩
  ·exact .inr q
section
variable {K:PySem.W.Frag} {ρ ρ':List Addr} {H H':Hp}
mutual
theorem RD.mono (p:Pre ρ ρ') (e:Ext K H H'):∀ {d:D} {v:V},RD K ρ H d v→RD K ρ' H' d v
 | .non,v,h=>by simpa [RD] using h
 | .bl b,v,h=>by simpa [RD] using h
 | .int b,v,h=>by simpa [RD] using h
 | .str b,v,h=>by simpa [RD] using h
 | .tup ds,v,h=>by
  simp only [RD] at h ⊢
  obtain ⟨a,xs,h1,h2,h3⟩:=h
  exact ⟨a,xs,h1,e.t a xs h2,RDs.mono p e h3⟩
 | .fl ds,v,h=>by
  simp only [RD] at h ⊢
  obtain ⟨a,xs,h1,h2,h3⟩:=h
  exact ⟨a,xs,h1,e.l a xs h2,RDs.mono p e h3⟩
 | .ref n,v,h=>by
  simp only [RD] at h ⊢
  obtain ⟨a,h1,h2⟩:=h
  exact ⟨a,h1,p n a h2⟩
theorem RDs.mono (p:Pre ρ ρ') (e:Ext K H H'):∀ {ds:List D} {xs:List V},RDs K ρ H ds xs→RDs K ρ' H' ds xs
 | [],xs,h=>by simpa [RDs] using h
 | d :: ds,xs,h=>by
  simp only [RDs] at h ⊢
  obtain ⟨x,r,h1,h2,h3⟩:=h
  exact ⟨x,r,h1,RD.mono p e h2,RDs.mono p e h3⟩
end
theorem RDs.nil:RDs K ρ H [] []:=by simp [RDs]
theorem RDs.cons {d:D} {ds:List D} {x:V} {xs:List V} (h:RD K ρ H d x) (t:RDs K ρ H ds xs):RDs K ρ H (d :: ds) (x :: xs):=by
 simp only [RDs]; exact ⟨x,xs,rfl,h,t⟩
theorem RDs.pair:∀ {ds:List D} {xs:List V},RDs K ρ H ds xs→Paired (RD K ρ H) ds xs
 | [],xs,h=>by simp only [RDs] at h; subst h; exact .nil
 | d :: ds,xs,h=>by
  simp only [RDs] at h
  obtain ⟨x,r,rfl,h2,h3⟩:=h
  exact .cons h2 h3.pair
theorem RDs.length {ds:List D} {xs:List V} (h:RDs K ρ H ds xs):ds.length = xs.length:=Paired.length h.pair
theorem RDs.append {a b:List D} {xs ys:List V} (h:RDs K ρ H a xs) (t:RDs K ρ H b ys):RDs K ρ H (a++b) (xs++ys):=by
 induction a generalizing xs with
 | nil=>simp only [RDs] at h; subst h; exact t
 | cons d ds ih =>
  simp only [RDs] at h
  obtain ⟨x,r,rfl,h2,h3⟩:=h
  exact RDs.cons h2 (ih h3)
theorem RDs.get {ds:List D} {xs:List V} {i:Nat} {d:D} (h:RDs K ρ H ds xs) (e:ds[i]? = some d):∃ x,xs[i]? = some x∧RD K ρ H d x:=by
 induction ds generalizing xs i with
 | nil=>simp at e
 | cons a ds ih =>
  simp only [RDs] at h
  obtain ⟨x,r,rfl,h2,h3⟩:=h
  cases i with
  | zero=>simp at e; subst e; exact ⟨x,rfl,h2⟩
  | succ i =>
   obtain ⟨y,h4,h5⟩:=ih h3 (by simpa using e)
   exact ⟨y,by simpa using h4,h5⟩
theorem RDs.take {ds:List D} {xs:List V} (n:Nat) (h:RDs K ρ H ds xs):RDs K ρ H (ds.take n) (xs.take n):=by
 induction n generalizing ds xs with
 | zero=>exact RDs.nil
 | succ n ih=>cases ds with
  | nil=>simp only [RDs] at h; subst h; exact RDs.nil
  | cons d ds=>simp only [RDs] at h; obtain ⟨x,r,rfl,h2,h3⟩:=h; exact RDs.cons h2 (ih h3)
theorem RDs.set {ds:List D} {xs:List V} {d:D} {x:V} (n:Nat) (h:RDs K ρ H ds xs) (hd:RD K ρ H d x):RDs K ρ H (ds.set n d) (xs.set n x):=by
 induction n generalizing ds xs with
 | zero=>cases ds with
  | nil=>simp only [RDs] at h; subst h; exact RDs.nil
  | cons a ds=>simp only [RDs] at h; obtain ⟨y,r,rfl,h2,h3⟩:=h; exact RDs.cons hd h3
 | succ n ih=>cases ds with
  | nil=>simp only [RDs] at h; subst h; exact RDs.nil
  | cons a ds=>simp only [RDs] at h; obtain ⟨y,r,rfl,h2,h3⟩:=h; exact RDs.cons h2 (ih h3)
theorem RDs.eraseIdx {ds:List D} {xs:List V} (n:Nat) (h:RDs K ρ H ds xs):RDs K ρ H (ds.eraseIdx n) (xs.eraseIdx n):=by
 induction n generalizing ds xs with
 | zero=>cases ds with
  | nil=>simp only [RDs] at h; subst h; exact RDs.nil
  | cons a ds=>simp only [RDs] at h; obtain ⟨y,r,rfl,h2,h3⟩:=h; exact h3
 | succ n ih=>cases ds with
  | nil=>simp only [RDs] at h; subst h; exact RDs.nil
  | cons a ds=>simp only [RDs] at h; obtain ⟨y,r,rfl,h2,h3⟩:=h; exact RDs.cons h2 (ih h3)
theorem RDs.flat {ds:List D} {xs:List V} (n:Nat) (h:RDs K ρ H ds xs):RDs K ρ H (List.replicate n ds).flatten (List.replicate n xs).flatten:=by
 induction n with
 | zero=>exact RDs.nil
 | succ n ih=>rw [List.replicate_succ,List.flatten_cons,List.replicate_succ,List.flatten_cons]; exact h.append ih
def RK (K:PySem.W.Frag) (ρ:List Addr) (H:Hp):List (Key × D)→List (Key × V)→Prop:=Paired fun p q=>p.1 = q.1∧RD K ρ H p.2 q.2
theorem RK.imp {α β:Type} {P Q:α→β→Prop} (f:∀ a b,P a b→Q a b):∀ {xs:List α} {ys:List β},Paired P xs ys→Paired Q xs ys
 | _,_,.nil=>.nil
 | _,_,.cons a b=>.cons (f _ _ a) (RK.imp f b)
theorem RK.mono {kvs:List (Key × D)} {vs:List (Key × V)} (p:Pre ρ ρ') (e:Ext K H H') (r:RK K ρ H kvs vs):RK K ρ' H' kvs vs:=RK.imp (fun _ _ h=>⟨h.1,h.2.mono p e⟩) r
def RO (K:PySem.W.Frag) (ρ:List Addr) (H:Hp) (o:O) (a:Addr):Prop:=match o with
 | .lst ds=>∃ xs,H a = some (.lst xs)∧RDs K ρ H ds xs
 | .set ks=>H a = some (.set ks)
 | .dct=>H a = some (dctO a)
 | .dK kvs=>∃ vs,H a = some (.dK vs)∧RK K ρ H kvs vs
 | .dF kvs=>∃ ob vs,H a = some (.frz ob (.dK vs))∧RK K ρ H kvs vs
 | .exc c=>∃ C,PySem.W.nsIn K mainGlobals c = some (some (.ref C))∧H a = some (excO a C)
structure RH (K:PySem.W.Frag) (ρ:List Addr) (h:AH) (H:Hp):Prop where
 len:ρ.length = h.length
 nd:∀ (i j:Nat) a,ρ[i]? = some a→ρ[j]? = some a→i = j
 obj:∀ (n:Nat) o a,h[n]? = some o→ρ[n]? = some a→RO K ρ H o a
theorem RH.at {h:AH} (r:RH K ρ h H) {n:Nat} {o:O} (e:h[n]? = some o):∃ a,ρ[n]? = some a∧RO K ρ H o a:=by
 have hi:=(List.getElem?_eq_some_iff.mp e).1
 have hj:n < ρ.length:=by rw [r.len]; exact hi
 have q:ρ[n]? = some ρ[n]:=List.getElem?_eq_getElem hj
 exact ⟨_,q,r.obj n o _ e q⟩
def O.fz:O→Bool
 | .dF _=>true
 | _=>false
theorem RO.there {o:O} {a:Addr} (z:RO K ρ H o a):∃ u,H a = some u∧(o.fz = false→Trk u):=by
 cases o with
 | lst ds=>obtain ⟨xs,z,_⟩:=z; exact ⟨_,z,fun _=>trivial⟩
 | set ks=>exact ⟨_,z,fun _=>trivial⟩
 | dct=>exact ⟨_,z,fun _=>trivial⟩
 | dK kvs=>obtain ⟨vs,z,_⟩:=z; exact ⟨_,z,fun _=>trivial⟩
 | dF kvs=>obtain ⟨ob,vs,z,_⟩:=z; exact ⟨_,z,fun q=>by cases q⟩
 | exc c=>obtain ⟨C,_,z⟩:=z; exact ⟨_,z,fun _=>trivial⟩
theorem RH.there {h:AH} (r:RH K ρ h H) {n:Nat} {a:Addr} (e:ρ[n]? = some a):∃ u,H a = some u:=by
 have hi:=(List.getElem?_eq_some_iff.mp e).1
 have hj:n < h.length:=by rw [← r.len]; exact hi
 obtain ⟨u,z,_⟩:=(r.obj n _ a (List.getElem?_eq_getElem hj) e).there
 exact ⟨u,z⟩
theorem RH.tracked {h:AH} (r:RH K ρ h H) {n:Nat} {a:Addr} {o:O} (e:ρ[n]? = some a) (eo:h[n]? = some o) (nf:o.fz = false:=by rfl):∃ u,H a = some u∧Trk u:=by
 obtain ⟨u,z,q⟩:=(r.obj n _ a eo e).there
 exact ⟨u,z,q nf⟩
theorem RO.mono {o:O} {a:Addr} (p:Pre ρ ρ') (e:Ext K H H') (hs:H' a = H a) (r:RO K ρ H o a):RO K ρ' H' o a:=by
 cases o with
 | lst ds=>obtain ⟨xs,h1,h2⟩:=r; exact ⟨xs,hs.trans h1,h2.mono p e⟩
 | set ks=>exact hs.trans r
 | dct=>exact hs.trans r
 | dK kvs=>obtain ⟨vs,h1,h2⟩:=r; exact ⟨vs,hs.trans h1,h2.mono p e⟩
 | dF kvs=>obtain ⟨ob,vs,h1,h2⟩:=r; exact ⟨ob,vs,hs.trans h1,h2.mono p e⟩
 | exc c=>obtain ⟨C,h1,h2⟩:=r; exact ⟨C,h1,hs.trans h2⟩
theorem RH.other {h:AH} {p:Addr} {o:HO} (r:RH K ρ h H) (hp:H p = none):RH K ρ h (upd H p o) :=
 ⟨r.len,r.nd,fun n u a h1 h2=>(r.obj n u a h1 h2).mono (Pre.refl _) (Ext.upd (.inl hp)) (by
  obtain ⟨u,q⟩:=r.there h2
  exact upd_ne (ne_of_none q hp))⟩
theorem RH.pushO {h:AH} {p:Addr} {o':O} {u:HO} (r:RH K ρ h H) (hp:H p = none) (hd:RO K (ρ++[p]) (upd H p u) o' p):RH K (ρ++[p]) (h++[o']) (upd H p u):=by
 have ne:∀ {n:Nat} {a:Addr},ρ[n]? = some a→a ≠ p:=fun e=>by
  obtain ⟨xs,q⟩:=r.there e
  exact ne_of_none q hp
 have ext:Ext K H (L2.upd H p u):=Ext.upd (.inl hp)
 refine ⟨by simp [r.len],fun i j a h1 h2=>?_,fun n o a h1 h2=>?_⟩
 ·rw [List.getElem?_append] at h1 h2
  split at h1 <;> split at h2
  ·exact r.nd i j a h1 h2
  ·rename_i hi hj
   rw [List.getElem?_singleton] at h2
   split at h2
   ·cases h2; exact absurd rfl (ne h1)
   ·cases h2
  ·rename_i hi hj
   rw [List.getElem?_singleton] at h1
   split at h1
   ·cases h1; exact absurd rfl (ne h2)
   ·cases h1
  ·rename_i hi hj
   rw [List.getElem?_singleton] at h1 h2
   split at h1
   ·split at h2
    ·omega
    ·cases h2
   ·cases h1
 ·rw [List.getElem?_append] at h1 h2
  rw [r.len] at h2
  split at h1
  ·rename_i hn
   rw [if_pos hn] at h2
   exact (r.obj n o a h1 h2).mono (Pre.app _ _) ext (upd_ne (ne h2))
  ·rename_i hn
   rw [if_neg hn] at h2
   rw [List.getElem?_singleton] at h1 h2
   split at h1
   ·rename_i h0
    rw [if_pos h0] at h2
    cases h1; cases h2
    exact hd
   ·cases h1
theorem RH.push {h:AH} {p:Addr} {ds:List D} {xs:List V} (r:RH K ρ h H) (hp:H p = none) (hd:RDs K ρ H ds xs):RH K (ρ++[p]) (h++[.lst ds]) (upd H p (.lst xs)) :=
 r.pushO hp ⟨xs,upd_same,hd.mono (Pre.app _ _) (Ext.upd (.inl hp))⟩
theorem RH.pushS {h:AH} {p:Addr} {ks:List Key} (r:RH K ρ h H) (hp:H p = none):RH K (ρ++[p]) (h++[.set ks]) (upd H p (.set ks)):=r.pushO hp upd_same
theorem RH.setO {h:AH} {n:Nat} {a:Addr} {o0 o':O} {u:HO} (r:RH K ρ h H) (e:h[n]? = some o0) (ea:ρ[n]? = some a) (hd:RO K ρ (upd H a u) o' a) (nf:o0.fz = false:=by rfl):RH K ρ (h.set n o') (upd H a u):=by
 have ext:Ext K H (L2.upd H a u):=Ext.upd (.inr (r.tracked ea e nf))
 refine ⟨by simp [r.len],r.nd,fun m o b h1 h2=>?_⟩
 by_cases hm:m = n
 ·subst hm
  rw [ea] at h2; cases h2
  have hi:=(List.getElem?_eq_some_iff.mp e).1
  rw [List.getElem?_set_self hi] at h1
  cases h1
  exact hd
 ·rw [List.getElem?_set_ne (fun z=>hm z.symm)] at h1
  exact (r.obj m o b h1 h2).mono (Pre.refl _) ext (upd_ne fun z=>hm (r.nd m n b h2 (by rw [z]; exact ea)))
theorem RH.set {h:AH} {n:Nat} {a:Addr} {ds0 ds:List D} {xs:List V} (r:RH K ρ h H) (e:h[n]? = some (.lst ds0)) (ea:ρ[n]? = some a) (hd:RDs K ρ H ds xs):RH K ρ (h.set n (.lst ds)) (upd H a (.lst xs)) :=
 r.setO e ea ⟨xs,upd_same,hd.mono (Pre.refl _) (Ext.upd (.inr (r.tracked ea e)))⟩
theorem RH.setS {h:AH} {n:Nat} {a:Addr} {o0:O} {ks:List Key} (r:RH K ρ h H) (e:h[n]? = some o0) (ea:ρ[n]? = some a) (nf:o0.fz = false:=by rfl):RH K ρ (h.set n (.set ks)) (upd H a (.set ks)):=r.setO e ea upd_same nf
structure RG (K:PySem.W.Frag) (ρ:List Addr) (H:Hp) (γ:G) (σ:L2.St):Prop where
 len:γ.length = σ.length
 var:∀ (i:Nat) d,γ[i]? = some (some d)→∃ v,σ[i]? = some (some v)∧RD K ρ H d v
theorem RG.mono {γ:G} {σ:L2.St} (p:Pre ρ ρ') (e:Ext K H H') (r:RG K ρ H γ σ):RG K ρ' H' γ σ :=
 ⟨r.len,fun i d h=>let ⟨v,h1,h2⟩:=r.var i d h; ⟨v,h1,h2.mono p e⟩⟩
theorem RG.set {γ:G} {σ:L2.St} {d:D} {v:V} (r:RG K ρ H γ σ) (i:Nat) (hd:RD K ρ H d v):RG K ρ H (γ.set i (some d)) (σ.set i (some v)):=by
 refine ⟨by simp [r.len],fun j d' h=>?_⟩
 by_cases hj:i = j
 ·subst hj
  have hi:i < γ.length:=by
   have:=(List.getElem?_eq_some_iff.mp h).1
   simpa using this
  rw [List.getElem?_set_self hi] at h
  cases h
  exact ⟨v,List.getElem?_set_self (by rw [← r.len]; exact hi),hd⟩
 ·rw [List.getElem?_set_ne hj] at h ⊢
  exact r.var j d' h
structure Rel (K:PySem.W.Frag) (ρ:List Addr) (γ:G) (h:AH) (σ:L2.St) (H:Hp):Prop where
 g:RG K ρ H γ σ
 h:RH K ρ h H
abbrev XX:=Exn→List Addr→AH→Hp→Prop
def Fin {α:Type} (K:PySem.W.Frag) (EX:XX) (ρ:List Addr) (H:Hp) (P:α→List Addr→AH→Hp→Prop):Res α→Prop
 | .ok a h'=>∀ ρ' H',Pre ρ ρ'→Ext K H H'→RH K ρ' h' H'→P a ρ' h' H'
 | .err x h'=>∀ ρ' H',Pre ρ ρ'→Ext K H H'→RH K ρ' h' H'→EX x ρ' h' H'
 | .bad=>False
variable {EX:XX} {α β:Type}
theorem Fin.up {P:α→List Addr→AH→Hp→Prop} {r:Res α} (p:Pre ρ ρ') (e:Ext K H H') (f:Fin K EX ρ H P r):Fin K EX ρ' H' P r:=by
 cases r with
 | ok a h=>exact fun ρ2 H2 p2 e2 r2=>f ρ2 H2 (p.trans p2) (e.trans e2) r2
 | err x h=>exact fun ρ2 H2 p2 e2 r2=>f ρ2 H2 (p.trans p2) (e.trans e2) r2
 | bad=>exact f
theorem Fin.mono {P P':α→List Addr→AH→Hp→Prop} {r:Res α} (f:Fin K EX ρ H P r) (h:∀ a ρ' h' H',Pre ρ ρ'→Ext K H H'→RH K ρ' h' H'→P a ρ' h' H'→P' a ρ' h' H'):Fin K EX ρ H P' r:=by
 cases r with
 | ok a h1=>exact fun ρ2 H2 p2 e2 r2=>h a ρ2 h1 H2 p2 e2 r2 (f ρ2 H2 p2 e2 r2)
 | err x h1=>exact f
 | bad=>exact f
theorem Fin.bind {P:β→List Addr→AH→Hp→Prop} {m:M α} {f:α→M β} {h:AH} (z:Fin K EX ρ H P ((m >>= f) h)):Fin K EX ρ H (fun a ρ1 h1 H1=>Fin K EX ρ1 H1 P (f a h1)) (m h):=by
 rw [M.bind_eq] at z
 cases e:m h with
 | ok a h1=>rw [e] at z; exact fun ρ2 H2 p2 e2 r2=>Fin.up p2 e2 z
 | err x h1=>rw [e] at z; exact z
 | bad=>rw [e] at z; exact z
end
def tE (K:PySem.W.Frag) (EX:XX) (m:G→M D):TE:=fun σ H Q=>∃ ρ γ h,Rel K ρ γ h σ H∧Fin K EX ρ H (fun d ρ' _ H'=>∀ v,RD K ρ' H' d v→Q v H') (m γ h)
def tT (K:PySem.W.Frag) (EX:XX) (m:G→M Bool):TT:=fun σ H Q=>∃ ρ γ h,Rel K ρ γ h σ H∧Fin K EX ρ H (fun b _ _ H'=>Q b H') (m γ h)
def tL (K:PySem.W.Frag) (EX:XX) (m:G→M (List D)):TA:=fun σ H Q=>∃ ρ γ h,Rel K ρ γ h σ H∧Fin K EX ρ H (fun ds ρ' _ H'=>∀ vs,RDs K ρ' H' ds vs→Q vs H') (m γ h)
inductive Out where
 | nx (γ:G) | rt (d:D) | bk (γ:G) | ct (γ:G)
def OutP (K:PySem.W.Frag) (D:Ends) (o:Out) (ρ:List Addr) (H:Hp):Prop:=match o with
 | .nx γ=>∀ σ,RG K ρ H γ σ→D.nx σ H
 | .rt d=>∀ v,RD K ρ H d v→D.rt v H
 | .bk γ=>∀ σ,RG K ρ H γ σ→D.bk σ H
 | .ct γ=>∀ σ,RG K ρ H γ σ→D.ct σ H
def tB (K:PySem.W.Frag) (EX:XX) (m:G→M Out):TS:=fun D σ H=>∃ ρ γ h,Rel K ρ γ h σ H∧Fin K EX ρ H (fun o ρ' _ H'=>OutP K D o ρ' H') (m γ h)
structure SE (X:Cx) (EX:XX) (e:Expr) (m:G→M D):Prop where
 h:PE X e (tE X.K EX m)
structure SC (X:Cx) (EX:XX) (e:Expr) (m:G→M Bool):Prop where
 h:PT X e (tT X.K EX m)
structure SA (X:Cx) (EX:XX) (es:List Expr) (m:G→M (List D)):Prop where
 h:PA X es (tL X.K EX m)
structure S1 (X:Cx) (EX:XX) (st:Stmt) (m:G→M Out):Prop where
 h:PS X st (tB X.K EX m)
structure SB (X:Cx) (EX:XX) (st:List Stmt) (m:G→M Out):Prop where
 h:PSs X st (tB X.K EX m)
theorem PE.imp {X:Cx} {e:Expr} {t t':TE} (h:PE X e t) (f:∀ σ H Q,t' σ H Q→t σ H Q):PE X e t':=fun pins s σ H Q I z=>h pins s σ H Q I (f σ H Q z)
theorem PT.imp {X:Cx} {e:Expr} {t t':TT} (h:PT X e t) (f:∀ σ H Q,t' σ H Q→t σ H Q):PT X e t':=fun pins s σ H Q I z=>h pins s σ H Q I (f σ H Q z)
theorem PA.imp {X:Cx} {e:List Expr} {t t':TA} (h:PA X e t) (f:∀ σ H Q,t' σ H Q→t σ H Q):PA X e t':=fun pos pins s σ H Q I z=>h pos pins s σ H Q I (f σ H Q z)
theorem PS.imp {X:Cx} {e:Stmt} {t t':TS} (h:PS X e t) (f:∀ σ H Q,t' Q σ H→t Q σ H):PS X e t':=fun pins s σ H Q I z=>h pins s σ H Q I (f σ H Q z)
theorem PSs.imp {X:Cx} {e:List Stmt} {t t':TS} (h:PSs X e t) (f:∀ σ H Q,t' Q σ H→t Q σ H):PSs X e t':=fun pins s σ H Q I z=>h pins s σ H Q I (f σ H Q z)
abbrev FE (K:PySem.W.Frag) (EX:XX) (ρ:List Addr) (H:Hp) (Q:VK) (r:Res D):Prop:=Fin K EX ρ H (fun d ρ' _ H'=>∀ v,RD K ρ' H' d v→Q v H') r
theorem FE.here {K:PySem.W.Frag} {EX:XX} {ρ:List Addr} {H:Hp} {Q:VK} {d:D} {h:AH} {v:V} (f:FE K EX ρ H Q (.ok d h)) (r:RH K ρ h H) (rd:RD K ρ H d v):Q v H:=f ρ H (Pre.refl _) (Ext.refl _ _) r v rd
theorem FE.tup {K:PySem.W.Frag} {EX:XX} {ρ:List Addr} {H:Hp} {Q:VK} {ds:List D} {xs:List V} {h:AH} {p:Addr} (f:FE K EX ρ H Q (.ok (.tup ds) h)) (r:RH K ρ h H) (hd:RDs K ρ H ds xs) (hp:H p = none):Q (.ref p) (upd H p (.tup xs)):=by
 have e:Ext K H (L2.upd H p (.tup xs)):=Ext.upd (.inl hp)
 refine f ρ _ (Pre.refl _) e (r.other hp) _ ?_
 simp only [RD]
 exact ⟨p,xs,rfl,SqT.of upd_same,hd.mono (Pre.refl _) e⟩
theorem FE.lst {K:PySem.W.Frag} {EX:XX} {ρ:List Addr} {H:Hp} {Q:VK} {ds:List D} {xs:List V} {h:AH} {p:Addr} (f:FE K EX ρ H Q (.ok (.ref h.length) (h++[.lst ds]))) (r:RH K ρ h H) (hd:RDs K ρ H ds xs) (hp:H p = none):Q (.ref p) (upd H p (.lst xs)):=by
 refine f (ρ++[p]) _ (Pre.app _ _) (Ext.upd (.inl hp)) (r.push hp hd) _ ?_
 simp only [RD]
 refine ⟨p,rfl,?_⟩
 rw [← r.len]; simp
def getL (n:Nat):M (List D):=fun h=>match h[n]? with
 | some (.lst xs)=>.ok xs h
 | _=>.bad
def newL (xs:List D):M D:=fun h=>if xs.length ≤ sizeLine then .ok (.ref h.length) (h++[.lst xs]) else .bad
section
variable {X:Cx} {EX:XX} {a b c e:Expr} {pos:Pos} {ma mb mc:G→M D}
def eVar (i:Nat):G→M D:=fun γ=>match γ[i]? with
 | some (some d)=>pure d
 | _=>bad
theorem se_var (i:Nat) {x:Str} (hN:X.N[i]? = some x:=by rfl) (hv:Vis X.env.scope x:=by first | exact Or.inl rfl | exact Or.inr (Or.inl rfl) | exact Or.inr (Or.inr rfl))
 (hd:(x == ("__debug__":Str)) = false:=by decide) (hcd:(x == ("__classdict__":Str)) = false:=by decide):SE X EX (.Name x pos) (eVar i) :=
 ⟨PE.imp (pe_var hN hv hd hcd) fun σ H Q ⟨ρ,γ,h,rel,f⟩=>by
  have f':FE X.K EX ρ H Q (eVar i γ h):=f
  unfold eVar at f'
  cases e:γ[i]? with
  | none=>rw [e] at f'; exact f'.elim
  | some o=>cases o with
   | none=>rw [e] at f'; exact f'.elim
   | some d =>
    rw [e] at f'
    obtain ⟨v,h1,h2⟩:=rel.g.var i d e
    exact ⟨v,h1,FE.here f' rel.h h2⟩⟩
theorem se_const {d:D} {v:V} (h:PE X e (tC v)) (r:∀ ρ H,RD X.K ρ H d v):SE X EX e (fun _=>pure d) :=
 ⟨PE.imp h fun σ H Q ⟨ρ,γ,h,rel,f⟩=>FE.here f rel.h (r ρ H)⟩
theorem se_int {i:Int} {j:Nat}:SE X EX (.Constant (.int i) j pos) (fun _=>pure (.int i)):=se_const pe_int fun _ _=>by simp [RD]
theorem se_bl {i:Bool} {j:Nat}:SE X EX (.Constant (.bool i) j pos) (fun _=>pure (.bl i)):=se_const pe_bl fun _ _=>by simp [RD]
theorem se_non {j:Nat}:SE X EX (.Constant .none j pos) (fun _=>pure .non):=se_const pe_non fun _ _=>by simp [RD]
theorem se_str {i:Str} {j:Nat}:SE X EX (.Constant (.str i) j pos) (fun _=>pure (.str i)):=se_const pe_str fun _ _=>by simp [RD]
def BR (K:PySem.W.Frag) (EX:XX) (r:R2) (f:D→D→M D):Prop:=∀ ρ h H x y v u Q,RH K ρ h H→RD K ρ H x v→RD K ρ H y u→FE K EX ρ H Q (f x y h)→r v u H Q
def e2 (f:D→D→M D) (ma mb:G→M D):G→M D:=fun γ=>do
 let x ← ma γ
 let y ← mb γ
 f x y
theorem se_two {r:R2} {f:D→D→M D} {ta tb:TE} (h:PE X e (tOp r (tE X.K EX ma) (tE X.K EX mb))) (hr:BR X.K EX r f):SE X EX e (e2 f ma mb) :=
 ⟨PE.imp h fun σ H Q ⟨ρ,γ,h,rel,fin⟩=>⟨ρ,γ,h,rel,(Fin.bind fin).mono fun x ρ1 h1 H1 p1 e1 r1 f1 v rv=>⟨ρ1,γ,h1,⟨rel.g.mono p1 e1,r1⟩,(Fin.bind f1).mono fun y ρ2 h2 H2 p2 e2 r2 f2 u ru =>
  hr ρ2 h2 H2 x y v u Q r2 (rv.mono p2 e2) ru f2⟩⟩⟩
theorem se_op {op:Operator} {r:R2} {f:D→D→M D} (ho:OpR X (binaryOp op) r) (hr:BR X.K EX r f) (ha:SE X EX a ma) (hb:SE X EX b mb):SE X EX (.BinOp a op b pos) (e2 f ma mb) :=
 se_two (ta:=tE X.K EX ma) (tb:=tE X.K EX mb) (pe_op ho ha.h hb.h) hr
theorem se_cmp {op:CmpOp} {r:R2} {f:D→D→M D} (ho:OpR X (compareOp op) r) (hr:BR X.K EX r f) (ha:SE X EX a ma) (hb:SE X EX b mb) (hm:behindInMarks op b = false):SE X EX (.Compare a [op] [b] pos) (e2 f ma mb) :=
 se_two (ta:=tE X.K EX ma) (tb:=tE X.K EX mb) (pe_cmpR ho ha.h hb.h hm) hr
def fI (g:Int→Int→D):D→D→M D
 | .int i,.int j=>pure (g i j)
 | _,_=>bad
theorem br_I0 {K:PySem.W.Frag} {g:Int→Int→D} {g':Int→Int→V} (hg:∀ i j ρ H,RD K ρ H (g i j) (g' i j)):BR K EX (rI0 g') (fI g):=by
 intro ρ h H x y v u Q r rx ry fin
 unfold fI at fin
 split at fin
 ·simp only [RD] at rx ry
  subst rx; subst ry
  exact ⟨_,_,rfl,rfl,FE.here fin r (hg _ _ _ _)⟩
 ·exact fin.elim
def fIC (C:Int→Int→Bool) (g:Int→Int→D):D→D→M D
 | .int i,.int j=>if C i j then pure (g i j) else bad
 | _,_=>bad
theorem br_IC {K:PySem.W.Frag} {C:Int→Int→Bool} {C':Int→Int→Prop} {g:Int→Int→D} {g':Int→Int→V} (hc:∀ i j,C i j = true→C' i j) (hg:∀ i j ρ H,RD K ρ H (g i j) (g' i j)):BR K EX (rI C' g') (fIC C g):=by
 intro ρ h H x y v u Q r rx ry fin
 unfold fIC at fin
 split at fin
 ·simp only [RD] at rx ry
  subst rx; subst ry
  split at fin
  ·rename_i hC
   exact ⟨_,_,rfl,rfl,hc _ _ hC,FE.here fin r (hg _ _ _ _)⟩
  ·exact fin.elim
 ·exact fin.elim
def fSub:=fI fun i j=>.int (i - j)
def fDiv:=fIC (fun _ j=>decide (0 < j) && decide (j < 1073741824)) fun i j=>.int (i / j)
def fMod:=fIC (fun _ j=>decide (0 < j)) fun i j=>.int (i % j)
def fPow:=fIC (fun i j=>decide (0 ≤ j) && decide (j ≤ 1000) && decide (-(2 ^ 64) < i) && decide (i < 2 ^ 64)) fun i j=>.int (i ^ j.toNat)
def fShr:=fIC (fun _ j=>decide (0 ≤ j)) fun i j=>.int (i / 2 ^ j.toNat)
def fAnd:=fI fun i j=>.int (Builtin.bitAnd i j)
theorem se_sub (ha:SE X EX a ma) (hb:SE X EX b mb):SE X EX (.BinOp a .Sub b pos) (e2 fSub ma mb):=se_op op_sub (br_I0 fun i j ρ H=>by simp [RD]) ha hb
theorem se_div (ha:SE X EX a ma) (hb:SE X EX b mb):SE X EX (.BinOp a .FloorDiv b pos) (e2 fDiv ma mb):=se_op op_fdiv (br_IC (fun i j h=>by simp at h; exact h) fun i j ρ H=>by simp [RD]) ha hb
theorem se_mod (ha:SE X EX a ma) (hb:SE X EX b mb):SE X EX (.BinOp a .Mod b pos) (e2 fMod ma mb):=se_op op_mod (br_IC (fun i j h=>by simpa using h) fun i j ρ H=>by simp [RD]) ha hb
theorem se_pow (ha:SE X EX a ma) (hb:SE X EX b mb):SE X EX (.BinOp a .Pow b pos) (e2 fPow ma mb):=se_op op_pow (br_IC (fun i j h=>by
 simp at h
 refine ⟨h.1.1.1,by omega,?_⟩
 have h1:=h.1.2
 have h2:=h.2
 omega) fun i j ρ H=>by simp [RD]) ha hb
theorem se_shr (ha:SE X EX a ma) (hb:SE X EX b mb):SE X EX (.BinOp a .RShift b pos) (e2 fShr ma mb):=se_op op_shr (br_IC (fun i j h=>by simpa using h) fun i j ρ H=>by simp [RD]) ha hb
theorem se_and (ha:SE X EX a ma) (hb:SE X EX b mb):SE X EX (.BinOp a .BitAnd b pos) (e2 fAnd ma mb):=se_op op_and (br_I0 fun i j ρ H=>by simp [RD]) ha hb
def fAdd:D→D→M D
 | .int i,.int j=>pure (.int (i + j))
 | .str i,.str j=>if i.length + j.length ≤ sizeLine then pure (.str (i++j)) else bad
 | .ref i,.ref j=>do
  let x ← getL i
  let y ← getL j
  newL (x++y)
 | .tup x,.tup y=>if !decide (x.length + y.length ≤ sizeLine) then bad else pure (.tup (x++y))
 | _,_=>bad
theorem getL_ok {n:Nat} {h h1:AH} {xs:List D} (e:getL n h = .ok xs h1):h1 = h∧h[n]? = some (.lst xs):=by
 unfold getL at e
 split at e
 ·rename_i q; cases e; exact ⟨rfl,q⟩
 ·cases e
theorem getL_no {n:Nat} {h h1:AH} {x:Exn} (e:getL n h = .err x h1):False:=by
 unfold getL at e
 split at e <;> cases e
def rCat0 (K:PySem.W.Frag):R2:=fun x y H Q=>∃ a b ys,x = .ref a∧y = .ref b∧SqT K H a []∧SqT K H b ys∧Q (.ref b) H
theorem op_cat0:OpR X (binaryOp .Add) (rCat0 X.K):=by
 intro pins s σ H x y v u Q I rx ry h
 obtain ⟨a,b,ys,rfl,rfl,ha,hb,q⟩:=h
 cases rx
 cases ry
 obtain ⟨its,r1,p1,_⟩:=I.tuple ha
 obtain ⟨its2,r2,p2,_⟩:=I.tuple hb
 have e:its = []:=(r1.nil_iff).mpr rfl
 subst e
 obtain ⟨⟨cls,dd,data,sl⟩,ho,hc,n,hd⟩:=id p1
 obtain ⟨⟨cls2,dd2,data2,sl2⟩,ho2,hc2,n2,hd2⟩:=id p2
 simp only at hc hd hc2 hd2
 subst hc hd hc2 hd2
 exact concat_meets ⟨_,ho,rfl⟩ ⟨_,ho2,rfl⟩ noFill_tuple_add seq_tuple_add PySem.F.slot_tuple_add PySem.F.entry_tuple_add (PySem.F.args_tuple_add_2 _ _) (tuple_addW0 a b _ _ n n2 dd dd2 sl sl2 rfl) ⟨ho,ho2,.ref b,H,I,rfl,q⟩
theorem op_plus:OpR X (binaryOp .Add) (fun x y H Q=>rI0 (fun i j=>.int (i + j)) x y H Q∨(∃ i j,x = .str i∧y = .str j∧i.length + j.length ≤ sizeLine∧Q (.str (i++j)) H)∨rCat x y H Q∨rCatT X.K x y H Q∨rCat0 X.K x y H Q) :=
 op_add.or (op_add_str.or (op_cat.or (op_catT.or op_cat0)))
theorem br_plus:BR X.K EX (fun x y H Q=>rI0 (fun i j=>.int (i + j)) x y H Q∨(∃ i j,x = .str i∧y = .str j∧i.length + j.length ≤ sizeLine∧Q (.str (i++j)) H)∨rCat x y H Q∨rCatT X.K x y H Q∨rCat0 X.K x y H Q) fAdd:=by
 intro ρ h H x y v u Q r rx ry fin
 unfold fAdd at fin
 split at fin
 ·simp only [RD] at rx ry; subst rx; subst ry
  exact .inl ⟨_,_,rfl,rfl,FE.here fin r (by simp [RD])⟩
 ·simp only [RD] at rx ry; subst rx; subst ry
  split at fin
  ·rename_i hl
   exact .inr (.inl ⟨_,_,rfl,rfl,hl,FE.here fin r (by simp [RD])⟩)
  ·exact fin.elim
 ·rename_i i j
  simp only [RD] at rx ry
  obtain ⟨ai,rfl,hi⟩:=rx
  obtain ⟨aj,rfl,hj⟩:=ry
  have f1:=Fin.bind fin
  cases e:getL i h with
  | bad=>rw [e] at f1; exact f1.elim
  | err z hz=>exact (getL_no e).elim
  | ok xs h1 =>
   obtain ⟨rfl,q1⟩:=getL_ok e
   rw [e] at f1
   have f2:=Fin.bind (f1 ρ H (Pre.refl _) (Ext.refl _ _) r)
   cases e3:getL j h1 with
   | bad=>rw [e3] at f2; exact f2.elim
   | err z hz=>exact (getL_no e3).elim
   | ok ys h2 =>
    obtain ⟨rfl,q2⟩:=getL_ok e3
    rw [e3] at f2
    have f3:=f2 ρ H (Pre.refl _) (Ext.refl _ _) r
    dsimp only at f3
    unfold newL at f3
    split at f3
    ·rename_i hl
     obtain ⟨a1,n1,xs1,o1,d1⟩:=r.at q1
     obtain ⟨a2,n2,xs2,o2,d2⟩:=r.at q2
     rw [hi] at n1; cases n1
     rw [hj] at n2; cases n2
     refine .inr (.inr (.inl ⟨_,_,_,_,rfl,rfl,o1,o2,?_,fun p hp=>FE.lst f3 r (d1.append d2) hp⟩))
     rw [← d1.length,← d2.length,← List.length_append]; exact hl
    ·exact f3.elim
 ·rename_i x y
  simp only [RD] at rx ry
  obtain ⟨ax,xs,rfl,hx,dx⟩:=rx
  obtain ⟨ay,ys,rfl,hy,dy⟩:=ry
  split at fin
  ·exact fin.elim
  ·rename_i hc
   simp at hc
   have l1:=dx.length
   have l2:=dy.length
   by_cases hxe:xs = []
   ·subst hxe
    have xe:x = []:=by simpa using l1
    subst xe
    refine .inr (.inr (.inr (.inr ⟨ax,ay,ys,rfl,rfl,hx,hy,FE.here fin r ?_⟩)))
    simp only [RD]
    exact ⟨ay,ys,rfl,hy,by simpa using dy⟩
   refine .inr (.inr (.inr (.inl ⟨ax,ay,xs,ys,rfl,rfl,hx,hy,hxe,by omega,fun e=>?_,fun e p hp=>FE.tup fin r (dx.append dy) hp⟩)))
   ·subst e
    refine FE.here fin r ?_
    simp only [RD]
    have:y = []:=by simpa using l2
    subst this
    exact ⟨ax,xs,rfl,hx,by simpa using dx⟩
 ·exact fin.elim
theorem se_add (ha:SE X EX a ma) (hb:SE X EX b mb):SE X EX (.BinOp a .Add b pos) (e2 fAdd ma mb):=se_op op_plus br_plus ha hb
def fMul:D→D→M D
 | .int i,.int j=>if (decide (-(2 ^ 64) < i) && decide (i < 2 ^ 64)) || (decide (-(2 ^ 64) < j) && decide (j < 2 ^ 64)) then pure (.int (i * j)) else bad
 | .ref i,.int j=>do
  let x ← getL i
  if decide (-(2 ^ 63) ≤ j) && decide (j < 2 ^ 63) then newL (List.replicate j.toNat x).flatten else bad
 | _,_=>bad
theorem br_mul:BR X.K EX (fun x y H Q=>rI CMul (fun i j=>.int (i * j)) x y H Q∨rRep x y H Q) fMul:=by
 intro ρ h H x y v u Q r rx ry fin
 unfold fMul at fin
 split at fin
 ·simp only [RD] at rx ry; subst rx; subst ry
  split at fin
  ·rename_i hc
   refine .inl ⟨_,_,rfl,rfl,?_,FE.here fin r (by simp [RD])⟩
   simp only [Bool.or_eq_true,Bool.and_eq_true,decide_eq_true_eq] at hc
   exact hc
  ·exact fin.elim
 ·rename_i i j
  simp only [RD] at rx ry
  obtain ⟨ai,rfl,hi⟩:=rx
  subst ry
  have f1:=Fin.bind fin
  cases e:getL i h with
  | bad=>rw [e] at f1; exact f1.elim
  | err z hz=>exact (getL_no e).elim
  | ok xs h1 =>
   obtain ⟨rfl,q1⟩:=getL_ok e
   rw [e] at f1
   have f2:=f1 ρ H (Pre.refl _) (Ext.refl _ _) r
   dsimp only at f2
   split at f2
   ·rename_i hb
    simp only [Bool.and_eq_true,decide_eq_true_eq] at hb
    unfold newL at f2
    split at f2
    ·rename_i hl
     obtain ⟨a1,n1,xs1,o1,d1⟩:=r.at q1
     rw [hi] at n1; cases n1
     refine .inr ⟨_,_,_,rfl,rfl,o1,hb.1,hb.2,?_,fun p hp=>FE.lst f2 r (d1.flat j.toNat) hp⟩
     rw [L2.len_rep,d1.length] at hl
     rw [Nat.mul_comm]; exact hl
    ·exact f2.elim
   ·exact f2.elim
 ·exact fin.elim
def fCmp (g:Int→Int→Bool):D→D→M D:=fI fun i j=>.bl (g i j)
def fLt:D→D→M D
 | .int i,.int j=>pure (.bl (decide (i < j)))
 | .str i,.str j=>pure (.bl (decide (i.cps.toList < j.cps.toList)))
 | _,_=>bad
def fLe:D→D→M D
 | .int i,.int j=>pure (.bl (decide (i ≤ j)))
 | .str i,.str j=>pure (.bl (!decide (j.cps.toList < i.cps.toList)))
 | _,_=>bad
def fGt:D→D→M D:=fCmp fun i j=>decide (j < i)
def fGe:D→D→M D:=fCmp fun i j=>decide (j ≤ i)
theorem op_le_str:OpR X (compareOp .LtE) (fun x y H Q=>∃ i j,x = .str i∧y = .str j∧Q (.bl (!decide (j.cps.toList < i.cps.toList))) H):=by
 intro pins s σ H x y v u Q I rx ry h
 obtain ⟨i,j,rfl,rfl,q⟩:=h
 obtain ⟨t,rfl⟩:=rx
 obtain ⟨t',rfl⟩:=ry
 exact PySem.P.le_str ⟨.bl _,H,I,rfl,q⟩
theorem br_lt {K:PySem.W.Frag}:BR K EX (fun x y H Q=>rI0 (fun i j=>.bl (decide (i < j))) x y H Q∨∃ i j,x = .str i∧y = .str j∧Q (.bl (decide (i.cps.toList < j.cps.toList))) H) fLt:=by
 intro ρ h H x y v u Q r rx ry fin
 unfold fLt at fin
 split at fin
 ·simp only [RD] at rx ry; subst rx; subst ry
  exact .inl ⟨_,_,rfl,rfl,FE.here fin r (by simp [RD])⟩
 ·simp only [RD] at rx ry; subst rx; subst ry
  exact .inr ⟨_,_,rfl,rfl,FE.here fin r (by simp [RD])⟩
 ·exact fin.elim
theorem br_le {K:PySem.W.Frag}:BR K EX (fun x y H Q=>rI0 (fun i j=>.bl (decide (i ≤ j))) x y H Q∨∃ i j,x = .str i∧y = .str j∧Q (.bl (!decide (j.cps.toList < i.cps.toList))) H) fLe:=by
 intro ρ h H x y v u Q r rx ry fin
 unfold fLe at fin
 split at fin
 ·simp only [RD] at rx ry; subst rx; subst ry
  exact .inl ⟨_,_,rfl,rfl,FE.here fin r (by simp [RD])⟩
 ·simp only [RD] at rx ry; subst rx; subst ry
  exact .inr ⟨_,_,rfl,rfl,FE.here fin r (by simp [RD])⟩
 ·exact fin.elim
def eqD:D→D→Option Bool
 | .int i,.int j=>some (decide (i = j))
 | .str i,.str j=>some (decide (i = j))
 | .bl i,.bl j=>some (decide (i = j))
 | .non,.non=>some true
 | .int _,.str _=>some false
 | .str _,.int _=>some false
 | .non,.int _=>some false
 | .int _,.non=>some false
 | .non,.str _=>some false
 | .str _,.non=>some false
 | _,_=>none
def fEq (neg:Bool):D→D→M D:=fun x y=>match eqD x y with
 | some b=>pure (.bl (b != neg))
 | none=>bad
theorem eqD_rel {K:PySem.W.Frag} {ρ:List Addr} {H:Hp} {x y:D} {v u:V} {k:Bool} (e:eqD x y = some k) (rx:RD K ρ H x v) (ry:RD K ρ H y u):scal v u = true∧decide (v = u) = k:=by
 cases x <;> cases y <;> first
  | (have e':none = some k:=e
     exact nomatch e')
  | (simp only [eqD] at e
     simp only [RD] at rx ry
     subst rx
     subst ry
     cases e
     exact ⟨rfl,by simp⟩)
theorem br_eq {K:PySem.W.Frag}:BR K EX rEq (fEq false):=by
 intro ρ h H x y v u Q r rx ry fin
 unfold fEq at fin
 cases hk:eqD x y with
 | none=>rw [hk] at fin; exact fin.elim
 | some k =>
  rw [hk] at fin
  obtain ⟨h1,h2⟩:=eqD_rel hk rx ry
  refine ⟨h1,?_⟩
  rw [h2]
  refine FE.here fin r ?_
  cases k <;> simp [RD]
def flatD:D→Bool
 | .non=>true
 | .bl _=>true
 | .int _=>true
 | .str _=>true
 | _=>false
def eqF:D→D→Bool
 | .non,.non=>true
 | .bl a,.bl b=>a == b
 | .bl a,.int b=>(if a then 1 else 0) == b
 | .int a,.bl b=>a == (if b then 1 else 0)
 | .int a,.int b=>a == b
 | .str a,.str b=>a == b
 | _,_=>false
def seqD:D→M (List D)
 | .tup xs=>pure xs
 | .fl xs=>pure xs
 | .ref n=>getL n
 | _=>bad
def fIn (neg:Bool):D→D→M D:=fun x y=>do
 let ys ← seqD y
 if flatD x && ys.all flatD then pure (.bl ((ys.any fun z=>eqF z x) != neg)) else bad
theorem flat_rel {K:PySem.W.Frag} {ρ:List Addr} {H:Hp} {x:D} {v:V} (f:flatD x = true) (r:RD K ρ H x v):flatV v = true:=by
 cases x <;> simp only [RD] at r <;> first | (subst r; rfl) | cases f
theorem eqF_rel {K:PySem.W.Frag} {ρ:List Addr} {H:Hp} {x y:D} {v u:V} (f:flatD x = true) (f':flatD y = true) (r:RD K ρ H x v) (r':RD K ρ H y u):eqV v u = eqF x y:=by
 cases x with
 | non=>simp only [RD] at r; subst r; cases y <;> first | (simp only [RD] at r'; subst r'; rfl) | cases f'
 | bl b=>simp only [RD] at r; subst r; cases y <;> first | (simp only [RD] at r'; subst r'; rfl) | cases f'
 | int b=>simp only [RD] at r; subst r; cases y <;> first | (simp only [RD] at r'; subst r'; rfl) | cases f'
 | str b=>simp only [RD] at r; subst r; cases y <;> first | (simp only [RD] at r'; subst r'; rfl) | cases f'
 | tup b=>cases f
 | fl b=>cases f
 | ref b=>cases f
theorem flats_rel {K:PySem.W.Frag} {ρ:List Addr} {H:Hp}:∀ {xs:List D} {vs:List V},RDs K ρ H xs vs→xs.all flatD = true→vs.all flatV = true
 | [],vs,r,_=>by simp only [RDs] at r; subst r; rfl
 | x :: xs,vs,r,f=>by
  simp only [RDs] at r
  obtain ⟨v,r2,rfl,h1,h2⟩:=r
  rw [List.all_cons,Bool.and_eq_true] at f ⊢
  exact ⟨flat_rel f.1 h1,flats_rel h2 f.2⟩
theorem any_rel {K:PySem.W.Frag} {ρ:List Addr} {H:Hp} {x:D} {v:V} (f:flatD x = true) (r:RD K ρ H x v):∀ {xs:List D} {vs:List V},RDs K ρ H xs vs→xs.all flatD = true→(vs.any fun y=>eqV y v) = xs.any fun z=>eqF z x
 | [],vs,rs,_=>by simp only [RDs] at rs; subst rs; rfl
 | y :: xs,vs,rs,fs=>by
  simp only [RDs] at rs
  obtain ⟨u,r2,rfl,h1,h2⟩:=rs
  rw [List.all_cons,Bool.and_eq_true] at fs
  rw [List.any_cons,List.any_cons,eqF_rel fs.1 f h1 r,any_rel f r h2 fs.2]
theorem seqD_rel {K:PySem.W.Frag} {ρ:List Addr} {h h1:AH} {H:Hp} {y:D} {u:V} {ys:List D} (r:RH K ρ h H) (ry:RD K ρ H y u) (e:seqD y h = .ok ys h1):h1 = h∧∃ p xs,u = .ref p∧(SqL K H p xs∨SqT K H p xs)∧RDs K ρ H ys xs:=by
 unfold seqD at e
 split at e
 ·cases e; simp only [RD] at ry; obtain ⟨p,xs,rfl,h2,h3⟩:=ry; exact ⟨rfl,p,xs,rfl,.inr h2,h3⟩
 ·cases e; simp only [RD] at ry; obtain ⟨p,xs,rfl,h2,h3⟩:=ry; exact ⟨rfl,p,xs,rfl,.inl h2.sq,h3⟩
 ·obtain ⟨rfl,q⟩:=getL_ok e
  simp only [RD] at ry; obtain ⟨p,rfl,h2⟩:=ry
  obtain ⟨a,n1,xs,o1,d1⟩:=r.at q
  rw [h2] at n1; cases n1
  exact ⟨rfl,p,xs,rfl,.inl (SqL.of o1),d1⟩
 ·cases e
theorem seqD_no {y:D} {h h1:AH} {x:Exn} (e:seqD y h = .err x h1):False:=by
 unfold seqD at e
 split at e
 ·cases e
 ·cases e
 ·exact getL_no e
 ·cases e
theorem br_in {K:PySem.W.Frag} {neg:Bool}:BR K EX (rIn K neg) (fIn neg):=by
 intro ρ h H x y v u Q r rx ry fin
 have f1:=Fin.bind fin
 cases e:seqD y h with
 | bad=>rw [e] at f1; exact f1.elim
 | err z hz=>exact (seqD_no e).elim
 | ok ys h1 =>
  obtain ⟨rfl,p,xs,rfl,hs,hd⟩:=seqD_rel r ry e
  rw [e] at f1
  have f2:=f1 ρ H (Pre.refl _) (Ext.refl _ _) r
  dsimp only at f2
  split at f2
  ·rename_i hc
   rw [Bool.and_eq_true] at hc
   refine ⟨p,xs,rfl,hs,flat_rel hc.1 rx,flats_rel hd hc.2,?_⟩
   refine FE.here f2 r ?_
   unfold inV
   rw [any_rel hc.1 rx hd hc.2]
   cases neg <;> simp [RD]
  ·exact f2.elim
end
section
variable {env:Env} {es:List Expr}
theorem st_Constant {c k p}:starEach (.Constant c k p :: es) env = (false,eval (.Constant c k p) env) :: starEach es env:=rfl
theorem st_Name {c p}:starEach (.Name c p :: es) env = (false,eval (.Name c p) env) :: starEach es env:=rfl
theorem st_Call {a b c p}:starEach (.Call a b c p :: es) env = (false,eval (.Call a b c p) env) :: starEach es env:=rfl
theorem st_BinOp {a b c p}:starEach (.BinOp a b c p :: es) env = (false,eval (.BinOp a b c p) env) :: starEach es env:=rfl
theorem st_Compare {a b c p}:starEach (.Compare a b c p :: es) env = (false,eval (.Compare a b c p) env) :: starEach es env:=rfl
theorem st_Subscript {a b p}:starEach (.Subscript a b p :: es) env = (false,eval (.Subscript a b p) env) :: starEach es env:=rfl
theorem st_Tuple {a b p}:starEach (.Tuple a b p :: es) env = (false,eval (.Tuple a b p) env) :: starEach es env:=rfl
theorem st_List {a p}:starEach (.List a p :: es) env = (false,eval (.List a p) env) :: starEach es env:=rfl
theorem st_UnaryOp {a b p}:starEach (.UnaryOp a b p :: es) env = (false,eval (.UnaryOp a b p) env) :: starEach es env:=rfl
theorem st_ListComp {a b c p}:starEach (.ListComp a b c p :: es) env = (false,eval (.ListComp a b c p) env) :: starEach es env:=rfl
end
section
variable {X:Cx} {EX:XX} {a b c e:Expr} {pos:Pos} {ma mb mc:G→M D}
def CO (X:Cx) (EX:XX) (op:CmpOp) (f:D→D→M D):Prop:=∃ r,OpR X (compareOp op) r∧BR X.K EX r f
theorem co_lt:CO X EX .Lt fLt:=⟨_,op_lt.or op_lt_str,br_lt⟩
theorem co_le:CO X EX .LtE fLe:=⟨_,op_le.or op_le_str,br_le⟩
theorem co_gt:CO X EX .Gt fGt:=⟨_,op_gt,br_I0 fun i j ρ H=>by simp [RD]⟩
theorem co_ge:CO X EX .GtE fGe:=⟨_,op_ge,br_I0 fun i j ρ H=>by simp [RD]⟩
theorem co_eq:CO X EX .Eq (fEq false):=⟨_,op_eq,br_eq⟩
theorem co_in:CO X EX .In (fIn false):=⟨_,op_in_seq,br_in⟩
theorem co_notin:CO X EX .NotIn (fIn true):=⟨_,op_notIn_seq,br_in⟩
def fIs (neg:Bool):D→D→M D:=fun x y=>match y with
 | .non=>(match x with
  | .non=>pure (.bl (true != neg))
  | .bl _=>pure (.bl (false != neg))
  | .int _=>pure (.bl (false != neg))
  | .str _=>pure (.bl (false != neg))
  | .tup _=>pure (.bl (false != neg))
  | .ref _=>pure (.bl (false != neg))
  | .fl _=>pure (.bl (false != neg)))
 | .bl k=>(match x with
  | .bl j=>pure (.bl ((j == k) != neg))
  | .non=>pure (.bl (false != neg))
  | .int _=>pure (.bl (false != neg))
  | .str _=>pure (.bl (false != neg))
  | .tup _=>pure (.bl (false != neg))
  | .ref _=>pure (.bl (false != neg))
  | .fl _=>pure (.bl (false != neg)))
 | _=>bad
theorem op_is_bl (neg:Bool):OpR X (compareOp (if neg then .IsNot else .Is)) (fun x y H Q=>(y = .non∧Q (.bl ((decide (x = .non)) != neg)) H)∨∃ k,y = .bl k∧Q (.bl ((decide (x = .bl k)) != neg)) H):=by
 intro pins s σ H x y v u Q I rx ry h
 have pl:∀ {a b:Value},plainIs a b = true→EP X pins σ Q (.bool ((a == b) != neg)) s→wpAny (model X.prog X.w) X.A (compareOp (if neg then .IsNot else .Is) a b) (EP X pins σ Q) X.xe s:=fun {a b} hp hq=>by
  cases neg with
  | false=>exact wpAny_is_plain hp (by simpa using hq)
  | true=>exact wpAny_isNot_plain hp (by simpa using hq)
 rcases h with ⟨rfl,q⟩ | ⟨k,rfl,q⟩
 ·cases ry
  have fin:∀ {a:Value} {w:Bool},w = decide (x = .non)→(a == Value.none) = w→EP X pins σ Q (.bool ((a == Value.none) != neg)) s:=fun {a w} e1 e2=>by
   rw [e2,e1]; exact ⟨.bl _,H,I,rfl,q⟩
  cases x with
  | non=>cases rx; exact pl rfl (fin (w:=true) (by simp) rfl)
  | bl j=>cases rx; exact pl rfl (fin (w:=false) (by simp) rfl)
  | int j=>obtain ⟨t,rfl⟩:=rx; exact pl rfl (fin (w:=false) (by simp) rfl)
  | str j=>obtain ⟨t,rfl⟩:=rx; exact pl rfl (fin (w:=false) (by simp) rfl)
  | byt j=>obtain ⟨t,rfl⟩:=rx; exact pl rfl (fin (w:=false) (by simp) rfl)
  | flt j=>obtain ⟨t,rfl⟩:=rx; exact pl rfl (fin (w:=false) (by simp) rfl)
  | ref j=>cases rx; exact pl rfl (fin (w:=false) (by simp) rfl)
  | ty j=>cases rx; exact pl rfl (fin (w:=false) (by simp) rfl)
 ·cases ry
  have fin:∀ {a:Value} {w:Bool},w = decide (x = .bl k)→(a == Value.bool k) = w→EP X pins σ Q (.bool ((a == Value.bool k) != neg)) s:=fun {a w} e1 e2=>by
   rw [e2,e1]; exact ⟨.bl _,H,I,rfl,q⟩
  cases x with
  | non=>cases rx; exact pl rfl (fin (w:=false) (by simp) rfl)
  | bl j=>cases rx; exact pl rfl (fin (w:=(j == k)) (by rw [Bool.eq_iff_iff]; simp) (by cases j <;> cases k <;> rfl))
  | int j=>obtain ⟨t,rfl⟩:=rx; exact pl rfl (fin (w:=false) (by simp) rfl)
  | str j=>obtain ⟨t,rfl⟩:=rx; exact pl rfl (fin (w:=false) (by simp) rfl)
  | byt j=>obtain ⟨t,rfl⟩:=rx; exact pl rfl (fin (w:=false) (by simp) rfl)
  | flt j=>obtain ⟨t,rfl⟩:=rx; exact pl rfl (fin (w:=false) (by simp) rfl)
  | ref j=>cases rx; exact pl rfl (fin (w:=false) (by simp) rfl)
  | ty j=>cases rx; exact pl rfl (fin (w:=false) (by simp) rfl)
theorem isnon_rel {K:PySem.W.Frag} {ρ:List Addr} {H:Hp} {x:D} {v:V} (rx:RD K ρ H x v):decide (v = .non) = (match x with | .non=>true | _=>false):=by
 cases x <;> simp only [RD] at rx
 case non=>subst rx; simp
 case bl=>subst rx; simp
 case int=>subst rx; simp
 case str=>subst rx; simp
 case tup=>obtain ⟨a,xs,rfl,_⟩:=rx; simp
 case fl=>obtain ⟨a,xs,rfl,_⟩:=rx; simp
 case ref=>obtain ⟨a,rfl,_⟩:=rx; simp
theorem isbl_rel {K:PySem.W.Frag} {ρ:List Addr} {H:Hp} {x:D} {v:V} {k:Bool} (rx:RD K ρ H x v):decide (v = .bl k) = (match x with | .bl j=>j == k | _=>false):=by
 cases x <;> simp only [RD] at rx
 case non=>subst rx; simp
 case bl j=>subst rx; cases j <;> cases k <;> rfl
 case int=>subst rx; simp
 case str=>subst rx; simp
 case tup=>obtain ⟨a,xs,rfl,_⟩:=rx; simp
 case fl=>obtain ⟨a,xs,rfl,_⟩:=rx; simp
 case ref=>obtain ⟨a,rfl,_⟩:=rx; simp
theorem br_is {K:PySem.W.Frag} (neg:Bool):BR K EX (fun x y H Q=>(y = .non∧Q (.bl ((decide (x = .non)) != neg)) H)∨∃ k,y = .bl k∧Q (.bl ((decide (x = .bl k)) != neg)) H) (fIs neg):=by
 intro ρ h H x y v u Q r rx ry fin
 cases y with
 | non =>
  simp only [RD] at ry
  refine .inl ⟨ry,?_⟩
  rw [isnon_rel rx]
  cases x <;> first | exact (show False from fin).elim | exact FE.here fin r (by simp [RD])
 | bl k =>
  simp only [RD] at ry
  refine .inr ⟨k,ry,?_⟩
  rw [isbl_rel rx]
  cases x <;> first | exact (show False from fin).elim | exact FE.here fin r (by simp [RD])
 | _=>exact (show False from fin).elim
theorem co_is:CO X EX .Is (fIs false):=⟨_,op_is_bl false,br_is false⟩
theorem se_c {op:CmpOp} {f:D→D→M D} (h:CO X EX op f) (ha:SE X EX a ma) (hb:SE X EX b mb) (hm:behindInMarks op b = false:=by first | exact nomark _ | with_unfolding_all rfl):SE X EX (.Compare a [op] [b] pos) (e2 f ma mb):=by
 obtain ⟨r,h1,h2⟩:=h
 exact se_cmp h1 h2 ha hb hm
def asB:D→M Bool
 | .bl b=>pure b
 | _=>bad
theorem tT_of {t:TE} {m:G→M D} (h:∀ σ H Q,tE X.K EX m σ H Q→t σ H Q):∀ σ H Q,tT X.K EX (fun γ=>do let d ← m γ; asB d) σ H Q→tTest t σ H Q:=by
 intro σ H Q ⟨ρ,γ,h0,rel,fin⟩
 refine h σ H _ ⟨ρ,γ,h0,rel,(Fin.bind fin).mono fun d ρ1 h1 H1 p1 e1 r1 f1 v rv=>?_⟩
 cases d <;> first | exact (show False from f1).elim | skip
 rename_i b
 simp only [RD] at rv
 exact ⟨b,rv,f1 ρ1 H1 (Pre.refl _) (Ext.refl _ _) r1⟩
theorem sc_c {op:CmpOp} {f:D→D→M D} (h:CO X EX op f) (ha:SE X EX a ma) (hb:SE X EX b mb) (hm:behindInMarks op b = false:=by first | exact nomark _ | with_unfolding_all rfl):SC X EX (.Compare a [op] [b] pos) (fun γ=>do let d ← e2 f ma mb γ; asB d):=by
 constructor
 obtain ⟨r,h1,h2⟩:=h
 refine PT.imp (pt_cmpR h1 ha.h hb.h hm) (tT_of fun σ H Q ⟨ρ,γ,h,rel,fin⟩=>?_)
 exact ⟨ρ,γ,h,rel,(Fin.bind fin).mono fun x ρ1 h1 H1 p1 e1 r1 f1 v rv=>⟨ρ1,γ,h1,⟨rel.g.mono p1 e1,r1⟩,(Fin.bind f1).mono fun y ρ2 h3 H2 p2 e2 r2 f2 u ru =>
  h2 ρ2 h3 H2 x y v u Q r2 (rv.mono p2 e2) ru f2⟩⟩
def e3 (f g:D→D→M D) (ma mb mc:G→M D):G→M D:=fun γ=>do
 let x ← ma γ
 let y ← mb γ
 let k ← f x y
 let t ← asB k
 if t then do
  let z ← mc γ
  g y z
 else pure (.bl false)
theorem chain_of {r r':R2} {f g:D→D→M D} (h2:BR X.K EX r f) (h4:BR X.K EX r' g):∀ σ H Q,tE X.K EX (e3 f g ma mb mc) σ H Q→tChain r r' (tE X.K EX ma) (tE X.K EX mb) (tE X.K EX mc) σ H Q:=by
 intro σ H Q ⟨ρ,γ,h,rel,fin⟩
 refine ⟨ρ,γ,h,rel,(Fin.bind fin).mono fun x ρ1 h1 H1 p1 e1 r1 f1 v rv=>⟨ρ1,γ,h1,⟨rel.g.mono p1 e1,r1⟩,(Fin.bind f1).mono fun y ρ2 h3 H2 p2 e2 r2 f2 u ru=>?_⟩⟩
 refine h2 ρ2 h3 H2 x y v u _ r2 (rv.mono p2 e2) ru ((Fin.bind f2).mono fun k ρ3 h5 H3 p3 e3 r3 f3 z rz=>?_)
 cases k <;> first | exact (show False from f3).elim | skip
 rename_i t
 simp only [RD] at rz
 refine ⟨t,rz,?_⟩
 cases t with
 | false =>
  rw [if_neg (by decide)]
  exact FE.here (d:=.bl false) (h:=h5) (ρ:=ρ3) f3 r3 (by simp [RD])
 | true =>
  rw [if_pos rfl]
  have f4:Fin X.K EX ρ3 H3 (fun d ρ' _ H'=>∀ v,RD X.K ρ' H' d v→Q v H') ((mc γ >>= fun z=>g y z) h5):=f3
  exact ⟨ρ3,γ,h5,⟨((rel.g.mono p1 e1).mono p2 e2).mono p3 e3,r3⟩,(Fin.bind f4).mono fun w ρ4 h6 H4 p4 e4 r4 f5 q rq=>h4 ρ4 h6 H4 y w u q Q r4 ((ru.mono p3 e3).mono p4 e4) rq f5⟩
theorem se_c2 {op op':CmpOp} {f g:D→D→M D} (h:CO X EX op f) (h':CO X EX op' g) (ha:SE X EX a ma) (hb:SE X EX b mb) (hc:SE X EX c mc) (hm:lastMarks [op,op'] [b,c] = false:=by with_unfolding_all rfl):SE X EX (.Compare a [op,op'] [b,c] pos) (e3 f g ma mb mc):=by
 constructor
 obtain ⟨r,h1,h2⟩:=h
 obtain ⟨r',h3,h4⟩:=h'
 exact PE.imp (pe_chain h1 h3 ha.h hb.h hc.h hm) (chain_of h2 h4)
def eAnd (ma mb:G→M D):G→M D:=fun γ=>do
 let x ← ma γ
 let t ← asB x
 if t then mb γ else pure (.bl false)
def eNot (ma:G→M D):G→M D:=fun γ=>do
 let x ← ma γ
 let t ← asB x
 pure (.bl (!t))
variable {rest:List Expr}
theorem se_one {op:PySem.BoolOp} (ha:SE X EX a ma):SE X EX (.BoolOp op [a] pos) ma:=⟨pe_one ha.h⟩
theorem se_band (ha:SE X EX a ma) (hb:SE X EX (.BoolOp .And (b :: rest) pos) mb):SE X EX (.BoolOp .And (a :: b :: rest) pos) (eAnd ma mb) :=
 ⟨PE.imp (pe_and ha.h hb.h) fun σ H Q ⟨ρ,γ,h,rel,fin⟩=>⟨ρ,γ,h,rel,(Fin.bind fin).mono fun x ρ1 h1 H1 p1 e1 r1 f1 v rv=>by
  cases x <;> first | exact (show False from f1).elim | skip
  rename_i t
  simp only [RD] at rv
  refine ⟨t,rv,?_⟩
  cases t with
  | true=>exact ⟨ρ1,γ,h1,⟨rel.g.mono p1 e1,r1⟩,f1⟩
  | false=>exact FE.here (d:=.bl false) (h:=h1) (ρ:=ρ1) f1 r1 (by simp [RD])⟩⟩
theorem se_bnot (ha:SE X EX a ma):SE X EX (.UnaryOp .Not a pos) (eNot ma) :=
 ⟨PE.imp (pe_not ha.h) fun σ H Q ⟨ρ,γ,h,rel,fin⟩=>⟨ρ,γ,h,rel,(Fin.bind fin).mono fun x ρ1 h1 H1 p1 e1 r1 f1 v rv=>by
  cases x <;> first | exact (show False from f1).elim | skip
  rename_i t
  simp only [RD] at rv
  exact ⟨t,rv,FE.here (d:=.bl (!t)) (h:=h1) (ρ:=ρ1) f1 r1 (by simp [RD])⟩⟩⟩
structure SW (X:Cx) (EX:XX) (e:Expr) (m:G→M Bool):Prop where
 h:PW X e (tT X.K EX m)
theorem PW.imp {X:Cx} {e:Expr} {t t':TT} (h:PW X e t) (f:∀ σ H Q,t' σ H Q→t σ H Q):PW X e t':=fun w pins s σ H Q I z=>h w pins s σ H Q I (f σ H Q z)
variable {ka kb kc:G→M Bool}
def cAnd (ka kb:G→M Bool):G→M Bool:=fun γ=>do
 let t ← ka γ
 if t then kb γ else pure false
def cOr (ka kb:G→M Bool):G→M Bool:=fun γ=>do
 let t ← ka γ
 if t then pure true else kb γ
def cNot (ka:G→M Bool):G→M Bool:=fun γ=>do
 let t ← ka γ
 pure (!t)
theorem sw_and1 (ha:SC X EX a ka):SW X EX (.BoolOp .And [a] pos) ka:=⟨pw_and1 ha.h⟩
theorem sw_or1 (ha:SC X EX a ka):SW X EX (.BoolOp .Or [a] pos) ka:=⟨pw_or1 ha.h⟩
theorem sw_and (ha:SC X EX a ka) (hb:SW X EX (.BoolOp .And (b :: rest) pos) kb):SW X EX (.BoolOp .And (a :: b :: rest) pos) (cAnd ka kb) :=
 ⟨PW.imp (pw_and ha.h hb.h) fun σ H Q ⟨ρ,γ,h,rel,fin⟩=>⟨ρ,γ,h,rel,(Fin.bind fin).mono fun t ρ1 h1 H1 p1 e1 r1 f1=>by
  cases t with
  | true=>exact ⟨ρ1,γ,h1,⟨rel.g.mono p1 e1,r1⟩,f1⟩
  | false=>exact f1 ρ1 H1 (Pre.refl _) (Ext.refl _ _) r1⟩⟩
theorem sw_or (ha:SC X EX a ka) (hb:SW X EX (.BoolOp .Or (b :: rest) pos) kb):SW X EX (.BoolOp .Or (a :: b :: rest) pos) (cOr ka kb) :=
 ⟨PW.imp (pw_or ha.h hb.h) fun σ H Q ⟨ρ,γ,h,rel,fin⟩=>⟨ρ,γ,h,rel,(Fin.bind fin).mono fun t ρ1 h1 H1 p1 e1 r1 f1=>by
  cases t with
  | false=>exact ⟨ρ1,γ,h1,⟨rel.g.mono p1 e1,r1⟩,f1⟩
  | true=>exact f1 ρ1 H1 (Pre.refl _) (Ext.refl _ _) r1⟩⟩
theorem SW.sc (h:SW X EX e ka):SC X EX e ka:=⟨PW.pt h.h⟩
theorem sc_not (ha:SC X EX a ka):SC X EX (.UnaryOp .Not a pos) (cNot ka) :=
 ⟨PT.imp (pt_not ha.h) fun σ H Q ⟨ρ,γ,h,rel,fin⟩=>⟨ρ,γ,h,rel,(Fin.bind fin).mono fun t ρ1 h1 H1 p1 e1 r1 f1=>f1 ρ1 H1 (Pre.refl _) (Ext.refl _ _) r1⟩⟩
def truD:D→M Bool
 | .non=>pure false
 | .bl b=>pure b
 | .int i=>pure (i != 0)
 | .str y=>if y.length ≤ sizeLine then pure (decide (y.length ≠ 0)) else bad
 | .tup xs=>pure (!xs.isEmpty)
 | .fl xs=>pure (!xs.isEmpty)
 | .ref n=>do
  let xs ← getL n
  pure (!xs.isEmpty)
def cVal (ma:G→M D):G→M Bool:=fun γ=>do
 let x ← ma γ
 truD x
theorem isE {K:PySem.W.Frag} {ρ:List Addr} {H:Hp} {ds:List D} {xs:List V} (h:RDs K ρ H ds xs):ds.isEmpty = xs.isEmpty:=by
 have:=h.length
 cases ds <;> cases xs <;> simp at this ⊢
theorem tru_rel {ρ:List Addr} {h:AH} {H:Hp} {x:D} {v:V} {Q:Bool→Hp→Prop} (r:RH X.K ρ h H) (rx:RD X.K ρ H x v) (f:Fin X.K EX ρ H (fun b _ _ H'=>Q b H') (truD x h)):∃ k,TruV X.K v H k∧Q k H:=by
 cases x with
 | non=>simp only [RD] at rx; subst rx; exact ⟨false,rfl,f ρ H (Pre.refl _) (Ext.refl _ _) r⟩
 | bl b=>simp only [RD] at rx; subst rx; exact ⟨b,rfl,f ρ H (Pre.refl _) (Ext.refl _ _) r⟩
 | int b=>simp only [RD] at rx; subst rx; exact ⟨_,rfl,f ρ H (Pre.refl _) (Ext.refl _ _) r⟩
 | str y =>
  simp only [RD] at rx; subst rx
  have f':Fin X.K EX ρ H (fun b _ _ H'=>Q b H') ((if y.length ≤ sizeLine then pure (decide (y.length ≠ 0)) else bad:M Bool) h):=f
  by_cases hl:y.length ≤ sizeLine
  ·rw [if_pos hl] at f'
   refine ⟨decide (y.length ≠ 0),⟨hl,?_⟩,f' ρ H (Pre.refl _) (Ext.refl _ _) r⟩
   rw [Bool.eq_iff_iff]; simp
  ·rw [if_neg hl] at f'; exact f'.elim
 | tup xs =>
  simp only [RD] at rx; obtain ⟨a,vs,rfl,h1,h2⟩:=rx
  exact ⟨!xs.isEmpty,.inr (.inl ⟨vs,h1,by rw [isE h2]⟩),f ρ H (Pre.refl _) (Ext.refl _ _) r⟩
 | fl xs =>
  simp only [RD] at rx; obtain ⟨a,vs,rfl,h1,h2⟩:=rx
  exact ⟨!xs.isEmpty,.inl ⟨vs,h1.sq,by rw [isE h2]⟩,f ρ H (Pre.refl _) (Ext.refl _ _) r⟩
 | ref n =>
  have f1:=Fin.bind f
  cases e:getL n h with
  | bad=>rw [e] at f1; exact f1.elim
  | err z hz=>exact (getL_no e).elim
  | ok xs h1 =>
   obtain ⟨rfl,q1⟩:=getL_ok e
   rw [e] at f1
   have f2:=f1 ρ H (Pre.refl _) (Ext.refl _ _) r
   simp only [RD] at rx; obtain ⟨a,rfl,h2⟩:=rx
   obtain ⟨a1,n1,vs,o1,d1⟩:=r.at q1
   rw [h2] at n1; cases n1
   exact ⟨!xs.isEmpty,.inl ⟨vs,SqL.of o1,by rw [isE d1]⟩,f2 ρ H (Pre.refl _) (Ext.refl _ _) r⟩
theorem sc_val (ha:SE X EX a ma) (he:∀ whole,isTrue a X.env whole = (do let v ← whole; standAt a.pos; holding [v] (truthy v)):=by intro _; rfl):SC X EX a (cVal ma) :=
 ⟨PT.imp (pt_truth ha.h he) fun σ H Q ⟨ρ,γ,h,rel,fin⟩=>⟨ρ,γ,h,rel,(Fin.bind fin).mono fun x ρ1 h1 H1 p1 e1 r1 f1 v rv=>tru_rel r1 rv f1⟩⟩
def aNil:G→M (List D):=fun _=>pure []
def aCons (ma:G→M D) (mr:G→M (List D)):G→M (List D):=fun γ=>do
 let x ← ma γ
 let r ← mr γ
 pure (x :: r)
variable {es:List Expr} {mr:G→M (List D)}
theorem sa_nil:SA X EX [] aNil:=⟨PA.imp pa_nil fun σ H Q ⟨ρ,γ,h,rel,fin⟩=>fin ρ H (Pre.refl _) (Ext.refl _ _) rel.h [] RDs.nil⟩
theorem sa_cons (ha:SE X EX a ma) (hr:SA X EX es mr) (hs:starEach (a :: es) X.env = (false,eval a X.env) :: starEach es X.env:=by first | exact st_Constant | exact st_Name | exact st_Call | exact st_BinOp | exact st_Compare | exact st_Subscript | exact st_Tuple | exact st_List | exact st_UnaryOp | exact st_ListComp | rfl):SA X EX (a :: es) (aCons ma mr) :=
 ⟨PA.imp (pa_cons ha.h hr.h hs) fun σ H Q ⟨ρ,γ,h,rel,fin⟩=>⟨ρ,γ,h,rel,(Fin.bind fin).mono fun x ρ1 h1 H1 p1 e1 r1 f1 v rv=>⟨ρ1,γ,h1,⟨rel.g.mono p1 e1,r1⟩,(Fin.bind f1).mono fun ds ρ2 h2 H2 p2 e2 r2 f2 vs rvs =>
  f2 ρ2 H2 (Pre.refl _) (Ext.refl _ _) r2 (v :: vs) (RDs.cons (rv.mono p2 e2) rvs)⟩⟩⟩
def eTup (mr:G→M (List D)):G→M D:=fun γ=>do
 let xs ← mr γ
 if xs.length ≤ sizeLine then pure (.tup xs) else bad
def eLst (mr:G→M (List D)):G→M D:=fun γ=>do
 let xs ← mr γ
 newL xs
theorem se_tup {k:Nat} (h:SA X EX es mr):SE X EX (.Tuple es k pos) (eTup mr) :=
 ⟨PE.imp (pe_tup h.h) fun σ H Q ⟨ρ,γ,h,rel,fin⟩=>⟨ρ,γ,h,rel,(Fin.bind fin).mono fun xs ρ1 h1 H1 p1 e1 r1 f1 vs rvs=>by
  by_cases hl:xs.length ≤ sizeLine
  ·rw [if_pos hl] at f1
   exact ⟨by rw [← rvs.length]; exact hl,fun p hp=>FE.tup (h:=h1) f1 r1 rvs hp⟩
  ·rw [if_neg hl] at f1; exact (show False from f1).elim⟩⟩
theorem se_lst (h:SA X EX es mr):SE X EX (.List es pos) (eLst mr) :=
 ⟨PE.imp (pe_lst h.h) fun σ H Q ⟨ρ,γ,h,rel,fin⟩=>⟨ρ,γ,h,rel,(Fin.bind fin).mono fun xs ρ1 h1 H1 p1 e1 r1 f1 vs rvs=>by
  unfold newL at f1
  split at f1
  ·rename_i hl
   exact ⟨by rw [← rvs.length]; exact hl,fun p hp=>FE.lst (h:=h1) f1 r1 rvs hp⟩
  ·exact (show False from f1).elim⟩⟩
def fIx:D→D→M D
 | .str z,.int i=>if z.length ≤ sizeLine then (match atI z.cps.toList i with
  | some c=>pure (.str ⟨#[c]⟩)
  | none=>bad) else bad
 | x,.int i=>do
  let xs ← seqD x
  match atI xs i with
  | some d=>pure d
  | none=>bad
 | _,_=>bad
theorem atI_rel {K:PySem.W.Frag} {ρ:List Addr} {H:Hp} {ds:List D} {xs:List V} {i:Int} {d:D} (h:RDs K ρ H ds xs) (e:atI ds i = some d):∃ x,atI xs i = some x∧RD K ρ H d x:=by
 unfold atI at e ⊢
 rw [← h.length]
 cases q:ixN ds.length i with
 | none=>rw [q] at e; cases e
 | some j=>rw [q] at e; exact h.get e
theorem br_ix:BR X.K EX (rIx X.K) fIx:=by
 intro ρ h H x y v u Q r rx ry fin
 unfold fIx at fin
 split at fin
 ·simp only [RD] at rx ry; subst rx; subst ry
  rename_i z i
  by_cases hl:z.length ≤ sizeLine
  ·rw [if_pos hl] at fin
   cases hc:atI z.cps.toList i with
   | none=>rw [hc] at fin; exact fin.elim
   | some c =>
    rw [hc] at fin
    exact .inr (.inr ⟨_,_,c,rfl,rfl,hl,hc,FE.here fin r (by simp [RD])⟩)
  ·rw [if_neg hl] at fin; exact fin.elim
 ·rename_i i _
  simp only [RD] at ry; subst ry
  have f1:=Fin.bind fin
  cases e:seqD x h with
  | bad=>rw [e] at f1; exact f1.elim
  | err z hz=>exact (seqD_no e).elim
  | ok ys h1 =>
   obtain ⟨rfl,p,xs,rfl,hs,hd⟩:=seqD_rel r rx e
   rw [e] at f1
   have f2:=f1 ρ H (Pre.refl _) (Ext.refl _ _) r
   dsimp only at f2
   cases q:atI ys i with
   | none=>rw [q] at f2; exact f2.elim
   | some d =>
    rw [q] at f2
    obtain ⟨w,h2,h3⟩:=atI_rel hd q
    rcases hs with hs | hs
    ·exact .inl ⟨p,xs,i,w,rfl,rfl,hs,h2,FE.here f2 r h3⟩
    ·exact .inr (.inl ⟨p,xs,i,w,rfl,rfl,hs,h2,FE.here f2 r h3⟩)
 ·exact fin.elim
theorem se_ix (ha:SE X EX a ma) (hb:SE X EX b mb) (hs:PlainIx b:=by intro _ _; rfl):SE X EX (.Subscript a b pos) (e2 fIx ma mb) :=
 se_two (ta:=tE X.K EX ma) (tb:=tE X.K EX mb) (pe_ix ix_seq ha.h hb.h hs) br_ix
end
section
variable {X:Cx} {EX:XX} {a b c e:Expr} {pos p p2:Pos} {ma mb mc:G→M D} {es:List Expr} {mr:G→M (List D)}
def AR (K:PySem.W.Frag) (EX:XX) (r:List V→Hp→VK→Prop) (f:List D→M D):Prop:=∀ ρ h H ds vs Q,RH K ρ h H→RDs K ρ H ds vs→FE K EX ρ H Q (f ds h)→r vs H Q
def eCall (f:List D→M D) (mr:G→M (List D)):G→M D:=fun γ=>do
 let xs ← mr γ
 f xs
theorem se_args {r:List V→Hp→VK→Prop} {f:List D→M D} (h:PE X e (tCB r (tL X.K EX mr))) (hr:AR X.K EX r f):SE X EX e (eCall f mr) :=
 ⟨PE.imp h fun σ H Q ⟨ρ,γ,h,rel,fin⟩=>⟨ρ,γ,h,rel,(Fin.bind fin).mono fun xs ρ1 h1 H1 p1 e1 r1 f1 vs rvs=>hr ρ1 h1 H1 xs vs Q r1 rvs f1⟩⟩
theorem rds1 {K:PySem.W.Frag} {ρ:List Addr} {H:Hp} {d:D} {vs:List V} (h:RDs K ρ H [d] vs):∃ v,vs = [v]∧RD K ρ H d v:=by
 simp only [RDs] at h
 obtain ⟨x,r,rfl,h2,rfl⟩:=h
 exact ⟨x,rfl,h2⟩
def fLen:List D→M D
 | [.str z]=>if z.length ≤ sizeLine then pure (.int z.length) else bad
 | [x]=>do
  let xs ← seqD x
  pure (.int xs.length)
 | _=>bad
theorem ar_len:AR X.K EX (fun xs H Q=>∃ x n,xs = [x]∧LenV X.K x H n∧Q (.int n) H) fLen:=by
 intro ρ h H ds vs Q r rd fin
 unfold fLen at fin
 split at fin
 ·rename_i z
  obtain ⟨v,rfl,rv⟩:=rds1 rd
  simp only [RD] at rv; subst rv
  by_cases hl:z.length ≤ sizeLine
  ·rw [if_pos hl] at fin
   exact ⟨_,z.length,rfl,⟨hl,rfl⟩,FE.here fin r (by simp [RD])⟩
  ·rw [if_neg hl] at fin; exact fin.elim
 ·rename_i x _
  obtain ⟨v,rfl,rv⟩:=rds1 rd
  have f1:=Fin.bind fin
  cases e:seqD x h with
  | bad=>rw [e] at f1; exact f1.elim
  | err z hz=>exact (seqD_no e).elim
  | ok ys h1 =>
   obtain ⟨rfl,p,xs,rfl,hs,hd⟩:=seqD_rel r rv e
   rw [e] at f1
   have f2:=f1 ρ H (Pre.refl _) (Ext.refl _ _) r
   refine ⟨_,ys.length,rfl,?_,FE.here f2 r (by simp [RD])⟩
   rw [hd.length]
   rcases hs with hs | hs
   ·exact .inl ⟨xs,hs,rfl⟩
   ·exact .inr ⟨xs,hs,rfl⟩
 ·exact fin.elim
theorem se_len (hg:Gl X "len") (hm:X.mg "len" = none) (ha:SA X EX [a] mr) (he:starEach [a] X.env = [(false,eval a X.env)]:=by rfl):SE X EX (.Call (.Name "len" p) [a] [] pos) (eCall fLen mr) :=
 se_args (pe_callB call_len hg hm PySem.boot_len ha.h (by decide) (by decide) he rfl) ar_len
def fTuple:List D→M D
 | [.tup xs]=>pure (.tup xs)
 | [x]=>do
  let xs ← seqD x
  pure (.tup xs)
 | _=>bad
theorem ar_tuple:AR X.K EX (fun xs H Q=>∃ p ys,xs = [.ref p]∧((SqL X.K H p ys∧∀ l,H l = none→Q (.ref l) (upd H l (.tup ys)))∨(SqT X.K H p ys∧Q (.ref p) H))) fTuple:=by
 intro ρ h H ds vs Q r rd fin
 unfold fTuple at fin
 split at fin
 ·obtain ⟨v,rfl,rv⟩:=rds1 rd
  have rv':=rv
  simp only [RD] at rv
  obtain ⟨q,xs,rfl,h1,h2⟩:=rv
  exact ⟨q,xs,rfl,.inr ⟨h1,FE.here fin r rv'⟩⟩
 ·rename_i x hx
  obtain ⟨v,rfl,rv⟩:=rds1 rd
  have f1:=Fin.bind fin
  cases e:seqD x h with
  | bad=>rw [e] at f1; exact f1.elim
  | err z hz=>exact (seqD_no e).elim
  | ok ys h1 =>
   obtain ⟨rfl,q,xs,rfl,hs,hd⟩:=seqD_rel r rv e
   rw [e] at f1
   have f2:=f1 ρ H (Pre.refl _) (Ext.refl _ _) r
   refine ⟨q,xs,rfl,?_⟩
   rcases hs with hs | hs
   ·exact .inl ⟨hs,fun l hl=>FE.tup f2 r hd hl⟩
   ·refine .inr ⟨hs,FE.here f2 r ?_⟩
    simp only [RD]
    exact ⟨q,xs,rfl,hs,hd⟩
 ·exact fin.elim
theorem se_tuple (hg:Gl X "tuple") (hm:X.mg "tuple" = none) (ha:SA X EX [a] mr) (he:starEach [a] X.env = [(false,eval a X.env)]:=by rfl):SE X EX (.Call (.Name "tuple" p) [a] [] pos) (eCall fTuple mr) :=
 se_args (pe_callTy call_tuple_of hg hm (by decide +kernel) ha.h (by decide) (by decide) he rfl) ar_tuple
def fList:List D→M D
 | [x]=>do
  let xs ← seqD x
  newL xs
 | _=>bad
theorem ar_list:AR X.K EX (fun xs H Q=>∃ p ys,xs = [.ref p]∧(SqL X.K H p ys∨SqT X.K H p ys)∧∀ l,H l = none→Q (.ref l) (upd H l (.lst ys))) fList:=by
 intro ρ h H ds vs Q r rd fin
 unfold fList at fin
 split at fin
 ·rename_i x
  obtain ⟨v,rfl,rv⟩:=rds1 rd
  have f1:=Fin.bind fin
  cases e:seqD x h with
  | bad=>rw [e] at f1; exact f1.elim
  | err z hz=>exact (seqD_no e).elim
  | ok ys h1 =>
   obtain ⟨rfl,q,xs,rfl,hs,hd⟩:=seqD_rel r rv e
   rw [e] at f1
   have f2:=f1 ρ H (Pre.refl _) (Ext.refl _ _) r
   unfold newL at f2
   dsimp only at f2
   split at f2
   ·exact ⟨q,xs,rfl,hs,fun l hl=>FE.lst f2 r hd hl⟩
   ·exact f2.elim
 ·exact fin.elim
theorem se_list (hg:Gl X "list") (hm:X.mg "list" = none) (ha:SA X EX [a] mr) (he:starEach [a] X.env = [(false,eval a X.env)]:=by rfl):SE X EX (.Call (.Name "list" p) [a] [] pos) (eCall fList mr) :=
 se_args (pe_callTy call_list_of hg hm (by decide +kernel) ha.h (by decide) (by decide) he rfl) ar_list
def tyD:D→M String
 | .non=>pure "NoneType"
 | .bl _=>pure "bool"
 | .int _=>pure "int"
 | .str _=>pure "str"
 | .tup _=>pure "tuple"
 | .fl _=>pure "list"
 | .ref n=>fun h=>match h[n]? with
  | some (.lst _)=>.ok "list" h
  | some .dct=>.ok "dict" h
  | _=>.bad
def subT (t T:String):Bool:=t == T || (t == "bool" && T == "int")
def tyNames:List String:=["NoneType","bool","int","str","tuple","list","dict"]
def tyAsked:List String:=["bool","int","str","tuple","list","dict"]
theorem kit_all:tyNames.all (fun t=>tyAsked.all fun T=>decide (PySem.W.kitOne [] (.type t) (.type T) = some (subT t T))) = true:=by decide +kernel
theorem kit_ty {K:PySem.W.Frag} {t T:String} (h1:t ∈ tyNames) (h2:T ∈ tyAsked):PySem.W.kitOne K (.type t) (.type T) = some (subT t T):=by
 have q:=kit_all
 rw [List.all_eq_true] at q
 have q2:=q t h1
 rw [List.all_eq_true] at q2
 have q3:=q2 T h2
 exact of_decide_eq_true q3
def fIsi (T:String):D→M D:=fun x=>do
 let t ← tyD x
 pure (.bl (subT t T))
theorem isi_seq {pins:List (Addr × Obj)} {σ:L2.St} {H:Hp} {s:Shared} {E:Value→Shared→Prop} {Q:Value→Shared→Prop} {q:Addr} {c:Value} {k:Bool} {xs:List V} (I:Inv X pins σ H s) (h:SqT X.K H q xs) (e:PySem.W.kitOne X.K (.type "tuple") c = some k) (hQ:∀ tk,Q (.bool k) { s with toks:=tk }) :
 wpAny (model X.prog X.w) X.A (call (.builtin "isinstance") [.ref q,c]) Q E s:=by
 obtain ⟨its,_,ht,_⟩:=I.tuple h
 obtain ⟨o,h1,h2,_⟩:=ht
 exact PySem.W.kia_one PySem.W.kitx_tuple I.kIn ⟨o,h1,h2⟩ e (fun z=>nomatch z) hQ
theorem isi_lst {pins:List (Addr × Obj)} {σ:L2.St} {H:Hp} {s:Shared} {E:Value→Shared→Prop} {Q:Value→Shared→Prop} {q:Addr} {c:Value} {k:Bool} {xs:List V} (I:Inv X pins σ H s) (h:SqL X.K H q xs) (e:PySem.W.kitOne X.K (.type "list") c = some k) (hQ:∀ tk,Q (.bool k) { s with toks:=tk }) :
 wpAny (model X.prog X.w) X.A (call (.builtin "isinstance") [.ref q,c]) Q E s:=by
 obtain ⟨its,_,ht,_⟩:=I.list h
 obtain ⟨o,n,h1,h2,_⟩:=ht
 exact PySem.W.kia_one PySem.W.kitx_list I.kIn ⟨o,h1,h2⟩ e (fun z=>nomatch z) hQ
def TyV (K:PySem.W.Frag) (H:Hp) (v:V) (t:String):Prop:=match v with
 | .non=>t = "NoneType"
 | .bl _=>t = "bool"
 | .int _=>t = "int"
 | .str _=>t = "str"
 | .ref q=>(t = "tuple"∧∃ xs,SqT K H q xs)∨(t = "list"∧∃ xs,SqL K H q xs)∨(t = "dict"∧H q = some (dctO q))
 | _=>False
theorem call_isi {T:String} (hT:T ∈ tyAsked):CallR X (.builtin "isinstance") (fun xs H Q=>∃ x t,xs = [x,.ty T]∧TyV X.K H x t∧Q (.bl (subT t T)) H):=by
 intro pins s σ H xs us Q I r h
 obtain ⟨x,t,rfl,ty,q⟩:=h
 obtain ⟨u,w',rfl,rx,rt⟩:=vals2 r
 cases rt
 have fin:∀ tk,EP X pins σ Q (.bool (subT t T)) { s with toks:=tk }:=fun tk=>⟨.bl _,H,I.tok tk,rfl,q⟩
 have tb:∀ {z:V} {t':Value},z = x→TyOf X.K H z t'→t' = .type t→t ∈ tyNames→wpAny (model X.prog X.w) X.A (call (.builtin "isinstance") [u,.type T]) (EP X pins σ Q) X.xe s:=fun {z t'} e1 ty' e2 hn=>by
  subst e1; subst e2
  exact isinst_ok I rx ty' (kit_ty hn hT) fin
 cases x with
 | non=>exact tb rfl .non (by rw [show t = "NoneType" from ty]) (by rw [show t = "NoneType" from ty]; decide)
 | bl y=>exact tb rfl (.bl y) (by rw [show t = "bool" from ty]) (by rw [show t = "bool" from ty]; decide)
 | int y=>exact tb rfl (.int y) (by rw [show t = "int" from ty]) (by rw [show t = "int" from ty]; decide)
 | str y=>exact tb rfl (.str y) (by rw [show t = "str" from ty]) (by rw [show t = "str" from ty]; decide)
 | ref y =>
  cases rx
  rcases (show (t = "tuple"∧∃ xs,SqT X.K H y xs)∨(t = "list"∧∃ xs,SqL X.K H y xs)∨(t = "dict"∧H y = some (dctO y)) from ty) with ⟨rfl,xs,hs⟩ | ⟨rfl,xs,hs⟩ | ⟨rfl,hs⟩
  ·exact isi_seq I hs (kit_ty (by decide) hT) fin
  ·exact isi_lst I hs (kit_ty (by decide) hT) fin
  ·exact PySem.W.kia_one PySem.W.kitx_dict I.kIn (I.hok y _ hs).1 (kit_ty (by decide) hT) (fun z=>nomatch z) fin
 | byt y=>exact (show False from ty).elim
 | flt y=>exact (show False from ty).elim
 | ty y=>exact (show False from ty).elim
theorem tyD_rel {K:PySem.W.Frag} {ρ:List Addr} {h h1:AH} {H:Hp} {x:D} {v:V} {t:String} (r:RH K ρ h H) (rx:RD K ρ H x v) (e:tyD x h = .ok t h1):h1 = h∧TyV K H v t:=by
 cases x with
 | non=>cases e; simp only [RD] at rx; subst rx; exact ⟨rfl,rfl⟩
 | bl y=>cases e; simp only [RD] at rx; subst rx; exact ⟨rfl,rfl⟩
 | int y=>cases e; simp only [RD] at rx; subst rx; exact ⟨rfl,rfl⟩
 | str y=>cases e; simp only [RD] at rx; subst rx; exact ⟨rfl,rfl⟩
 | tup y=>cases e; simp only [RD] at rx; obtain ⟨q,xs,rfl,h2,_⟩:=rx; exact ⟨rfl,.inl ⟨rfl,xs,h2⟩⟩
 | fl y=>cases e; simp only [RD] at rx; obtain ⟨q,xs,rfl,h2,_⟩:=rx; exact ⟨rfl,.inr (.inl ⟨rfl,xs,h2.sq⟩)⟩
 | ref n =>
  simp only [RD] at rx; obtain ⟨q,rfl,h2⟩:=rx
  unfold tyD at e
  dsimp only at e
  cases q1:h[n]? with
  | none=>rw [q1] at e; cases e
  | some ob =>
   rw [q1] at e
   cases ob with
   | set ks=>cases e
   | dK kvs=>cases e
   | dF kvs=>cases e
   | exc c=>cases e
   | lst ds =>
    cases e
    obtain ⟨a1,n1,vs,o1,d1⟩:=r.at q1
    rw [h2] at n1; cases n1
    exact ⟨rfl,.inr (.inl ⟨rfl,vs,SqL.of o1⟩)⟩
   | dct =>
    cases e
    obtain ⟨a1,n1,o1⟩:=r.at q1
    rw [h2] at n1; cases n1
    exact ⟨rfl,.inr (.inr ⟨rfl,o1⟩)⟩
theorem tyD_no {x:D} {h h1:AH} {z:Exn} (e:tyD x h = .err z h1):False:=by
 cases x with
 | ref n =>
  unfold tyD at e
  dsimp only at e
  split at e <;> cases e
 | _=>cases e
def eIsi (T:String) (ma:G→M D):G→M D:=fun γ=>do
 let x ← ma γ
 fIsi T x
theorem se_isi {T:Str} {T':String} (hg:Gl X "isinstance") (hm:X.mg "isinstance" = none) (hgT:Gl X T) (hmT:X.mg T = none) (hv:bootBuiltins T = some (.type T')) (hT:T' ∈ tyAsked) (ha:SE X EX a ma) (hn:T ≠ "__name__":=by decide) (hd:(T == ("__debug__":Str)) = false:=by decide)
 (he:starEach [a,.Name T p2] X.env = [(false,eval a X.env),(false,eval (.Name T p2) X.env)]:=by rfl) (he2:starEach [.Name T p2] X.env = [(false,eval (.Name T p2) X.env)]:=by rfl):SE X EX (.Call (.Name "isinstance" p) [a,.Name T p2] [] pos) (eIsi T' ma):=by
 constructor
 have hA:PA X [a,.Name T p2] (tCons (tE X.K EX ma) (tCons (tC (.ty T')) tNil)):=pa_cons ha.h (pa_cons (pe_bltn hgT hmT hv rfl hn hd) pa_nil he2) (by rw [he,he2])
 refine PE.imp (pe_callB (call_isi hT) hg hm (by decide +kernel) hA (by decide) (by decide) (by rw [he,he2]) (by rw [he2]; rfl)) fun σ H Q ⟨ρ,γ,h,rel,fin⟩=>⟨ρ,γ,h,rel,(Fin.bind fin).mono fun x ρ1 h1 H1 p1 e1 r1 f1 v rv=>?_⟩
 have f2:=Fin.bind f1
 cases e:tyD x h1 with
 | bad=>rw [e] at f2; exact f2.elim
 | err z hz=>exact (tyD_no e).elim
 | ok t h2 =>
  obtain ⟨rfl,ty⟩:=tyD_rel r1 rv e
  rw [e] at f2
  have f3:=f2 ρ1 H1 (Pre.refl _) (Ext.refl _ _) r1
  exact ⟨v,t,rfl,ty,FE.here f3 r1 (by simp [RD])⟩
end
abbrev EX0:XX:=fun _ _ _ _=>False
def spB (K:PySem.W.Frag) (mf:List D→M D) (n:Nat):Sp:=fun vs H Q _=>vs.length = n∧∃ ρ ds h,RH K ρ h H∧RDs K ρ H ds vs∧FE K EX0 ρ H Q (mf ds h)
structure Fn (P:Program) (w:World) (K:PySem.W.Frag) (mg:Str→Option Value) (base:Heap) (k:Nat) (x:Str) (n:Nat) (mf:List D→M D):Prop where
 ex:∃ f fd ps,FnOk P w K mg base CX0 k f fd ps (spB K mf n)∧Binds K fd ps []∧PySem.W.keepIn K (.ref f) = true∧mg x = some (.ref f)
def eFn (n:Nat) (mf:List D→M D) (mr:G→M (List D)):G→M D:=fun γ=>do
 let xs ← mr γ
 if xs.length = n then mf xs else bad
section
variable {X:Cx} {a b c e:Expr} {pos p p2:Pos} {ma mb mc:G→M D} {es:List Expr} {mr:G→M (List D)} {k n:Nat} {x:Str} {mf:List D→M D}
theorem se_call (F:Fn X.prog X.w X.K X.mg X.base k x n mf) (hr:Room k X.A) (hg:Gl X x) (ha:SA X EX0 (a :: es) mr) (hdb:(x == ("__debug__":Str)) = false:=by decide)
 (he:starEach (a :: es) X.env = (false,eval a X.env) :: starEach es X.env:=by rfl) (hpl:(backTo pos (starEach es X.env)).any (·.1) = false:=by rfl):SE X EX0 (.Call (.Name x p) (a :: es) [] pos) (eFn n mf mr):=by
 constructor
 obtain ⟨f,fd,ps,h1,h2,h3,h4⟩:=F.ex
 refine PE.imp (pe_call h1 hr hg h4 h3 h2 .nil pass0 ha.h hdb he hpl) fun σ H Q ⟨ρ,γ,h,rel,fin⟩=>⟨ρ,γ,h,rel,(Fin.bind fin).mono fun xs ρ1 h1 H1 p1 e1 r1 f1 vs rvs=>?_⟩
 show spB X.K mf n (vs++[]) H1 Q E0
 rw [List.append_nil]
 by_cases hl:xs.length = n
 ·rw [if_pos hl] at f1
  exact ⟨by rw [← rvs.length]; exact hl,ρ1,xs,h1,r1,rvs,f1⟩
 ·rw [if_neg hl] at f1; exact (show False from f1).elim
end
def startG (n:Nat) (ds:List D):G:=ds.map some++List.replicate (n - ds.length) none
def runF (n:Nat) (mb:G→M Out) (ds:List D):M D:=do
 let o ← mb (startG n ds)
 match o with
 | .nx _=>pure .non
 | .rt d=>pure d
 | _=>bad
section
variable {P:Program} {w:World} {K:PySem.W.Frag} {mg:Str→Option Value} {base:Heap}
theorem start_rel {ρ:List Addr} {H:Hp} {N:List Str} {ds:List D} {vs:List V} (h:RDs K ρ H ds vs):RG K ρ H (startG N.length ds) (L2.start N vs):=by
 have hl:=h.length
 refine ⟨by unfold startG L2.start; simp [hl],fun i d e=>?_⟩
 unfold startG at e
 unfold L2.start
 rw [List.getElem?_append] at e ⊢
 rw [List.length_map] at e ⊢
 rw [← hl]
 split at e
 ·rename_i hi
  rw [if_pos hi]
  rw [List.getElem?_map] at e ⊢
  cases q:ds[i]? with
  | none=>rw [q] at e; cases e
  | some d' =>
   rw [q] at e
   cases e
   obtain ⟨v,h1,h2⟩:=h.get q
   exact ⟨v,by rw [h1]; rfl,h2⟩
 ·rw [List.getElem?_replicate] at e
  split at e <;> cases e
end
section
variable {env:Env} {t:Option Expr} {l:Nat} {tg:List Expr}
theorem sw_List {a p}:swapsWith (.List a p) t l env = pure false:=rfl
theorem sw_Tuple {a b p}:swapsWith (.Tuple a b p) t l env = pure false:=rfl
theorem sw_Constant {c k p}:swapsWith (.Constant c k p) t l env = pure false:=rfl
theorem sw_Name {c p}:swapsWith (.Name c p) t l env = pure false:=rfl
theorem sw_Call {a b c p}:swapsWith (.Call a b c p) t l env = pure false:=rfl
theorem sw_BinOp {a b c p}:swapsWith (.BinOp a b c p) t l env = pure false:=rfl
theorem sw_Compare {a b c p}:swapsWith (.Compare a b c p) t l env = pure false:=rfl
theorem sw_Subscript {a b p}:swapsWith (.Subscript a b p) t l env = pure false:=rfl
theorem sw_UnaryOp {a b p}:swapsWith (.UnaryOp a b p) t l env = pure false:=rfl
theorem sw_BoolOp {a b p}:swapsWith (.BoolOp a b p) t l env = pure false:=rfl
theorem sw_IfExp {a b c p}:swapsWith (.IfExp a b c p) t l env = pure false:=rfl
end
section
variable {X:Cx} {EX:XX} {a b c e:Expr} {pos p p2:Pos} {ma mb mc:G→M D} {ka kb kc:G→M Bool} {st:Stmt} {sts:List Stmt} {ms mt:G→M Out}
def bNil:G→M Out:=fun γ=>pure (.nx γ)
def bCons (ms mt:G→M Out):G→M Out:=fun γ=>do
 let o ← ms γ
 match o with
 | .nx γ'=>mt γ'
 | o=>pure o
theorem sb_nil:SB X EX [] bNil:=⟨PSs.imp pss_nil fun σ H D ⟨ρ,γ,h,rel,fin⟩=>fin ρ H (Pre.refl _) (Ext.refl _ _) rel.h σ rel.g⟩
theorem sb_cons (h1:S1 X EX st ms) (h2:SB X EX sts mt):SB X EX (st :: sts) (bCons ms mt) :=
 ⟨PSs.imp (pss_cons h1.h h2.h) fun σ H D ⟨ρ,γ,h,rel,fin⟩=>⟨ρ,γ,h,rel,(Fin.bind fin).mono fun o ρ1 h1 H1 p1 e1 r1 f1=>by
  cases o with
  | nx γ'=>exact fun σ' rg=>⟨ρ1,γ',h1,⟨rg,r1⟩,f1⟩
  | rt d=>exact f1 ρ1 H1 (Pre.refl _) (Ext.refl _ _) r1
  | bk γ'=>exact f1 ρ1 H1 (Pre.refl _) (Ext.refl _ _) r1
  | ct γ'=>exact f1 ρ1 H1 (Pre.refl _) (Ext.refl _ _) r1⟩⟩
def sRet (ma:G→M D):G→M Out:=fun γ=>do
 let d ← ma γ
 pure (.rt d)
theorem s_ret (ha:SE X EX a ma):S1 X EX (.Return (some a) pos) (sRet ma) :=
 ⟨PS.imp (ps_ret ha.h) fun σ H D ⟨ρ,γ,h,rel,fin⟩=>⟨ρ,γ,h,rel,(Fin.bind fin).mono fun d ρ1 h1 H1 p1 e1 r1 f1 v rv=>f1 ρ1 H1 (Pre.refl _) (Ext.refl _ _) r1 v rv⟩⟩
def sExpr (ma:G→M D):G→M Out:=fun γ=>do
 let _ ← ma γ
 pure (.nx γ)
theorem s_expr (ha:SE X EX a ma) (hs:swapsWith a none pos.line X.env = pure false:=by first | exact sw_List | exact sw_Tuple | exact sw_Constant | exact sw_Name | exact sw_Call | exact sw_BinOp | exact sw_Compare | exact sw_Subscript | exact sw_UnaryOp | exact sw_BoolOp | exact sw_IfExp | rfl):S1 X EX (.Expr a pos) (sExpr ma) :=
 ⟨PS.imp (ps_expr ha.h hs) fun σ H D ⟨ρ,γ,h,rel,fin⟩=>⟨ρ,γ,h,rel,(Fin.bind fin).mono fun d ρ1 h1 H1 p1 e1 r1 f1 v rv=>f1 ρ1 H1 (Pre.refl _) (Ext.refl _ _) r1 σ (rel.g.mono p1 e1)⟩⟩
def sIf (k:G→M Bool) (ms mt:G→M Out):G→M Out:=fun γ=>do
 let t ← k γ
 if t then ms γ else mt γ
theorem s_if {sts':List Stmt} (hc:SC X EX c kc) (h1:SB X EX sts ms) (h2:SB X EX sts' mt):S1 X EX (.If c sts sts' pos) (sIf kc ms mt) :=
 ⟨PS.imp (ps_if hc.h h1.h h2.h) fun σ H D ⟨ρ,γ,h,rel,fin⟩=>⟨ρ,γ,h,rel,(Fin.bind fin).mono fun t ρ1 h1 H1 p1 e1 r1 f1=>by
  cases t with
  | true=>exact ⟨ρ1,γ,h1,⟨rel.g.mono p1 e1,r1⟩,f1⟩
  | false=>exact ⟨ρ1,γ,h1,⟨rel.g.mono p1 e1,r1⟩,f1⟩⟩⟩
def tG (K:PySem.W.Frag) (EX:XX) (m:D→G→M G):TG:=fun v σ H Q=>∃ ρ γ h d,Rel K ρ γ h σ H∧RD K ρ H d v∧Fin K EX ρ H (fun γ' ρ' _ H'=>∀ σ',RG K ρ' H' γ' σ'→Q σ' H') (m d γ h)
def tGs (K:PySem.W.Frag) (EX:XX) (m:List D→G→M G):TGs:=fun vs σ H Q=>∃ ρ γ h ds,Rel K ρ γ h σ H∧RDs K ρ H ds vs∧Fin K EX ρ H (fun γ' ρ' _ H'=>∀ σ',RG K ρ' H' γ' σ'→Q σ' H') (m ds γ h)
structure SG (X:Cx) (EX:XX) (tg:Expr) (m:D→G→M G):Prop where
 h:PG X tg (tG X.K EX m)
structure SGs (X:Cx) (EX:XX) (tg:List Expr) (m:List D→G→M G):Prop where
 h:PGs X tg (tGs X.K EX m)
theorem PG.imp {X:Cx} {e:Expr} {t t':TG} (h:PG X e t) (f:∀ v σ H Q,t' v σ H Q→t v σ H Q):PG X e t':=fun pins s σ H v u Q I r z=>h pins s σ H v u Q I r (f v σ H Q z)
theorem PGs.imp {X:Cx} {e:List Expr} {t t':TGs} (h:PGs X e t) (f:∀ v σ H Q,t' v σ H Q→t v σ H Q):PGs X e t':=fun pins s σ H v u Q I r z=>h pins s σ H v u Q I r (f v σ H Q z)
def tGk (K:PySem.W.Frag) (EX:XX) (own:List Nat) (m:D→G→M G):TG:=fun v σ H Q=>∃ ρ γ h d,Rel K ρ γ h σ H∧RD K ρ H d v∧Fin K EX ρ H (fun γ' ρ' _ H'=>∀ σ',RG K ρ' H' γ' σ'→(∀ j:Nat,j ∉ own→σ'[j]? = σ[j]?)→Q σ' H') (m d γ h)
structure SGk (X:Cx) (EX:XX) (tg:Expr) (own:List Nat) (m:D→G→M G):Prop where
 h:PG X tg (tGk X.K EX own m)
def gN (i:Nat):D→G→M G:=fun d γ=>pure (γ.set i (some d))
theorem sg_name (i:Nat) {x:Str} (hN:X.N.Nodup) (hi:X.N[i]? = some x:=by rfl) (hx:Loc X.env.scope x:=by first | exact Or.inl rfl | exact Or.inr rfl) (hf:X.fn x = true∨X.env.scope.names.lookup x = some .local:=by first | exact .inl rfl | exact .inr rfl | assumption):SG X EX (.Name x pos) (gN i) :=
 ⟨PG.imp (pg_name hN hi hx hf) fun v σ H Q ⟨ρ,γ,h,d,rel,rd,fin⟩=>fin ρ H (Pre.refl _) (Ext.refl _ _) rel.h _ (rel.g.set i rd)⟩
theorem sgk_name (i:Nat) {x:Str} (hN:X.N.Nodup) (hi:X.N[i]? = some x:=by rfl) (hx:Loc X.env.scope x:=by first | exact Or.inl rfl | exact Or.inr rfl) (hf:X.fn x = true∨X.env.scope.names.lookup x = some .local:=by first | exact .inl rfl | exact .inr rfl | assumption):SGk X EX (.Name x pos) [i] (gN i) :=
 ⟨PG.imp (pg_name hN hi hx hf) fun v σ H Q ⟨ρ,γ,h,d,rel,rd,fin⟩=>fin ρ H (Pre.refl _) (Ext.refl _ _) rel.h _ (rel.g.set i rd) fun j hj=>List.getElem?_set_ne (fun z=>hj (by simp [z]))⟩
def gNils:List D→G→M G:=fun ds γ=>match ds with
 | []=>pure γ
 | _=>bad
def gConss (m:D→G→M G) (ms:List D→G→M G):List D→G→M G:=fun ds γ=>match ds with
 | []=>bad
 | d :: r=>do
  let γ1 ← m d γ
  ms r γ1
theorem sgs_nil:SGs X EX [] gNils:=⟨PGs.imp pgs_nil fun v σ H Q ⟨ρ,γ,h,ds,rel,rd,fin⟩=>by
 cases ds with
 | nil=>simp only [RDs] at rd; exact ⟨rd,fin ρ H (Pre.refl _) (Ext.refl _ _) rel.h σ rel.g⟩
 | cons d r=>exact (show False from fin).elim⟩
theorem sgs_cons {es:List Expr} {m:D→G→M G} {mr:List D→G→M G} (h1:SG X EX e m) (h2:SGs X EX es mr) (hs:(assignEach (e :: es) X.env).map (·.2) = assign e X.env :: (assignEach es X.env).map (·.2):=by rfl):SGs X EX (e :: es) (gConss m mr) :=
 ⟨PGs.imp (pgs_cons h1.h h2.h hs) fun vs σ H Q ⟨ρ,γ,h,ds,rel,rd,fin⟩=>by
  cases ds with
  | nil=>exact (show False from fin).elim
  | cons d r =>
   simp only [RDs] at rd
   obtain ⟨v,vr,rfl,h3,h4⟩:=rd
   have fin':Fin X.K EX ρ H (fun γ' ρ' _ H'=>∀ σ',RG X.K ρ' H' γ' σ'→Q σ' H') ((m d γ >>= fun γ1=>mr r γ1) h):=fin
   exact ⟨v,vr,rfl,ρ,γ,h,d,rel,h3,(Fin.bind fin').mono fun γ1 ρ1 h1 H1 p1 e1 r1 f1 σ1 g1=>⟨ρ1,γ1,h1,r,⟨g1,r1⟩,h4.mono p1 e1,f1⟩⟩⟩
def gT (n:Nat) (m:List D→G→M G):D→G→M G:=fun d γ=>match d with
 | .tup xs=>if xs.length = n then m xs γ else bad
 | _=>bad
theorem sg_tup {es:List Expr} {k n:Nat} {m:List D→G→M G} (hc:X.calm = true) (h:SGs X EX es m) (hn:(assignEach es X.env).length = n:=by rfl) (hst:(assignEach es X.env).findIdx? (·.1) = none:=by rfl):SG X EX (.Tuple es k pos) (gT n m) :=
 ⟨PG.imp (pg_tup hc h.h hn hst) fun v σ H Q ⟨ρ,γ,h,d,rel,rd,fin⟩=>by
  cases d <;> first | exact (show False from fin).elim | skip
  rename_i xs
  simp only [RD] at rd
  obtain ⟨q,vs,rfl,h1,h2⟩:=rd
  have fin':Fin X.K EX ρ H (fun γ' ρ' _ H'=>∀ σ',RG X.K ρ' H' γ' σ'→Q σ' H') ((if xs.length = n then m xs γ else bad) h):=fin
  by_cases hl:xs.length = n
  ·rw [if_pos hl] at fin'
   exact ⟨q,vs,rfl,h1,by rw [← h2.length]; exact hl,ρ,γ,h,xs,rel,h2,fin'⟩
  ·rw [if_neg hl] at fin'; exact (show False from fin').elim⟩
def fSet:D→D→D→M Unit:=fun o i v=>match o,i with
 | .ref n,.int k=>fun h=>match h[n]? with
  | some (.lst xs)=>(match ixN xs.length k with
   | some j=>.ok () (h.set n (.lst (xs.set j v)))
   | none=>.bad)
  | _=>.bad
 | _,_=>bad
def gIx (mo mi:G→M D):D→G→M G:=fun v γ=>do
 let o ← mo γ
 let i ← mi γ
 let _ ← fSet o i v
 pure γ
theorem sg_ix {o i:Expr} {mo mi:G→M D} (ho:SE X EX o mo) (hi:SE X EX i mi)
 (ha:∀ v,assign (.Subscript o i pos) X.env v = (do
  let ov ← holding [v] (eval o X.env)
  let iv ← holding [v,ov] (eval i X.env)
  standAt pos
  holding [v,ov,iv] (setItem ov iv v)
  release [v,ov,iv] []):=by intro _; rfl):SG X EX (.Subscript o i pos) (gIx mo mi) :=
 ⟨PG.imp (pg_sub ho.h hi.h set_list ha) fun v σ H Q ⟨ρ,γ,h,d,rel,rd,fin⟩=>⟨ρ,γ,h,rel,(Fin.bind fin).mono fun od ρ1 h1 H1 p1 e1 r1 f1 ov ro=>⟨ρ1,γ,h1,⟨rel.g.mono p1 e1,r1⟩,(Fin.bind f1).mono fun id ρ2 h2 H2 p2 e2 r2 f2 iv ri=>by
  have f3:=Fin.bind f2
  cases od <;> first | exact (show False from f3).elim | skip
  rename_i n
  cases id <;> first | exact (show False from f3).elim | skip
  rename_i k
  simp only [RD] at ro ri
  obtain ⟨q,rfl,hq⟩:=ro
  subst ri
  have hq2:=p2 n q hq
  unfold fSet at f3
  dsimp only at f3
  cases e4:h2[n]? with
  | none=>rw [e4] at f3; exact (show False from f3).elim
  | some ob =>
   cases ob with
   | set ks=>rw [e4] at f3; exact (show False from f3).elim
   | dct=>rw [e4] at f3; exact (show False from f3).elim
   | dK kvs=>rw [e4] at f3; exact (show False from f3).elim
   | dF kvs=>rw [e4] at f3; exact (show False from f3).elim
   | exc c=>rw [e4] at f3; exact (show False from f3).elim
   | lst xs =>
    rw [e4] at f3
    dsimp only at f3
    cases e5:ixN xs.length k with
    | none=>rw [e5] at f3; exact (show False from f3).elim
    | some j =>
     rw [e5] at f3
     obtain ⟨a1,n1,vs,o1,d1⟩:=r2.at e4
     rw [hq2] at n1; cases n1
     have rd2:=(rd.mono p1 e1).mono p2 e2
     have dd:=d1.set j rd2
     refine ⟨q,vs,k,j,rfl,rfl,o1,by rw [← d1.length]; exact e5,?_⟩
     have ext:Ext X.K H2 (upd H2 q (.lst (vs.set j v))):=Ext.upd (.inr ⟨_,o1,trivial⟩)
     have f4:=f3 ρ2 _ (Pre.refl _) ext (r2.set e4 hq2 dd)
     exact f4 ρ2 _ (Pre.refl _) (Ext.refl _ _) (r2.set e4 hq2 dd) σ (((rel.g.mono p1 e1).mono p2 e2).mono (Pre.refl _) ext)⟩⟩⟩
def sAsg (ma:G→M D) (g:D→G→M G):G→M Out:=fun γ=>do
 let d ← ma γ
 let γ1 ← g d γ
 pure (.nx γ1)
theorem s_asg {tg:Expr} {g:D→G→M G} (ha:SE X EX a ma) (hg:SG X EX tg g) (hs:swapsWithSole [tg] a pos.line X.env = pure false:=by rfl) (hw:swappedStores [tg] a X.env = pure none:=by rfl)
 (h1:(assignEach [tg] X.env).map (·.2) = [assign tg X.env]:=by rfl):S1 X EX (.Assign [tg] a pos) (sAsg ma g) :=
 ⟨PS.imp (ps_asg ha.h hg.h hs hw h1) fun σ H D ⟨ρ,γ,h,rel,fin⟩=>⟨ρ,γ,h,rel,(Fin.bind fin).mono fun d ρ1 h1 H1 p1 e1 r1 f1 v rv=>⟨ρ1,γ,h1,d,⟨rel.g.mono p1 e1,r1⟩,rv,(Fin.bind f1).mono fun γ1 ρ2 h2 H2 p2 e2 r2 f2 σ2 g2 =>
  f2 ρ2 H2 (Pre.refl _) (Ext.refl _ _) r2 σ2 g2⟩⟩⟩
theorem s_set (i:Nat) {x:Str} (hN:X.N.Nodup) (ha:SE X EX a ma) (hi:X.N[i]? = some x:=by rfl) (hx:Loc X.env.scope x:=by first | exact Or.inl rfl | exact Or.inr rfl) (hs:swapsWith a (some (.Name x p)) pos.line X.env = pure false:=by first | exact sw_List | exact sw_Tuple | exact sw_Constant | exact sw_Name | exact sw_Call | exact sw_BinOp | exact sw_Compare | exact sw_Subscript | exact sw_UnaryOp | exact sw_BoolOp | exact sw_IfExp | rfl)
 (hf:X.fn x = true∨X.env.scope.names.lookup x = some .local:=by first | exact .inl rfl | exact .inr rfl | assumption):S1 X EX (.Assign [.Name x p] a pos) (sAsg ma (gN i)) :=
 ⟨PS.imp (ps_set hN hi hx ha.h hs hf) fun σ H D ⟨ρ,γ,h,rel,fin⟩=>⟨ρ,γ,h,rel,(Fin.bind fin).mono fun d ρ1 h1 H1 p1 e1 r1 f1 v rv=>f1 ρ1 H1 (Pre.refl _) (Ext.refl _ _) r1 _ ((rel.g.mono p1 e1).set i rv)⟩⟩
end
section
variable {X:Cx} {EX:XX} {a o e:Expr} {pos cpos apos:Pos} {ma mo:G→M D}
def updL (n:Nat) (f:List D→Option (D × List D)):M D:=fun h=>match h[n]? with
 | some (.lst xs)=>(match f xs with
  | some (d,ys)=>if ys.length ≤ sizeLine then .ok d (h.set n (.lst ys)) else .bad
  | none=>.bad)
 | _=>.bad
def asRef:D→M Nat
 | .ref n=>fun h=>match h[n]? with
  | some (.lst _)=>.ok n h
  | _=>.bad
 | _=>bad
def fAppend (n:Nat) (v:D):M D:=updL n fun xs=>some (.non,xs++[v])
def fPop (n:Nat):M D:=updL n fun xs=>(xs[xs.length - 1]?).map fun d=>(d,xs.dropLast)
def fPopAt (n:Nat) (i:D):M D:=match i with
 | .int k=>updL n fun xs=>if -(2 ^ 63) ≤ k∧k < 2 ^ 63 then (match seqIndex? k xs.length with
  | some j=>(xs[j]?).map fun d=>(d,xs.eraseIdx j)
  | none=>none) else none
 | _=>bad
def eM1 (f:Nat→D→M D) (mo ma:G→M D):G→M D:=fun γ=>do
 let o ← mo γ
 let n ← asRef o
 let v ← ma γ
 f n v
def eM0 (f:Nat→M D) (mo:G→M D):G→M D:=fun γ=>do
 let o ← mo γ
 let n ← asRef o
 f n
theorem updL_rel {K:PySem.W.Frag} {ρ:List Addr} {h:AH} {H:Hp} {Q:VK} {n:Nat} {q:Addr} {f:List D→Option (D × List D)} (r:RH K ρ h H) (hq:ρ[n]? = some q) (fin:FE K EX ρ H Q (updL n f h)) :
 ∃ xs d ys vs,f xs = some (d,ys)∧ys.length ≤ sizeLine∧H q = some (.lst vs)∧RDs K ρ H xs vs∧∀ v ws,RD K ρ H d v→RDs K ρ H ys ws→Q v (upd H q (.lst ws)):=by
 unfold updL at fin
 cases e:h[n]? with
 | none=>rw [e] at fin; exact fin.elim
 | some ob =>
  cases ob with
  | set ks=>rw [e] at fin; exact fin.elim
  | dct=>rw [e] at fin; exact fin.elim
  | dK kvs=>rw [e] at fin; exact fin.elim
  | dF kvs=>rw [e] at fin; exact fin.elim
  | exc c=>rw [e] at fin; exact fin.elim
  | lst xs =>
   rw [e] at fin
   dsimp only at fin
   cases e2:f xs with
   | none=>rw [e2] at fin; exact fin.elim
   | some dy =>
    obtain ⟨d,ys⟩:=dy
    rw [e2] at fin
    dsimp only at fin
    split at fin
    ·rename_i hl
     obtain ⟨a1,n1,vs,o1,d1⟩:=r.at e
     rw [hq] at n1; cases n1
     refine ⟨xs,d,ys,vs,e2,hl,o1,d1,fun v ws rv rw'=>?_⟩
     have ext:Ext K H (upd H q (.lst ws)):=Ext.upd (.inr ⟨_,o1,trivial⟩)
     exact fin ρ _ (Pre.refl _) ext (r.set e hq rw') v (rv.mono (Pre.refl _) ext)
    ·exact fin.elim
theorem list_ty {K:PySem.W.Frag} {ρ:List Addr} {h:AH} {H:Hp} {n:Nat} {q:Addr} {Z:Nat→List Addr→AH→Hp→Prop} (r:RH K ρ h H) (hq:ρ[n]? = some q) (f:Fin K EX ρ H Z (asRef (.ref n) h)):tyV K "list" (.ref q) H∧Z n ρ h H:=by
 unfold asRef at f
 dsimp only at f
 cases e:h[n]? with
 | none=>rw [e] at f; exact f.elim
 | some ob =>
  cases ob with
  | set ks=>rw [e] at f; exact f.elim
  | dct=>rw [e] at f; exact f.elim
  | dK kvs=>rw [e] at f; exact f.elim
  | dF kvs=>rw [e] at f; exact f.elim
  | exc c=>rw [e] at f; exact f.elim
  | lst xs =>
   rw [e] at f
   obtain ⟨a1,n1,vs,o1,d1⟩:=r.at e
   rw [hq] at n1; cases n1
   exact ⟨.inl ⟨rfl,vs,SqL.of o1⟩,f ρ H (Pre.refl _) (Ext.refl _ _) r⟩
theorem meth1 {f:Nat→D→M D} {r:V→List V→Hp→VK→Prop} (hr:∀ ρ h H n q y u Q,RH X.K ρ h H→ρ[n]? = some q→RD X.K ρ H y u→FE X.K EX ρ H Q (f n y h)→r (.ref q) [u] H Q) :
 ∀ σ H Q,tE X.K EX (eM1 f mo ma) σ H Q→tBM X.K "list" r (tE X.K EX mo) (tCons (tE X.K EX ma) tNil) σ H Q:=fun σ H Q ⟨ρ,γ,h,rel,fin⟩=>⟨ρ,γ,h,rel,(Fin.bind fin).mono fun x ρ1 h1 H1 p1 e1 r1 f1 v rv=>by
 have f2:=Fin.bind f1
 cases x <;> first | exact (show False from f2).elim | skip
 rename_i n
 simp only [RD] at rv
 obtain ⟨q,rfl,hq⟩:=rv
 obtain ⟨lt,f3⟩:=list_ty r1 hq f2
 exact ⟨lt,ρ1,γ,h1,⟨rel.g.mono p1 e1,r1⟩,(Fin.bind f3).mono fun y ρ2 h2 H2 p2 e2 r2 f4 u ru=>hr ρ2 h2 H2 n q y u Q r2 (p2 n q hq) ru f4⟩⟩
theorem meth0 {f:Nat→M D} {r:V→List V→Hp→VK→Prop} (hr:∀ ρ h H n q Q,RH X.K ρ h H→ρ[n]? = some q→FE X.K EX ρ H Q (f n h)→r (.ref q) [] H Q) :
 ∀ σ H Q,tE X.K EX (eM0 f mo) σ H Q→tBM0 X.K "list" r (tE X.K EX mo) σ H Q:=fun σ H Q ⟨ρ,γ,h,rel,fin⟩=>⟨ρ,γ,h,rel,(Fin.bind fin).mono fun x ρ1 h1 H1 p1 e1 r1 f1 v rv=>by
 have f2:=Fin.bind f1
 cases x <;> first | exact (show False from f2).elim | skip
 rename_i n
 simp only [RD] at rv
 obtain ⟨q,rfl,hq⟩:=rv
 obtain ⟨lt,f3⟩:=list_ty r1 hq f2
 exact ⟨lt,hr ρ1 h1 H1 n q Q r1 hq f3⟩⟩
theorem se_append (ho:SE X EX o mo) (ha:SE X EX a ma)
 (hbase:attributeBase o "append" X.env (eval o X.env) = eval o X.env:=by rfl)
 (hfew:((backTo cpos (starEach [a] X.env)).all (fun x=>!x.1) && (backToKw cpos (keywordEach [] X.env)).all (fun x=>x.1.isSome)
  && decide (([a]:List Expr).length + ([]:List Keyword).length + (if ([]:List Keyword).isEmpty then 0 else 1) < 30)) = true:=by rfl)
 (hline:(apos.endLine == cpos.line) = true:=by rfl) (hs:starEach [a] X.env = [(false,eval a X.env)]:=by rfl) :
 SE X EX (.Call (.Attribute o "append" apos) [a] [] cpos) (eM1 fAppend mo ma) :=
 ⟨PE.imp (pe_bm PySem.F.plainAttrs_list PySem.F.slot_list_append PySem.F.type_list_append mt_append ho.h (pa_cons ha.h pa_nil hs) hbase hfew hline hs rfl) (meth1 fun ρ h H n q y u Q r hq ru fin=>by
  obtain ⟨xs,d,ys,vs,g1,g2,g3,g4,g5⟩:=updL_rel r hq fin
  cases g1
  have hl:=g4.length
  rw [List.length_append,List.length_singleton] at g2
  exact ⟨q,vs,u,rfl,rfl,g3,by omega,g5 _ _ (by simp [RD]) (g4.append (RDs.cons ru RDs.nil))⟩)⟩
theorem RDs.dropLast {K:PySem.W.Frag} {ρ:List Addr} {H:Hp} {ds:List D} {xs:List V} (h:RDs K ρ H ds xs):RDs K ρ H ds.dropLast xs.dropLast:=by
 rw [List.dropLast_eq_take,List.dropLast_eq_take,h.length]
 exact h.take _
theorem se_pop (ho:SE X EX o mo) (hbase:attributeBase o "pop" X.env (eval o X.env) = eval o X.env:=by rfl) (hline:(apos.endLine == cpos.line) = true:=by rfl) :
 SE X EX (.Call (.Attribute o "pop" apos) [] [] cpos) (eM0 fPop mo) :=
 ⟨PE.imp (pe_bm0 PySem.F.plainAttrs_list PySem.F.slot_list_pop PySem.F.type_list_pop mt_pop ho.h hbase hline) (meth0 fun ρ h H n q Q r hq fin=>by
  obtain ⟨xs,d,ys,vs,g1,g2,g3,g4,g5⟩:=updL_rel r hq fin
  obtain ⟨d',e1,e2⟩:=Option.map_eq_some_iff.mp g1
  cases e2
  obtain ⟨v,e3,e4⟩:=g4.get e1
  rw [g4.length] at e3
  exact ⟨q,vs,v,rfl,rfl,g3,e3,g5 _ _ e4 g4.dropLast⟩)⟩
theorem se_popAt (ho:SE X EX o mo) (ha:SE X EX a ma)
 (hbase:attributeBase o "pop" X.env (eval o X.env) = eval o X.env:=by rfl)
 (hfew:((backTo cpos (starEach [a] X.env)).all (fun x=>!x.1) && (backToKw cpos (keywordEach [] X.env)).all (fun x=>x.1.isSome)
  && decide (([a]:List Expr).length + ([]:List Keyword).length + (if ([]:List Keyword).isEmpty then 0 else 1) < 30)) = true:=by rfl)
 (hline:(apos.endLine == cpos.line) = true:=by rfl) (hs:starEach [a] X.env = [(false,eval a X.env)]:=by rfl) :
 SE X EX (.Call (.Attribute o "pop" apos) [a] [] cpos) (eM1 fPopAt mo ma) :=
 ⟨PE.imp (pe_bm PySem.F.plainAttrs_list PySem.F.slot_list_pop PySem.F.type_list_pop mt_popAt ho.h (pa_cons ha.h pa_nil hs) hbase hfew hline hs rfl) (meth1 fun ρ h H n q y u Q r hq ru fin=>by
  cases y <;> first | exact (show False from fin).elim | skip
  rename_i k
  simp only [RD] at ru
  subst ru
  obtain ⟨xs,d,ys,vs,g1,g2,g3,g4,g5⟩:=updL_rel r hq fin
  split at g1
  ·rename_i hk
   cases e5:seqIndex? k xs.length with
   | none=>rw [e5] at g1; cases g1
   | some j =>
    rw [e5] at g1
    obtain ⟨d',e1,e2⟩:=Option.map_eq_some_iff.mp g1
    cases e2
    obtain ⟨v,e3,e4⟩:=g4.get e1
    exact ⟨q,vs,k,j,v,rfl,rfl,g3,hk.1,hk.2,by rw [← g4.length]; exact e5,e3,g5 _ _ e4 (g4.eraseIdx j)⟩
  ·cases g1)⟩
end
inductive Src where
 | con (xs:List D)
 | lst (n:Nat) (xs:List D)
 | obj (n:Nat) (o:O) (xs:List D)
def Src.items:Src→List D
 | .con xs=>xs
 | .lst _ xs=>xs
 | .obj _ _ xs=>xs
def Src.good:Src→AH→Prop
 | .con _,_=>True
 | .lst n xs,h=>h[n]? = some (.lst xs)
 | .obj n o _,h=>h[n]? = some o
open Classical in
noncomputable def Src.chk (s:Src):M Unit:=fun h=>if s.good h then .ok () h else .bad
def JOK (K:PySem.W.Frag) (src:Src) (ρ:List Addr) (H:Hp) (J:It):Prop:=∀ i ρ1 h1 H1,Pre ρ ρ1→Ext K H H1→RH K ρ1 h1 H1→src.good h1 →
 (∀ d,src.items[i]? = some d→J.go i H1∧∀ x H2,J.yld i H1 x H2→RD K ρ1 H2 d x∧RH K ρ1 h1 H2∧Ext K H1 H2)∧(src.items.length = i→J.stop i H1)
def tI (K:PySem.W.Frag) (EX:XX) (m:G→M Src):TI:=fun σ H R=>∃ ρ γ h,Rel K ρ γ h σ H∧Fin K EX ρ H (fun src ρ' _ H'=>∀ J,JOK K src ρ' H' J→R J H') (m γ h)
structure SI (X:Cx) (EX:XX) (tg iter:Expr) (m:G→M Src):Prop where
 h:PI X tg iter (tI X.K EX m)
theorem PI.imp {X:Cx} {tg e:Expr} {t t':TI} (h:PI X tg e t) (f:∀ σ H R,t' σ H R→t σ H R):PI X tg e t':=fun pins s σ H R I z=>h pins s σ H R I (f σ H R z)
section
variable {X:Cx} {EX:XX} {a o e tg:Expr} {pos cpos apos p:Pos} {ma mo:G→M D} {mr:G→M (List D)}
def iSeqL (ma:G→M D):G→M Src:=fun γ=>do
 let x ← ma γ
 match x with
 | .fl xs=>pure (.con xs)
 | .ref n=>do
  let xs ← getL n
  pure (.lst n xs)
 | _=>bad
theorem si_list (ha:SE X EX a ma):SI X EX tg a (iSeqL ma) :=
 ⟨PI.imp (pi_list ha.h) fun σ H R ⟨ρ,γ,h,rel,fin⟩=>⟨ρ,γ,h,rel,(Fin.bind fin).mono fun x ρ1 h1 H1 p1 e1 r1 f1 v rv=>by
  cases x <;> first | exact (show False from f1).elim | skip
  case fl xs =>
   simp only [RD] at rv
   obtain ⟨q,vs,rfl,h2,h3⟩:=rv
   refine ⟨q,rfl,⟨vs,h2.sq⟩,f1 ρ1 H1 (Pre.refl _) (Ext.refl _ _) r1 _ fun i ρ2 h4 H2 p2 e2 r2 _=>⟨fun d hd=>?_,fun hi=>?_⟩⟩
   ·have h3':=h3.mono p2 e2
    obtain ⟨x,g1,g2⟩:=h3'.get hd
    refine ⟨⟨vs,x,(e2.l _ _ h2).sq,g1⟩,fun y H3 ⟨z1,z2⟩=>?_⟩
    subst z1
    have:=z2 vs (e2.l _ _ h2).sq
    rw [g1] at this; cases this
    exact ⟨g2,r2,Ext.refl _ _⟩
   ·exact ⟨vs,(e2.l _ _ h2).sq,by rw [← h3.length]; exact Nat.le_of_eq hi⟩
  case ref n =>
   have f2:Fin X.K EX ρ1 H1 (fun src ρ' _ H'=>∀ J,JOK X.K src ρ' H' J→R J H') ((getL n >>= fun xs=>(pure (.lst n xs):M Src)) h1):=f1
   have f3:=Fin.bind f2
   cases e3:getL n h1 with
   | bad=>rw [e3] at f3; exact f3.elim
   | err z hz=>exact (getL_no e3).elim
   | ok xs h3 =>
    obtain ⟨rfl,q1⟩:=getL_ok e3
    rw [e3] at f3
    simp only [RD] at rv
    obtain ⟨q,rfl,hq⟩:=rv
    obtain ⟨a1,n1,vs,o1,d1⟩:=r1.at q1
    rw [hq] at n1; cases n1
    have f4:=f3 ρ1 H1 (Pre.refl _) (Ext.refl _ _) r1
    refine ⟨q,rfl,⟨vs,SqL.of o1⟩,f4 ρ1 H1 (Pre.refl _) (Ext.refl _ _) r1 _ fun i ρ2 h4 H2 p2 e2 r2 g=>?_⟩
    have g':h4[n]? = some (.lst xs):=g
    obtain ⟨a2,n2,vs2,o2,d2⟩:=r2.at g'
    rw [p2 n q hq] at n2; cases n2
    refine ⟨fun d hd=>?_,fun hi=>⟨vs2,SqL.of o2,by rw [← d2.length]; exact Nat.le_of_eq hi⟩⟩
    obtain ⟨x,g1,g2⟩:=d2.get hd
    refine ⟨⟨vs2,x,SqL.of o2,g1⟩,fun y H3 ⟨z1,z2⟩=>?_⟩
    subst z1
    have:=z2 vs2 (SqL.of o2)
    rw [g1] at this; cases this
    exact ⟨g2,r2,Ext.refl _ _⟩⟩⟩
def iSeqT (ma:G→M D):G→M Src:=fun γ=>do
 let x ← ma γ
 match x with
 | .tup xs=>pure (.con xs)
 | _=>bad
theorem si_tup (ha:SE X EX a ma):SI X EX tg a (iSeqT ma) :=
 ⟨PI.imp (pi_tup ha.h) fun σ H R ⟨ρ,γ,h,rel,fin⟩=>⟨ρ,γ,h,rel,(Fin.bind fin).mono fun x ρ1 h1 H1 p1 e1 r1 f1 v rv=>by
  cases x <;> first | exact (show False from f1).elim | skip
  rename_i xs
  simp only [RD] at rv
  obtain ⟨q,vs,rfl,h2,h3⟩:=rv
  refine ⟨q,rfl,⟨vs,h2⟩,f1 ρ1 H1 (Pre.refl _) (Ext.refl _ _) r1 _ fun i ρ2 h4 H2 p2 e2 r2 _=>⟨fun d hd=>?_,fun hi=>?_⟩⟩
  ·have h3':=h3.mono p2 e2
   obtain ⟨x,g1,g2⟩:=h3'.get hd
   refine ⟨⟨vs,x,e2.t _ _ h2,g1⟩,fun y H3 ⟨z1,z2⟩=>?_⟩
   subst z1
   have:=z2 vs (e2.t _ _ h2)
   rw [g1] at this; cases this
   exact ⟨g2,r2,Ext.refl _ _⟩
  ·exact ⟨vs,e2.t _ _ h2,by rw [← h3.length]; exact Nat.le_of_eq hi⟩⟩⟩
def intsD (n:Nat):List D:=(List.range n).map fun (i:Nat)=>.int i
def iRange (ma:G→M D):G→M Src:=fun γ=>do
 let x ← ma γ
 match x with
 | .int j=>if -(2 ^ 62) ≤ j∧j < 2 ^ 62 then pure (.con (intsD j.toNat)) else bad
 | _=>bad
theorem si_range (hg:Gl X "range") (hm:X.mg "range" = none) (ha:SE X EX a ma) (hs:starEach [a] X.env = [(false,eval a X.env)]:=by rfl):SI X EX tg (.Call (.Name "range" p) [a] [] pos) (iRange ma) :=
 ⟨PI.imp (pi_range1 hg hm (pa_cons ha.h pa_nil hs) hs) fun σ H R ⟨ρ,γ,h,rel,fin⟩=>⟨ρ,γ,h,rel,(Fin.bind fin).mono fun x ρ1 h1 H1 p1 e1 r1 f1 v rv=>by
  cases x <;> first | exact (show False from f1).elim | skip
  rename_i j
  simp only [RD] at rv
  subst rv
  have f2:Fin X.K EX ρ1 H1 (fun src ρ' _ H'=>∀ J,JOK X.K src ρ' H' J→R J H') ((if -(2 ^ 62) ≤ j∧j < 2 ^ 62 then pure (.con (intsD j.toNat)) else bad:M Src) h1):=f1
  by_cases hj:-(2 ^ 62) ≤ j∧j < 2 ^ 62
  ·rw [if_pos hj] at f2
   refine ⟨j,rfl,hj.1,hj.2,f2 ρ1 H1 (Pre.refl _) (Ext.refl _ _) r1 _ fun i ρ2 h4 H2 p2 e2 r2 _=>⟨fun d hd=>?_,fun hi=>?_⟩⟩
   ·have hd':(intsD j.toNat)[i]? = some d:=hd
    unfold intsD at hd'
    rw [List.getElem?_map] at hd'
    have hi:i < j.toNat:=by
     by_cases hi:i < j.toNat
     ·exact hi
     ·rw [List.getElem?_eq_none (by simpa using hi)] at hd'; cases hd'
    rw [List.getElem?_range hi] at hd'
    cases hd'
    refine ⟨hi,fun y H3 ⟨z1,z2⟩=>?_⟩
    subst z1; subst z2
    exact ⟨by simp [RD],r2,Ext.refl _ _⟩
   ·have hi':(intsD j.toNat).length = i:=hi
    unfold intsD at hi'
    rw [List.length_map,List.length_range] at hi'
    exact Nat.le_of_eq hi'
  ·rw [if_neg hj] at f2; exact f2.elim⟩⟩
end
noncomputable def forR (src:Src) (g:D→G→M G) (body:G→M Out):List D→G→M Out
 | [],γ=>do
  let _ ← src.chk
  pure (.nx γ)
 | d :: r,γ=>do
  let _ ← src.chk
  let γ1 ← g d γ
  let o ← body γ1
  match o with
  | .nx γ2=>forR src g body r γ2
  | .ct γ2=>forR src g body r γ2
  | .bk γ2=>pure (.nx γ2)
  | .rt v=>pure (.rt v)
noncomputable def sFor (mi:G→M Src) (g:D→G→M G) (body:G→M Out):G→M Out:=fun γ=>do
 let src ← mi γ
 forR src g body src.items γ
theorem chk_ok {K:PySem.W.Frag} {EX:XX} {ρ:List Addr} {H:Hp} {α:Type} {P:α→List Addr→AH→Hp→Prop} {src:Src} {f:Unit→M α} {h:AH} (fin:Fin K EX ρ H P ((src.chk >>= f) h)) (r:RH K ρ h H):src.good h∧Fin K EX ρ H P (f () h):=by
 have f1:=Fin.bind fin
 unfold Src.chk at f1
 split at f1
 ·rename_i hg
  exact ⟨hg,f1 ρ H (Pre.refl _) (Ext.refl _ _) r⟩
 ·exact f1.elim
section
variable {X:Cx} {EX:XX} {a o e tg c:Expr} {pos cpos apos p:Pos} {ma mo:G→M D} {mi:G→M Src} {g:D→G→M G} {mb:G→M Out} {sts:List Stmt} {kc:G→M Bool}
theorem s_for (hp:PassesOwn (model X.prog X.w) X.A X.env X.xe) (hc:X.calm = true) (hi:SI X EX tg e mi) (hg:SG X EX tg g) (hb:SB X EX sts mb) (hs:∀ x,foldedSetIterable e X.env x = pure x:=by intro _; rfl):S1 X EX (.For tg e sts [] pos) (sFor mi g mb) :=
 ⟨PS.imp (ps_for hp hc hi.h hg.h hb.h hs) fun σ H D ⟨ρ,γ,h,rel,fin⟩=>⟨ρ,γ,h,rel,(Fin.bind fin).mono fun src ρ0 h0 H0 p0 e0 r0 f0 J hJ=>by
  refine ⟨fun i m σ H=>m + i = src.items.length∧∃ ρ γ h,Pre ρ0 ρ∧Ext X.K H0 H∧Rel X.K ρ γ h σ H∧Fin X.K EX ρ H (fun o ρ' _ H'=>OutP X.K D o ρ' H') (forR src g mb (src.items.drop i) γ h),
   ⟨src.items.length,rfl,ρ0,γ,h0,Pre.refl _,Ext.refl _ _,⟨rel.g.mono p0 e0,r0⟩,f0⟩,?_⟩
  rintro i m σ1 H1 ⟨hm,ρ1,γ1,h1,p1,e1,rel1,f1⟩
  by_cases hi:i < src.items.length
  ·have hd:src.items.drop i = src.items[i] :: src.items.drop (i + 1):=List.drop_eq_getElem_cons hi
   rw [hd] at f1
   unfold forR at f1
   obtain ⟨good,f2⟩:=chk_ok f1 rel1.h
   obtain ⟨j1,j2⟩:=hJ i ρ1 h1 H1 p1 e1 rel1.h good
   obtain ⟨go,yld⟩:=j1 src.items[i] (List.getElem?_eq_getElem hi)
   refine .inr ⟨go,fun σ' H'=>∃ ρ γ h,Pre ρ0 ρ∧Ext X.K H0 H'∧Rel X.K ρ γ h σ' H'∧Fin X.K EX ρ H' (fun o ρ' _ H'=>OutP X.K D o ρ' H') (forR src g mb (src.items.drop (i + 1)) γ h),fun σ' H' z=>⟨m - 1,by omega,by omega,z⟩,fun x H2 y=>?_⟩
   obtain ⟨rd,rh,ext⟩:=yld x H2 y
   refine ⟨ρ1,γ1,h1,_,⟨rel1.g.mono (Pre.refl _) ext,rh⟩,rd,(Fin.bind (Fin.up (Pre.refl _) ext f2)).mono fun γ2 ρ3 h3 H3 p3 e3 r3 f3 σ3 g3=>⟨ρ3,γ2,h3,⟨g3,r3⟩,(Fin.bind f3).mono fun o ρ4 h4 H4 p4 e4 r4 f4=>?_⟩⟩
   have pp:Pre ρ0 ρ4:=(p1.trans p3).trans p4
   have ee:Ext X.K H0 H4:=((e1.trans ext).trans e3).trans e4
   cases o with
   | nx γ5=>exact fun σ5 g5=>⟨ρ4,γ5,h4,pp,ee,⟨g5,r4⟩,f4⟩
   | ct γ5=>exact fun σ5 g5=>⟨ρ4,γ5,h4,pp,ee,⟨g5,r4⟩,f4⟩
   | bk γ5=>exact fun σ5 g5=>f4 ρ4 H4 (Pre.refl _) (Ext.refl _ _) r4 σ5 g5
   | rt d=>exact fun v rv=>f4 ρ4 H4 (Pre.refl _) (Ext.refl _ _) r4 v rv
  ·have hd:src.items.drop i = []:=List.drop_eq_nil_of_le (by omega)
   rw [hd] at f1
   unfold forR at f1
   obtain ⟨good,f2⟩:=chk_ok f1 rel1.h
   obtain ⟨j1,j2⟩:=hJ i ρ1 h1 H1 p1 e1 rel1.h good
   exact .inl ⟨j2 (by omega),f2 ρ1 H1 (Pre.refl _) (Ext.refl _ _) rel1.h σ1 rel1.g⟩⟩⟩
def whileR (k:G→M Bool) (body:G→M Out):Nat→G→M Out
 | 0,_=>bad
 | n + 1,γ=>do
  let t ← k γ
  if t then do
   let o ← body γ
   match o with
   | .nx γ2=>whileR k body n γ2
   | .ct γ2=>whileR k body n γ2
   | .bk γ2=>pure (.nx γ2)
   | .rt v=>pure (.rt v)
  else pure (.nx γ)
theorem s_while (n:Nat) (hp:PassesOwn (model X.prog X.w) X.A X.env X.xe) (hc:SC X EX c kc) (hb:SB X EX sts mb):S1 X EX (.While c sts [] pos) (whileR kc mb n) :=
 ⟨PS.imp (ps_while hp hc.h hb.h) fun σ H D ⟨ρ,γ,h,rel,fin⟩=>by
  refine ⟨fun m σ H=>∃ ρ γ h,Rel X.K ρ γ h σ H∧Fin X.K EX ρ H (fun o ρ' _ H'=>OutP X.K D o ρ' H') (whileR kc mb m γ h),⟨n,ρ,γ,h,rel,fin⟩,?_⟩
  rintro m σ1 H1 ⟨ρ1,γ1,h1,rel1,f1⟩
  cases m with
  | zero=>exact (show False from f1).elim
  | succ m =>
   unfold whileR at f1
   refine ⟨ρ1,γ1,h1,rel1,(Fin.bind f1).mono fun t ρ2 h2 H2 p2 e2 r2 f2=>?_⟩
   cases t with
   | false=>exact f2 ρ2 H2 (Pre.refl _) (Ext.refl _ _) r2 σ1 (rel1.g.mono p2 e2)
   | true =>
    rw [if_pos rfl] at f2 ⊢
    refine ⟨fun σ' H'=>∃ ρ γ h,Rel X.K ρ γ h σ' H'∧Fin X.K EX ρ H' (fun o ρ' _ H'=>OutP X.K D o ρ' H') (whileR kc mb m γ h),fun σ' H' z=>⟨m,by omega,z⟩,ρ2,γ1,h2,⟨rel1.g.mono p2 e2,r2⟩,(Fin.bind f2).mono fun o ρ4 h4 H4 p4 e4 r4 f4=>?_⟩
    cases o with
    | nx γ5=>exact fun σ5 g5=>⟨ρ4,γ5,h4,⟨g5,r4⟩,f4⟩
    | ct γ5=>exact fun σ5 g5=>⟨ρ4,γ5,h4,⟨g5,r4⟩,f4⟩
    | bk γ5=>exact fun σ5 g5=>f4 ρ4 H4 (Pre.refl _) (Ext.refl _ _) r4 σ5 g5
    | rt d=>exact fun v rv=>f4 ρ4 H4 (Pre.refl _) (Ext.refl _ _) r4 v rv⟩
end
def capG (cap:List (Option Nat)) (γ:G):G:=cap.map fun o=>match o with | some j=>(γ[j]?).join | none=>none
theorem cap_rel {K:PySem.W.Frag} {ρ:List Addr} {H:Hp} {γ:G} {σ:L2.St} (cap:List (Option Nat)) (r:RG K ρ H γ σ):RG K ρ H (capG cap γ) (capSt cap σ):=by
 refine ⟨by simp [capG,capSt],fun i d e=>?_⟩
 unfold capG at e
 unfold capSt
 rw [List.getElem?_map] at e ⊢
 cases q:cap[i]? with
 | none=>rw [q] at e; cases e
 | some o =>
  rw [q] at e
  cases o with
  | none=>simp at e
  | some j =>
   have e2:(γ[j]?).join = some d:=by simpa using e
   have e3:γ[j]? = some (some d):=by
    cases q2:γ[j]? with
    | none=>rw [q2] at e2; simp at e2
    | some o2=>rw [q2] at e2; simp at e2; rw [e2]
   obtain ⟨v,h1,h2⟩:=r.var j d e3
   exact ⟨v,by simp [h1],h2⟩
noncomputable def compR (src:Src) (g:D→G→M G) (k:G→M Bool) (me:G→M D) (n0:Nat) (γ:G):List D→M Unit
 | []=>do
  let _ ← src.chk
  pure ()
 | d :: r=>do
  let _ ← src.chk
  let γ1 ← g d γ
  let t ← k γ1
  if t then do
   let v ← me γ1
   let _ ← fAppend n0 v
   compR src g k me n0 γ r
  else compR src g k me n0 γ r
noncomputable def eComp (cap:List (Option Nat)) (mi:G→M Src) (g:D→G→M G) (k:G→M Bool) (me:G→M D):G→M D:=fun γ=>do
 let src ← mi γ
 let n0 ← (fun h=>.ok h.length (h++[.lst []]):M Nat)
 let _ ← compR src g k me n0 (capG cap γ) src.items
 pure (.ref n0)
structure SCs (X:Cx) (EX:XX) (ifs:List Expr) (m:G→M Bool):Prop where
 h:PTs X ifs (tT X.K EX m)
theorem PTs.imp {X:Cx} {e:List Expr} {t t':TT} (h:PTs X e t) (f:∀ σ H Q,t' σ H Q→t σ H Q):PTs X e t':=fun pins s σ H Q I z=>h pins s σ H Q I (f σ H Q z)
section
variable {X:Cx} {EX:XX} {elt tg iter c:Expr} {ifs:List Expr} {sc:Scope} {pos:Pos} {N':List Str} {cap:List (Option Nat)} {own:List Nat} {mi:G→M Src} {g:D→G→M G} {k kr:G→M Bool} {me:G→M D}
theorem scs_nil:SCs X EX [] (fun _=>pure true):=⟨PTs.imp pts_nil fun σ H Q ⟨ρ,γ,h,rel,fin⟩=>fin ρ H (Pre.refl _) (Ext.refl _ _) rel.h⟩
theorem scs_one (h:SC X EX c k):SCs X EX [c] k:=⟨PTs.imp (pts_cons h.h pts_nil) fun σ H Q ⟨ρ,γ,h,rel,fin⟩=>⟨ρ,γ,h,rel,fin.mono fun t ρ1 h1 H1 p1 e1 r1 f1=>by
 cases t with
 | true=>exact f1
 | false=>exact f1⟩⟩
theorem comp_run {σ:L2.St} {H0:Hp} {ρ0:List Addr} {h0:AH} {γ:G} {src:Src} {J:It} {Dd:Addr} {P:Hp→Prop} (r0:RH X.K ρ0 h0 H0) (rg:RG X.K ρ0 H0 γ σ) (hJ:JOK X.K src ρ0 H0 J) (hD:H0 Dd = none) (hown:∀ j ∈ own,cap[j]? = some none)
 (fin:Fin X.K EX (ρ0++[Dd]) (upd H0 Dd (.lst [])) (fun _ ρ' h' H'=>ρ'[h0.length]? = some Dd→RH X.K ρ' h' H'→Ext X.K (upd H0 Dd (.lst [])) H'→Pre (ρ0++[Dd]) ρ'→P H') (compR src g k me h0.length (capG cap γ) src.items (h0++[.lst []]))) :
 compRun cap (tGk X.K EX own g) (tT X.K EX k) (tE X.K EX me) σ J Dd P (upd H0 Dd (.lst [])):=by
 have rP:=r0.push hD (RDs.nil (K:=X.K) (ρ:=ρ0) (H:=H0))
 have eP:Ext X.K H0 (upd H0 Dd (.lst [])):=Ext.upd (.inl hD)
 have at0:(ρ0++[Dd])[h0.length]? = some Dd:=by rw [← r0.len]; simp
 refine ⟨fun i m H=>m + i = src.items.length∧∃ ρ h,Pre (ρ0++[Dd]) ρ∧Ext X.K (upd H0 Dd (.lst [])) H∧RH X.K ρ h H ∧
  Fin X.K EX ρ H (fun _ ρ' h' H'=>ρ'[h0.length]? = some Dd→RH X.K ρ' h' H'→Ext X.K (upd H0 Dd (.lst [])) H'→Pre (ρ0++[Dd]) ρ'→P H') (compR src g k me h0.length (capG cap γ) (src.items.drop i) h),
  ⟨src.items.length,rfl,_,_,Pre.refl _,Ext.refl _ _,rP,fin⟩,?_⟩
 rintro i m H1 ⟨hm,ρ1,h1,p1,e1,r1,f1⟩
 have p01:Pre ρ0 ρ1:=(Pre.app _ _).trans p1
 have e01:Ext X.K H0 H1:=eP.trans e1
 by_cases hi:i < src.items.length
 ·have hd:src.items.drop i = src.items[i] :: src.items.drop (i + 1):=List.drop_eq_getElem_cons hi
  rw [hd] at f1
  unfold compR at f1
  obtain ⟨good,f2⟩:=chk_ok f1 r1
  obtain ⟨j1,j2⟩:=hJ i ρ1 h1 H1 p01 e01 r1 good
  obtain ⟨go,yld⟩:=j1 src.items[i] (List.getElem?_eq_getElem hi)
  refine .inr ⟨go,fun x H2 y=>?_⟩
  obtain ⟨rd,rh,ext⟩:=yld x H2 y
  have rgc:RG X.K ρ1 H2 (capG cap γ) (capSt cap σ):=(cap_rel cap rg).mono p01 (e01.trans ext)
  refine ⟨ρ1,_,h1,_,⟨rgc,rh⟩,rd,(Fin.bind (Fin.up (Pre.refl _) ext f2)).mono fun γ2 ρ3 h3 H3 p3 e3 r3 f3 σ3 g3 k3=>⟨fun j v hv=>?_,ρ3,γ2,h3,⟨g3,r3⟩,(Fin.bind f3).mono fun t ρ4 h4 H4 p4 e4 r4 f4=>?_⟩⟩
  ·rw [k3 j fun hj=>?_]
   ·exact hv
   ·have z:=hown j hj
    unfold capSt at hv
    rw [List.getElem?_map,z] at hv
    simp at hv
  ·have pp:Pre (ρ0++[Dd]) ρ4:=(p1.trans p3).trans p4
   have ee:Ext X.K (upd H0 Dd (.lst [])) H4:=((e1.trans ext).trans e3).trans e4
   cases t with
   | false =>
    rw [if_neg (by decide)] at f4
    dsimp only
    rw [if_neg (by decide)]
    exact ⟨m - 1,by omega,by omega,ρ4,h4,pp,ee,r4,f4⟩
   | true =>
    rw [if_pos rfl] at f4
    dsimp only
    rw [if_pos rfl]
    refine ⟨ρ4,γ2,h4,⟨g3.mono p4 e4,r4⟩,(Fin.bind f4).mono fun d ρ5 h5 H5 p5 e5 r5 f5 v rv=>?_⟩
    have hq:ρ5[h0.length]? = some Dd:=(pp.trans p5) _ _ at0
    have f6:=Fin.bind f5
    unfold fAppend updL at f6
    cases e7:h5[h0.length]? with
    | none=>rw [e7] at f6; exact f6.elim
    | some ob =>
     cases ob with
     | set ks=>rw [e7] at f6; exact f6.elim
     | dct=>rw [e7] at f6; exact f6.elim
     | dK kvs=>rw [e7] at f6; exact f6.elim
     | dF kvs=>rw [e7] at f6; exact f6.elim
     | exc c=>rw [e7] at f6; exact f6.elim
     | lst xs =>
      rw [e7] at f6
      dsimp only at f6
      split at f6
      ·rename_i hl
       obtain ⟨a1,n1,vs,o1,d1⟩:=r5.at e7
       rw [hq] at n1; cases n1
       have dd:=d1.append (RDs.cons rv RDs.nil)
       have ext2:Ext X.K H5 (upd H5 Dd (.lst (vs++[v]))):=Ext.upd (.inr ⟨_,o1,trivial⟩)
       have r6:=r5.set e7 hq dd
       rw [List.length_append,List.length_singleton] at hl
       have hl2:=d1.length
       exact ⟨vs,o1,by omega,m - 1,by omega,by omega,ρ5,_,pp.trans p5,(ee.trans e5).trans ext2,r6,f6 ρ5 _ (Pre.refl _) ext2 r6⟩
      ·exact f6.elim
 ·have hd:src.items.drop i = []:=List.drop_eq_nil_of_le (by omega)
  rw [hd] at f1
  unfold compR at f1
  obtain ⟨good,f2⟩:=chk_ok f1 r1
  obtain ⟨j1,j2⟩:=hJ i ρ1 h1 H1 p01 e01 r1 good
  exact .inl ⟨j2 (by omega),f2 ρ1 H1 (Pre.refl _) (Ext.refl _ _) r1 (p1 _ _ at0) r1 e1 p1⟩
theorem se_comp (hc:X.calm = true) (S:CS X sc N' cap) (hi:SI X EX tg iter mi) (hg:∀ s H fp xe,SGk (X.comp N' sc s H fp xe) EX tg own g) (ht:∀ s H fp xe,SCs (X.comp N' sc s H fp xe) EX ifs k)
 (he:∀ s H fp xe,SE (X.comp N' sc s H fp xe) EX elt me) (hown:∀ j ∈ own,cap[j]? = some none:=by decide) (hs:∀ x,foldedSetIterable iter X.env x = pure x:=by intro _; rfl):SE X EX (.ListComp elt [⟨tg,iter,ifs,0⟩] sc pos) (eComp cap mi g k me) :=
 ⟨PE.imp (pe_comp (g:=tGk X.K EX own g) (ti:=tT X.K EX k) (te:=tE X.K EX me) hc S hi.h (fun s H fp xe=>(hg s H fp xe).h) (fun s H fp xe=>(ht s H fp xe).h) (fun s H fp xe=>(he s H fp xe).h) hs) fun σ H Q ⟨ρ,γ,h,rel,fin⟩=>⟨ρ,γ,h,rel,(Fin.bind fin).mono fun src ρ0 h0 H0 p0 e0 r0 f0 J hJ Dd hD=>by
  have rP:=r0.push hD (RDs.nil (K:=X.K) (ρ:=ρ0) (H:=H0))
  have eP:Ext X.K H0 (upd H0 Dd (.lst [])):=Ext.upd (.inl hD)
  have f1:=Fin.bind f0
  have f2:=f1 (ρ0++[Dd]) _ (Pre.app _ _) eP rP
  refine comp_run r0 (rel.g.mono p0 e0) hJ hD hown ((Fin.bind f2).mono fun _ ρ5 h5 H5 p5 e5 r5 f5 hat rr ee pp=>?_)
  refine FE.here (d:=.ref h0.length) (h:=h5) f5 rr ?_
  simp only [RD]
  exact ⟨Dd,rfl,hat⟩⟩⟩
noncomputable def sComp' (i:Nat) (cap:List (Option Nat)) (mi:G→M Src) (g:D→G→M G) (k:G→M Bool) (me:G→M D):G→M Out:=sAsg (eComp cap mi g k me) (gN i)
theorem s_comp (i:Nat) {y:Str} {py spos:Pos} (hc:X.calm = true) (S:CS X sc N' cap) (hi:SI X EX tg iter mi) (hg:∀ s H fp xe,SGk (X.comp N' sc s H fp xe) EX tg own g) (ht:∀ s H fp xe,SCs (X.comp N' sc s H fp xe) EX ifs k)
 (he:∀ s H fp xe,SE (X.comp N' sc s H fp xe) EX elt me) (hN:X.N.Nodup) (hy:X.N[i]? = some y:=by rfl) (hl:X.env.scope.names.lookup y = some .local:=by rfl) (hown:∀ j ∈ own,cap[j]? = some none:=by decide)
 (hsw:swapsWith (.ListComp elt [⟨tg,iter,ifs,0⟩] sc pos) (some (.Name y py)) spos.line X.env = pure true:=by rfl) (hs:∀ x,foldedSetIterable iter X.env x = pure x:=by intro _; rfl) :
 S1 X EX (.Assign [.Name y py] (.ListComp elt [⟨tg,iter,ifs,0⟩] sc pos) spos) (sComp' i cap mi g k me) :=
 ⟨PS.imp (ps_comp (g:=tGk X.K EX own g) (ti:=tT X.K EX k) (te:=tE X.K EX me) hc S hi.h (fun s H fp xe=>(hg s H fp xe).h) (fun s H fp xe=>(ht s H fp xe).h) (fun s H fp xe=>(he s H fp xe).h) hN hy hl hsw hs) fun σ H D ⟨ρ,γ,h,rel,fin⟩=>⟨ρ,γ,h,rel,(Fin.bind (Fin.bind fin)).mono fun src ρ0 h0 H0 p0 e0 r0 f0 J hJ Dd hD=>by
  have rP:=r0.push hD (RDs.nil (K:=X.K) (ρ:=ρ0) (H:=H0))
  have eP:Ext X.K H0 (upd H0 Dd (.lst [])):=Ext.upd (.inl hD)
  have f1:=Fin.bind f0
  have f2:=f1 (ρ0++[Dd]) _ (Pre.app _ _) eP rP
  refine comp_run r0 (rel.g.mono p0 e0) hJ hD hown ((Fin.bind f2).mono fun _ ρ5 h5 H5 p5 e5 r5 f5 hat rr ee pp=>?_)
  have f6:=f5 ρ5 H5 (Pre.refl _) (Ext.refl _ _) rr
  have f7:=f6 ρ5 H5 (Pre.refl _) (Ext.refl _ _) rr
  refine f7 _ (RG.set (((rel.g.mono p0 e0).mono (Pre.app _ _) eP).mono pp ee) i ?_)
  simp only [RD]
  exact ⟨Dd,rfl,hat⟩⟩⟩
end
def csOk (osc:Scope) (N:List Str) (sc:Scope) (N':List Str) (cap:List (Option Nat)):Bool :=
 (sc.kind == .function) && sc.names.all (fun y=>y.2 != .cell) && sc.names.all (fun x=>x.2 != .local || sc.names.lookup x.1 == some .local) &&
 sc.names.all (fun x=>x.2 != .free || (osc.names.lookup x.1 == some .cell || osc.names.lookup x.1 == some .free)) && (cap.length == N'.length) &&
 (List.range cap.length).all fun i=>match cap[i]? with
  | some (some j)=>(match N'[i]?,N[j]? with
   | some x,some y=>x == y && sc.names.lookup x == some .free
   | _,_=>false)
  | _=>true
theorem cs_mk {X:Cx} {sc:Scope} {N':List Str} {cap:List (Option Nat)} (h:csOk X.env.scope X.N sc N' cap = true):CS X sc N' cap:=by
 unfold csOk at h
 simp only [Bool.and_eq_true] at h
 obtain ⟨⟨⟨⟨⟨h1,h2⟩,h3⟩,h4⟩,h5⟩,h6⟩:=h
 refine ⟨by simpa using h1,fun y hy=>?_,fun x hx hl=>?_,fun x hx hf=>?_,by simpa using h5,fun i j e=>?_⟩
 ·have:=List.all_eq_true.mp h2 y hy
  simpa using this
 ·have:=List.all_eq_true.mp h3 x hx
  simpa [hl] using this
 ·have:=List.all_eq_true.mp h4 x hx
  have:(X.env.scope.names.lookup x.1 == some .cell || X.env.scope.names.lookup x.1 == some .free) = true:=by simpa [hf] using this
  rw [Bool.or_eq_true] at this
  rcases this with z | z
  ·exact .inl (show X.env.scope.names.lookup x.1 = _ by simpa using z)
  ·exact .inr (show X.env.scope.names.lookup x.1 = _ by simpa using z)
 ·have hi:i < cap.length:=(List.getElem?_eq_some_iff.mp e).1
  have:=List.all_eq_true.mp h6 i (List.mem_range.mpr hi)
  rw [e] at this
  dsimp only at this
  cases e1:N'[i]? with
  | none=>rw [e1] at this; cases this
  | some x =>
   cases e2:X.N[j]? with
   | none=>rw [e1,e2] at this; cases this
   | some y =>
    rw [e1,e2] at this
    simp only [Bool.and_eq_true] at this
    have exy:x = y:=by simpa using this.1
    subst exy
    exact ⟨x,rfl,rfl,by simpa using this.2⟩
def DefAt (K:PySem.W.Frag) (x:Str) (st:Stmt):Prop:=∃ f fd,PySem.W.nsIn K mainGlobals x = some (some (.ref f))∧Fun K x x st f fd
theorem defAt_mk {K:PySem.W.Frag} {x:Str} {st:Stmt} {f:Addr} {oc:Value} {od an:Option Addr} {sl:Array (Option Value)} {kV dc pm cd ct:Value} (a:PySem.W.nsIn K mainGlobals x = some (some (.ref f)))
 (l:K.lookup f = some ⟨oc,od,.func (PySem.W.fnOf x x (defArgs st) (defBody st) (defScope st) .none kV dc pm an cd ct),sl⟩) (c:PySem.W.codeIn K cd x = true) (k:PySem.W.keepIn K (.ref f) = true):DefAt K x st :=
 ⟨f,_,a,fun_mk l c k⟩
section
variable {prog:Program} {w:World} {A:Around} {E:Value→Shared→Prop} {s:Shared}
end
section
variable {X:Cx} {EX:XX} {a b:Expr} {elts:List Expr} {kk:Nat} {p pos pt:Pos} {ma mb:G→M D}
end
section
variable {X:Cx} {EX:XX} {a b:Expr} {tg:Expr} {p pos p2:Pos} {ma mb:G→M D}
end
def leS (a b:Str):Bool:=!decide (b.cps.toList < a.cps.toList)
theorem leS_trans {a b c:Str} (h1:leS a b = true) (h2:leS b c = true):leS a c = true:=by
 simp only [leS,Bool.not_eq_true',decide_eq_false_iff_not] at *
 exact List.not_lt.mpr (List.le_trans (List.not_lt.mp h1) (List.not_lt.mp h2))
theorem leS_total (a b:Str):(leS a b || leS b a) = true:=by
 simp only [leS,Bool.or_eq_true,Bool.not_eq_true',decide_eq_false_iff_not]
 rcases List.le_total a.cps.toList b.cps.toList with h | h
 ·exact .inl (List.not_lt.mpr h)
 ·exact .inr (List.not_lt.mpr h)
theorem str_ext {a b:Str} (h:a.cps.toList = b.cps.toList):a = b:=by
 cases a; cases b
 congr 1
 exact Array.toList_inj.mp h
theorem leS_anti {a b:Str} (h1:leS a b = true) (h2:leS b a = true):a = b:=by
 simp only [leS,Bool.not_eq_true',decide_eq_false_iff_not] at *
 exact str_ext (List.le_antisymm (List.not_lt.mp h1) (List.not_lt.mp h2))
def sortS (l:List Str):List Str:=l.mergeSort leS
theorem sortS_perm (l:List Str):(sortS l).Perm l:=List.mergeSort_perm l leS
theorem sortS_pw (l:List Str):(sortS l).Pairwise (fun a b=>leS a b = true):=List.pairwise_mergeSort (le:=leS) (fun a b c h1 h2=>leS_trans h1 h2) leS_total l
theorem rising_pw:∀ (p:Str) (l:List Str),risingS p l = true→(p :: l).Pairwise (fun a b=>leS a b = true)
 | p,[],_=>by simp
 | p,x :: r,h=>by
  have h':(!ltCps x.cps.toList p.cps.toList && risingS x r) = true:=h
  rw [Bool.and_eq_true,ltCps_eq] at h'
  have ih:=rising_pw x r h'.2
  have px:leS p x = true:=h'.1
  refine List.pairwise_cons.mpr ⟨fun y hy=>?_,ih⟩
  rcases List.mem_cons.mp hy with rfl | hy
  ·exact px
  ·exact leS_trans px ((List.pairwise_cons.mp ih).1 y hy)
theorem sortS_eq {l l':List Str} (p:l'.Perm l) (h:sortedS l' = true):l' = sortS l:=by
 have pw:l'.Pairwise (fun a b=>leS a b = true):=by
  cases l' with
  | nil=>exact .nil
  | cons x r=>exact rising_pw x r h
 exact List.Perm.eq_of_pairwise (fun a b _ _=>leS_anti) pw (sortS_pw l) (p.trans (sortS_perm l).symm)
def leI (a b:Int):Bool:=decide (a ≤ b)
def sortI (l:List Int):List Int:=l.mergeSort leI
theorem sortI_perm (l:List Int):(sortI l).Perm l:=List.mergeSort_perm l leI
theorem sortI_pw (l:List Int):(sortI l).Pairwise (fun a b=>a ≤ b):=by
 have:=List.pairwise_mergeSort (le:=leI) (fun a b c h1 h2=>by simp only [leI,decide_eq_true_eq] at *; omega) (fun a b=>by simp only [leI,Bool.or_eq_true,decide_eq_true_eq]; omega) l
 exact this.imp fun h=>by simpa [leI] using h
theorem sortI_eq {l l':List Int} (p:l'.Perm l) (h:l'.Pairwise (· ≤ ·)):l' = sortI l :=
 List.Perm.eq_of_pairwise (fun a b _ _ h1 h2=>Int.le_antisymm h1 h2) h (sortI_pw l) (p.trans (sortI_perm l).symm)
def strsD:List D→Option (List Str)
 | []=>some []
 | .str b :: r=>(strsD r).map (b :: ·)
 | _ :: _=>none
def numsD:List D→Option (List Int)
 | []=>some []
 | .int b :: r=>(numsD r).map (b :: ·)
 | _ :: _=>none
def fSorted:List D→M D
 | [.ref n]=>do
  let xs ← getL n
  if xs.length < 64 then (match strsD xs with
   | some ss=>newL ((sortS ss).map .str)
   | none=>(match numsD xs with
    | some ns=>newL ((sortI ns).map .int)
    | none=>bad)) else bad
 | _=>bad
theorem strs_rel {K:PySem.W.Frag} {ρ:List Addr} {H:Hp}:∀ {xs:List D} {bs:List Str} {vs:List V},strsD xs = some bs→RDs K ρ H xs vs→vs = bs.map V.str
 | [],bs,vs,e,r=>by simp only [RDs] at r; cases e; subst r; rfl
 | x :: xs,bs,vs,e,r=>by
  simp only [RDs] at r
  obtain ⟨v,r2,rfl,h1,h2⟩:=r
  cases x <;> first | (simp only [strsD] at e; cases e; done) | skip
  rename_i b
  simp only [strsD] at e
  obtain ⟨bs',e1,rfl⟩:=Option.map_eq_some_iff.mp e
  simp only [RD] at h1
  subst h1
  rw [strs_rel e1 h2]; rfl
theorem nums_rel {K:PySem.W.Frag} {ρ:List Addr} {H:Hp}:∀ {xs:List D} {bs:List Int} {vs:List V},numsD xs = some bs→RDs K ρ H xs vs→vs = bs.map V.int
 | [],bs,vs,e,r=>by simp only [RDs] at r; cases e; subst r; rfl
 | x :: xs,bs,vs,e,r=>by
  simp only [RDs] at r
  obtain ⟨v,r2,rfl,h1,h2⟩:=r
  cases x <;> first | (simp only [numsD] at e; cases e; done) | skip
  rename_i b
  simp only [numsD] at e
  obtain ⟨bs',e1,rfl⟩:=Option.map_eq_some_iff.mp e
  simp only [RD] at h1
  subst h1
  rw [nums_rel e1 h2]; rfl
theorem strs_are:∀ {bs:List Str} {us:List Value},Vals (bs.map V.str) us→StrsAre us bs
 | [],us,h=>by cases h; exact .nil
 | b :: bs,us,h=>by
  cases h with
  | cons h1 h2=>obtain ⟨t,rfl⟩:=h1; exact .cons b t (strs_are h2)
theorem are_strs:∀ {us:List Value} {bs:List Str},StrsAre us bs→Vals (bs.map V.str) us
 | _,_,.nil=>.nil
 | _,_,.cons y t r=>.cons ⟨t,rfl⟩ (are_strs r)
theorem are_ints:∀ {us:List Value} {bs:List Int},IntsAre us bs→Vals (bs.map V.int) us:=fun h=>vals_ints h
section
variable {X:Cx} {EX:XX} {a:Expr} {p pos:Pos} {mr:G→M (List D)}
theorem call_sorted:CallR X (.builtin "sorted") (fun xs H Q=>∃ l ys,xs = [.ref l]∧SqL X.K H l ys∧ys.length < 64 ∧
 ((∃ ss,ys = ss.map V.str∧∀ q,H q = none→Q (.ref q) (upd H q (.lst ((sortS ss).map V.str))))∨(∃ ns,ys = ns.map V.int∧∀ q,H q = none→Q (.ref q) (upd H q (.lst ((sortI ns).map V.int)))))):=by
 intro pins s σ H xs us Q I r h
 obtain ⟨l,ys,rfl,hq,h64,h⟩:=h
 obtain ⟨u,rfl,ru⟩:=vals1 r
 cases ru
 obtain ⟨its,rv,pl,hz⟩:=I.list hq
 have hl:=rv.length
 have fin:∀ (out:Array Value) (zs:List V),Vals zs out.toList→zs.length = ys.length→(∀ q,H q = none→Q (.ref q) (upd H q (.lst zs)))→EP X pins σ Q (.ref (s.heap.objs.size + 1)) { s with heap:=sortedAll s.heap its out }:=fun out zs h1 h2 h3=>by
  obtain ⟨e,he⟩:=sortedAll_at s.heap its out
  refine ⟨.ref (s.heap.objs.size + 1),_,I.laid (t':=s.toks) (o:=.lst zs) (fun b o q=>sortedAll_old q) (Nat.le_succ _) ⟨by omega,out.toList,e,h1,?_⟩,rfl,h3 _ (I.hok.fresh (Nat.le_succ _))⟩
  rw [he]
 rcases h with ⟨ss,rfl,h⟩ | ⟨ns,rfl,h⟩
 ·refine sorted_strs pl.isList (strs_are rv) (by omega) fun out ss' h1 h2 h3=>?_
  have e:=sortS_eq h2 h3
  subst e
  exact fin out _ (are_strs h1) (by rw [List.length_map,List.length_map,h2.length_eq]) h
 ·have hi:IntsAre its ns:=L2.intsAre_of rv
  refine sorted_ints pl.isList hi (by omega) fun out ns' h1 h2 h3=>?_
  have e:=sortI_eq h2 h3
  subst e
  exact fin out _ (are_ints h1) (by rw [List.length_map,List.length_map,h2.length_eq]) h
theorem rds_strs {K:PySem.W.Frag} {ρ:List Addr} {H:Hp}:∀ (l:List Str),RDs K ρ H (l.map .str) (l.map V.str)
 | []=>RDs.nil
 | x :: r=>RDs.cons (by simp [RD]) (rds_strs r)
theorem rds_ints {K:PySem.W.Frag} {ρ:List Addr} {H:Hp}:∀ (l:List Int),RDs K ρ H (l.map .int) (l.map V.int)
 | []=>RDs.nil
 | x :: r=>RDs.cons (by simp [RD]) (rds_ints r)
theorem ar_sorted:AR X.K EX (fun xs H Q=>∃ l ys,xs = [.ref l]∧SqL X.K H l ys∧ys.length < 64 ∧
 ((∃ ss,ys = ss.map V.str∧∀ q,H q = none→Q (.ref q) (upd H q (.lst ((sortS ss).map V.str))))∨(∃ ns,ys = ns.map V.int∧∀ q,H q = none→Q (.ref q) (upd H q (.lst ((sortI ns).map V.int)))))) fSorted:=by
 intro ρ h H ds vs Q r rd fin
 unfold fSorted at fin
 split at fin
 ·rename_i n
  obtain ⟨v,rfl,rv⟩:=rds1 rd
  have f1:=Fin.bind fin
  cases e:getL n h with
  | bad=>rw [e] at f1; exact f1.elim
  | err z hz=>exact (getL_no e).elim
  | ok xs h1 =>
   obtain ⟨rfl,q1⟩:=getL_ok e
   rw [e] at f1
   have f2:=f1 ρ H (Pre.refl _) (Ext.refl _ _) r
   dsimp only at f2
   simp only [RD] at rv; obtain ⟨q,rfl,h2⟩:=rv
   obtain ⟨a1,n1,ws,o1,d1⟩:=r.at q1
   rw [h2] at n1; cases n1
   by_cases hl:xs.length < 64
   ·rw [if_pos hl] at f2
    refine ⟨q,ws,rfl,SqL.of o1,by rw [← d1.length]; exact hl,?_⟩
    cases eb:strsD xs with
    | some ss =>
     rw [eb] at f2
     have f3:FE X.K EX ρ H Q (newL ((sortS ss).map .str) h1):=f2
     unfold newL at f3
     split at f3
     ·exact .inl ⟨ss,strs_rel eb d1,fun p hp=>FE.lst f3 r (rds_strs _) hp⟩
     ·exact f3.elim
    | none =>
     rw [eb] at f2
     cases en:numsD xs with
     | some ns =>
      rw [en] at f2
      have f3:FE X.K EX ρ H Q (newL ((sortI ns).map .int) h1):=f2
      unfold newL at f3
      split at f3
      ·exact .inr ⟨ns,nums_rel en d1,fun p hp=>FE.lst f3 r (rds_ints _) hp⟩
      ·exact f3.elim
     | none=>rw [en] at f2; exact (show False from f2).elim
   ·rw [if_neg hl] at f2; exact (show False from f2).elim
 ·exact fin.elim
theorem se_sorted (hc:X.calm = true) (hg:Gl X "sorted") (hm:X.mg "sorted" = none) (ha:SA X EX [a] mr) (he:starEach [a] X.env = [(false,eval a X.env)]:=by rfl):SE X EX (.Call (.Name "sorted" p) [a] [] pos) (eCall fSorted mr) :=
 se_args (pe_callB call_sorted hg hm boot_sorted ha.h (by decide) (by decide) he rfl) ar_sorted
end
end FT
set_option maxHeartbeats 2000000
namespace FT
open PySem PySem.Spec PyProof.Rows L2
@[simp] theorem bindM {α β:Type} (m:M α) (f:α→M β) (h:AH):(m >>= f) h = match m h with
 | .ok a h1=>f a h1
 | .err x h1=>.err x h1
 | .bad=>.bad:=rfl
@[simp] theorem pureM {α:Type} (a:α) (h:AH):(Pure.pure a:M α) h = .ok a h:=rfl
theorem Rise.lt {xs:Array Nat} (h:Rise xs) {i j a b:Nat} (ha:xs[i]? = some a) (hb:xs[j]? = some b) (hij:i < j):a < b:=by
 obtain ⟨h1,e1⟩:=Array.getElem?_eq_some_iff.mp ha
 obtain ⟨h2,e2⟩:=Array.getElem?_eq_some_iff.mp hb
 have:=List.pairwise_iff_getElem.mp h i j (by simpa using h1) (by simpa using h2) hij
 simp only [Array.getElem_toList] at this
 rw [e1,e2] at this
 exact this
theorem below_go {xs:Array Nat} (h:Rise xs) (j:Nat):∀ (fuel lo hi:Nat),hi - lo ≤ fuel→lo ≤ hi→hi ≤ xs.size→(∀ (i:Nat) a,i < lo→xs[i]? = some a→a < j)→(∀ (i:Nat) a,hi ≤ i→xs[i]? = some a→j ≤ a) →
 (SetTable.below.go xs j fuel lo hi) ≤ xs.size∧(∀ (i:Nat) a,i < SetTable.below.go xs j fuel lo hi→xs[i]? = some a→a < j)∧∀ (i:Nat) a,SetTable.below.go xs j fuel lo hi ≤ i→xs[i]? = some a→j ≤ a
 | 0,lo,hi,hf,hl,hs,h1,h2=>by
  have:hi = lo:=by omega
  subst this
  exact ⟨by simp only [SetTable.below.go]; omega,by simpa only [SetTable.below.go] using h1,by simpa only [SetTable.below.go] using h2⟩
 | fuel + 1,lo,hi,hf,hl,hs,h1,h2=>by
  rw [SetTable.below.go]
  split
  ·rename_i hlt
   have hm:(lo + hi) / 2 < xs.size:=by omega
   have e:xs[(lo + hi) / 2]? = some xs[(lo + hi) / 2]:=Array.getElem?_eq_getElem hm
   have ed:xs.getD ((lo + hi) / 2) j = xs[(lo + hi) / 2]:=by rw [Array.getD_eq_getD_getElem?,e]; rfl
   dsimp only
   rw [ed]
   split
   ·rename_i q
    refine below_go h j fuel _ hi (by omega) (by omega) hs (fun i a hi' ha=>?_) h2
    by_cases z:i = (lo + hi) / 2
    ·subst z; rw [e] at ha; cases ha; exact q
    ·exact Nat.lt_trans (h.lt ha e (by omega)) q
   ·rename_i q
    refine below_go h j fuel lo _ (by omega) (by omega) (by omega) h1 (fun i a hi' ha=>?_)
    by_cases z:i = (lo + hi) / 2
    ·subst z; rw [e] at ha; cases ha; omega
    ·have:=h.lt e ha (by omega); omega
  ·exact ⟨by omega,h1,fun i a hi' ha=>h2 i a (by omega) ha⟩
theorem below_spec {xs:Array Nat} (h:Rise xs) (j:Nat):SetTable.below xs j ≤ xs.size∧(∀ (i:Nat) a,i < SetTable.below xs j→xs[i]? = some a→a < j)∧∀ (i:Nat) a,SetTable.below xs j ≤ i→xs[i]? = some a→j ≤ a:=by
 unfold SetTable.below
 refine below_go h j xs.size 0 xs.size (by omega) (by omega) (by omega) (fun i a hi=>by omega) (fun i a hi ha=>?_)
 have:=(Array.getElem?_eq_some_iff.mp ha).1
 omega
theorem below_next {xs:Array Nat} (h:Rise xs) {i j:Nat} (e:xs[i]? = some j):SetTable.below xs (j + 1) = i + 1:=by
 obtain ⟨b1,b2,b3⟩:=below_spec h (j + 1)
 have hi:=(Array.getElem?_eq_some_iff.mp e).1
 have l1:i < SetTable.below xs (j + 1):=by
  by_cases q:i < SetTable.below xs (j + 1)
  ·exact q
  ·have:=b3 i j (by omega) e; omega
 by_cases q:SetTable.below xs (j + 1) = i + 1
 ·exact q
 ·have hlt:i + 1 < xs.size:=by omega
  have e2:xs[i + 1]? = some xs[i + 1]:=Array.getElem?_eq_getElem hlt
  have a1:=b2 (i + 1) _ (by omega) e2
  have a2:=h.lt e e2 (by omega)
  omega
theorem below_zero {xs:Array Nat} (h:Rise xs):SetTable.below xs 0 = 0:=by
 obtain ⟨b1,b2,b3⟩:=below_spec h 0
 by_cases q:SetTable.below xs 0 = 0
 ·exact q
 ·have hlt:0 < xs.size:=by omega
  have e2:xs[0]? = some xs[0]:=Array.getElem?_eq_getElem hlt
  have:=b2 0 _ (by omega) e2
  omega
theorem put_rise {t:SetTable} {j:Nat} (h:Rise t.place) (hj:t.place[SetTable.below t.place j]? ≠ some j):Rise (t.put j).1.place:=by
 obtain ⟨b1,b2,b3⟩:=below_spec h j
 show (SetTable.insertAt t.place (SetTable.below t.place j) j).toList.Pairwise _
 rw [SetTable.toList_insertAt]
 have tk:∀ a ∈ t.place.toList.take (SetTable.below t.place j),a < j:=fun a ha=>by
  obtain ⟨i,hi,e⟩:=List.getElem_of_mem ha
  rw [List.getElem_take] at e
  have hi2:i < SetTable.below t.place j:=by
   rw [List.length_take] at hi; omega
  have hi3:i < t.place.size:=by omega
  exact b2 i a hi2 (by rw [Array.getElem?_eq_getElem hi3]; simpa using e)
 have dr:∀ a ∈ t.place.toList.drop (SetTable.below t.place j),j < a:=fun a ha=>by
  obtain ⟨i,hi,e⟩:=List.getElem_of_mem ha
  rw [List.getElem_drop] at e
  have hi3:SetTable.below t.place j + i < t.place.size:=by
   rw [List.length_drop] at hi; simp at hi; omega
  have e2:t.place[SetTable.below t.place j + i]? = some a:=by rw [Array.getElem?_eq_getElem hi3]; simpa using e
  have:=b3 _ a (by omega) e2
  by_cases q:a = j
  ·subst q
   cases i with
   | zero=>exact absurd e2 hj
   | succ i =>
    have hlt:SetTable.below t.place a < t.place.size:=by omega
    have e3:t.place[SetTable.below t.place a]? = some t.place[SetTable.below t.place a]:=Array.getElem?_eq_getElem hlt
    have a1:=b3 _ _ (Nat.le_refl _) e3
    have a2:=h.lt e3 e2 (by omega)
    omega
  ·omega
 have p1:=List.Pairwise.take (i:=SetTable.below t.place j) h
 have p2:=List.Pairwise.drop (i:=SetTable.below t.place j) h
 simp only [List.pairwise_append,List.pairwise_cons]
 first
  | (refine ⟨p1,⟨dr,p2⟩,fun a ha b hb=>?_⟩
     rcases List.mem_cons.mp hb with rfl | hb
     ·exact tk a ha
     ·exact Nat.lt_trans (tk a ha) (dr b hb))
  | skip
theorem slot_not {t:SetTable} {j:Nat} (h:∀ i,t.slot j ≠ .live i):t.place[SetTable.below t.place j]? ≠ some j:=fun e=>by
 refine h (SetTable.below t.place j) ?_
 unfold SetTable.slot
 dsimp only
 rw [e,if_pos (by simp)]
theorem probe_go {t:SetTable} {ha:Nat→Int} {hx:Int}:∀ (fuel:Nat) (p:SetTable.Probe) (j:Nat) (dm:Option Nat),(∀ d,p.dummy = some d→t.slot d = .dummy)→SetTable.probe.go t ha hx fuel p = some (.empty j dm)→t.slot j = .empty∧∀ d,dm = some d→t.slot d = .dummy
 | 0,p,j,dm,hd,e=>by simp [SetTable.probe.go] at e
 | fuel + 1,p,j,dm,hd,e=>by
  rw [SetTable.probe.go] at e
  have adv:∀ q:SetTable.Probe,(t.advance q).dummy = q.dummy:=fun q=>by
   unfold SetTable.advance
   split <;> rfl
  split at e
  ·rename_i hs
   cases e
   exact ⟨hs,hd⟩
  ·rename_i hs
   refine probe_go fuel _ j dm (fun d z=>?_) e
   rw [adv] at z
   cases z
   exact hs
  ·split at e
   ·cases e
   ·refine probe_go fuel _ j dm (fun d z=>?_) e
    rw [adv] at z
    exact hd d z
theorem free_not {t:SetTable} {hx:Int} {j:Nat} {b:Bool} (e:t.freeSlot hx = some (j,b)):t.place[SetTable.below t.place j]? ≠ some j:=by
 unfold SetTable.freeSlot SetTable.probe at e
 split at e
 ·rename_i j' dm hp
  obtain ⟨s1,s2⟩:=probe_go _ _ j' dm (fun d z=>by simp [SetTable.probeStart] at z) hp
  cases dm with
  | none=>cases e; exact slot_not (fun i z=>by rw [show t.slot (none.getD j') = _ from s1] at z; cases z)
  | some d=>cases e; exact slot_not (fun i z=>by rw [show t.slot ((some d).getD j') = _ from s2 d rfl] at z; cases z)
 ·cases e
theorem range_rise (n:Nat):Rise (Array.range n):=by
 show (Array.range n).toList.Pairwise _
 rw [Array.toList_range]
 exact List.pairwise_lt_range
theorem layNew_rise {t:SetTable} {es:Array (Int × Value)} {hx:Int} {x:Value} (h:Rise t.place):Rise (layNew t es hx x).2.1.place∧(layNew t es hx x).2.1.led = t.led:=by
 unfold layNew
 split
 ·rename_i sl wd e
  dsimp only
  unfold SetTable.orStandIn
  split
  ·exact ⟨put_rise h (free_not e),rfl⟩
  ·exact ⟨range_rise _,rfl⟩
 ·exact ⟨range_rise _,rfl⟩
theorem laid_rise {mask finger moves:Nat} {led plain:Bool} {hs:Array Int} {t:SetTable} {o:Array Nat} (e:SetTable.laid mask finger moves led plain hs = some (t,o)):Rise t.place∧t.led = led:=by
 unfold SetTable.laid at e
 cases hl:SetTable.layClean mask hs with
 | none=>rw [hl] at e; cases e
 | some ow =>
  rw [hl] at e
  cases e
  refine ⟨?_,rfl⟩
  unfold Rise
  dsimp only
  rw [List.pairwise_map,List.pairwise_filterMap]
  refine List.pairwise_lt_range.imp fun {a b} hab c hc d hd=>?_
  cases h1:ow.getD a none with
  | none=>rw [h1] at hc; cases hc
  | some u =>
   cases h2:ow.getD b none with
   | none=>rw [h2] at hd; cases hd
   | some v =>
    rw [h1] at hc; rw [h2] at hd
    cases hc; cases hd
    exact hab
theorem relay_rise {t:SetTable} {es:Array (Int × Value)} {n:Nat}:Rise (relayAll t es n).2.1.place∧(relayAll t es n).2.1.led = t.led:=by
 unfold relayAll
 split
 ·rename_i t' o e
  obtain ⟨r1,r2⟩:=laid_rise e
  dsimp only
  split
  ·exact ⟨r1,r2⟩
  ·exact ⟨range_rise _,rfl⟩
 ·exact ⟨range_rise _,rfl⟩
section
variable {P:Program} {w:World}
theorem paired_perm {α β:Type} {R:α→β→Prop} {l' l:List β} (p:l'.Perm l):∀ {ks:List α},Paired R ks l→∃ ks',ks'.Perm ks∧Paired R ks' l':=by
 induction p with
 | nil=>intro ks h; exact ⟨ks,.refl _,h⟩
 | cons x _ ih =>
  intro ks h
  cases h with
  | cons a b =>
   obtain ⟨ks',q1,q2⟩:=ih b
   exact ⟨_ :: ks',.cons _ q1,.cons a q2⟩
 | swap x y l =>
  intro ks h
  cases h with
  | cons a b =>
   cases b with
   | cons c d=>exact ⟨_ :: _ :: _,.swap _ _ _,.cons c (.cons a d)⟩
 | trans _ _ ih1 ih2 =>
  intro ks h
  obtain ⟨k1,a1,a2⟩:=ih2 h
  obtain ⟨k2,b1,b2⟩:=ih1 a2
  exact ⟨k2,b1.trans a1,b2⟩
theorem paired_snoc {α β:Type} {R:α→β→Prop}:∀ {ks:List α} {l:List β} {k:α} {x:β},Paired R ks l→R k x→Paired R (ks++[k]) (l++[x])
 | _,_,_,_,.nil,h=>.cons h .nil
 | _,_,_,_,.cons a b,h=>.cons a (paired_snoc b h)
theorem paired_mem {α β:Type} {R:α→β→Prop}:∀ {ks:List α} {l:List β} {x:β},Paired R ks l→x ∈ l→∃ k ∈ ks,R k x
 | _,_,_,.cons a b,h=>by
  rcases List.mem_cons.mp h with rfl | h
  ·exact ⟨_,List.mem_cons_self,a⟩
  ·obtain ⟨k,h1,h2⟩:=paired_mem b h; exact ⟨k,List.mem_cons_of_mem _ h1,h2⟩
theorem paired_memL {α β:Type} {R:α→β→Prop}:∀ {ks:List α} {l:List β} {k:α},Paired R ks l→k ∈ ks→∃ x ∈ l,R k x
 | _,_,_,.cons a b,h=>by
  rcases List.mem_cons.mp h with rfl | h
  ·exact ⟨_,List.mem_cons_self,a⟩
  ·obtain ⟨k,h1,h2⟩:=paired_memL b h; exact ⟨k,List.mem_cons_of_mem _ h1,h2⟩
theorem key_scan {k:Key} {v:Value} (h:keyIs k v = true):v.scannable = true:=by
 rcases keyIs_shape h with ⟨i,t,rfl,rfl⟩ | ⟨x,t,rfl,rfl⟩ <;> rfl
theorem elems_of {ks:List Key} {l:List (Int × Value)} (h:Paired (KE w) ks l):ElemsOf (mixKind P w) l:=fun e he=>by
 obtain ⟨k,_,h1,h2⟩:=paired_mem h he
 exact ⟨⟨k,h1,h2⟩,key_scan h1⟩
theorem key_inj {k k':Key} {v:Value} (h:keyIs k v = true) (h':keyIs k' v = true):k = k':=by
 rcases keyIs_shape h with ⟨i,t,rfl,rfl⟩ | ⟨x,t,rfl,rfl⟩
 ·rcases keyIs_shape h' with ⟨j,u,rfl,e⟩ | ⟨y,u,rfl,e⟩
  ·cases e; rfl
  ·cases e
 ·rcases keyIs_shape h' with ⟨j,u,rfl,e⟩ | ⟨y,u,rfl,e⟩
  ·cases e
  ·cases e; rfl
theorem mem_of {ks:List Key} {l:List (Int × Value)} (h:Paired (KE w) ks l) (k:Key):k ∈ ks ↔ ∃ e ∈ l,keyIs k e.2 = true:=by
 constructor
 ·intro hk
  obtain ⟨e,h1,h2,_⟩:=paired_memL h hk
  exact ⟨e,h1,h2⟩
 ·rintro ⟨e,h1,h2⟩
  obtain ⟨k',h3,h4,_⟩:=paired_mem h h1
  exact key_inj h2 h4 ▸ h3
theorem SetAt.setOf {h:Heap} {a:Addr} {ks:List Key} (x:SetAt w h a ks):h.SetOf (mixKind P w) a (fun k=>decide (k ∈ ks)) ks.length:=by
 obtain ⟨o,es,ep,t,ks',h1,h2,h3,h4,h5,h6,h7,h8,h9,_⟩:=x
 refine ⟨o,es,ep,t,h1,h2,h3,elems_of h4,fun k=>?_,h7,h8,?_⟩
 ·rw [decide_eq_true_eq,← h5.mem_iff]
  exact mem_of h4 k
 ·rw [← h5.length_eq,Paired.length h4,Array.length_toList]
theorem SetAt.stay {h h':Heap} {a:Addr} {ks:List Key} (x:SetAt w h a ks) (k:∀ o,h.get? a = some o→h'.get? a = some o):SetAt w h' a ks:=by
 obtain ⟨o,es,ep,t,ks',h1,h2⟩:=x
 exact ⟨o,es,ep,t,ks',k o h1,h2⟩
theorem setAt_new {h:Heap} {led:Bool} (hl:led = true∨w.params.followText "set-order" = true):SetAt w (h.push { cls:=.type "set",dict:=none,data:=.set #[] 0 (.fresh 0 0 led) }) h.objs.size [] :=
 ⟨_,#[],0,_,[],Heap.get?_push_size _ rfl,⟨rfl,rfl,rfl⟩,rfl,.nil,.refl _,List.nodup_nil,by decide,by rfl,by show ([]:List Nat).Pairwise _; exact .nil,hl⟩
variable {A:Around} {E:Value→Shared→Prop} {s:Shared} {a:Addr}
theorem store_at {ks:List Key} {o:Obj} {es es':Array (Int × Value)} {ep:Nat} {t t':SetTable} {ks':List Key} {h:Heap} (ho:h.get? a = some o) (hex:o.ExactSet) (hd:o.data = .set es ep t) (h4:Paired (KE w) ks' es'.toList) (h5:ks'.Perm ks) (h6:ks.Nodup)
 (hb:es'.size < scanBound) (hf:t'.fits es'.size = true) (hr:Rise t'.place) (hl:t'.led = true∨w.params.followText "set-order" = true) :
 SetAt w (h.update a (Obj.putSet es' t')) a ks∧∃ o',(h.update a (Obj.putSet es' t')).get? a = some o'∧o'.ExactSet∧o'.data = .set es' (ep + 1) t':=by
 have g:(h.update a (Obj.putSet es' t')).get? a = some { o with data:=.set es' (ep + 1) t' }:=by
  have:=Heap.get?_update_self (Obj.putSet es' t') ho (by rw [putSet_of es' t' hd]; rfl)
  rw [putSet_of es' t' hd] at this; exact this
 exact ⟨⟨_,es',ep + 1,t',ks',g,hex,rfl,h4,h5,h6,hb,hf,hr,hl⟩,_,g,hex,rfl⟩
theorem tail_at {ks ks1:List Key} {o:Obj} {es es1:Array (Int × Value)} {ep:Nat} {t t2:SetTable} {wd:Bool} {gw:Bool→Sem Unit} {R:Option Bool→Shared→Prop} (hG:∀ (g:Bool) (s1:Shared) (Z:Unit→Shared→Prop),Z () s1→wpAny (model P w) A (gw g) Z E s1)
 (ho:s.heap.get? a = some o) (hex:o.ExactSet) (hd:o.data = .set es ep t) (h4:Paired (KE w) ks1 es1.toList) (h5:ks1.Perm ks) (h6:ks.Nodup) (hb:es1.size < scanBound) (hf:t2.fits es1.size = true) (hr:Rise t2.place) (hl:t2.led = true∨w.params.followText "set-order" = true)
 (h:∀ h',Heap.SameBut a s.heap h'→SetAt w h' a ks→R (some true) { s with heap:=h' }) :
 wpAny (model P w) A (storeSet a es1 t2 >>= fun _=>if (!wd && t2.tooFull) = true then (gw (relayAll t2 es1 (SetTable.grown es1.size)).2.2 >>= fun _=>storeSet a (relayAll t2 es1 (SetTable.grown es1.size)).1 (relayAll t2 es1 (SetTable.grown es1.size)).2.1 >>= fun _=>pure (some true)) else pure (some true)) R E s:=by
 obtain ⟨S1,o1,g1,x1,d1⟩:=store_at (h:=s.heap) (t':=t2) ho hex hd h4 h5 h6 hb hf hr hl
 have sb:=Heap.SameBut.update s.heap a (Obj.putSet es1 t2)
 refine wpAny_bind (wpAny_storeSet_of ho hd ?_ (fits_of_scanBound hb))
 split
 ·have rp:=relayAll_perm t2 es1 (SetTable.grown es1.size)
  have rf:=relayAll_fits t2 es1 (SetTable.grown es1.size)
  have rr:=relay_rise (t:=t2) (es:=es1) (n:=SetTable.grown es1.size)
  obtain ⟨ks2,p1,p2⟩:=paired_perm rp h4
  have sz:(relayAll t2 es1 (SetTable.grown es1.size)).1.size = es1.size:=by rw [← Array.length_toList,rp.length_eq,Array.length_toList]
  have b2:(relayAll t2 es1 (SetTable.grown es1.size)).1.size < scanBound:=by rw [sz]; exact hb
  refine wpAny_bind (hG _ _ _ (wpAny_bind (wpAny_storeSet_of g1 d1 (wpAny_pure ?_) (fits_of_scanBound b2))))
  obtain ⟨S2,_⟩:=store_at (h:=s.heap.update a (Obj.putSet es1 t2)) (t':=(relayAll t2 es1 (SetTable.grown es1.size)).2.1) g1 x1 d1 p2 (p1.trans h5) h6 b2 rf rr.1 (by rw [rr.2]; exact hl)
  exact h _ (sb.trans (Heap.SameBut.update _ a _)) S2
 ·exact wpAny_pure (h _ sb S1)
theorem add_at {ks:List Key} {k:Key} {x:Value} {Q:Bool→Shared→Prop} (hk:keyIs k x = true) (hS:SetAt w s.heap a ks) (hroom:ks.length + 1 < scanBound)
 (h:∀ h' b,Heap.SameBut a s.heap h'→SetAt w h' a (if k ∈ ks then ks else ks++[k])→Q b { s with heap:=h' }) :
 wpAny (model P w) A (setAddHashed a x (keyH w k)) Q E s:=by
 obtain ⟨o,es,ep,t,ks',ho,hex,hd,h4,h5,h6,h7,h8,h9,h0⟩:=hS
 have el:=elems_of (P:=P) h4
 have sc:=key_scan hk
 have hn:es.size = ks.length:=by rw [← h5.length_eq,Paired.length h4,Array.length_toList]
 unfold setAddHashed setAddHashedIn
 refine wpAny_holding (wpAny_bind (wpAny_setState_of ho hd h8 ?_))
 dsimp only
 rw [byScan_of sc h7 el,if_pos rfl]
 unfold setAddByScan
 refine wpAny_bind (wpAny_bind (wpAny_rule (wpAny_bind (wpAny_setScan_of (knd:=mixKind P w) (k:=k) hk ho hd h8 el ?_))))
 cases hr:List.findIdx? (fun e=>(mixKind P w).is k e.2) es.toList with
 | some j =>
  dsimp only
  obtain ⟨hj,hp,_⟩:=List.findIdx?_eq_some_iff_getElem.mp hr
  have hm:k ∈ ks:=h5.mem_iff.mp ((mem_of h4 k).mpr ⟨_,List.getElem_mem hj,hp⟩)
  have:=h s.heap false (Heap.SameBut.refl a s.heap) (by rw [if_pos hm]; exact ⟨o,es,ep,t,ks',ho,hex,hd,h4,h5,h6,h7,h8,h9,h0⟩)
  exact wpAny_pure (wpAny_pure this)
 | none =>
  dsimp only
  have hm:k ∉ ks:=fun z=>by
   obtain ⟨e,he,hp⟩:=(mem_of h4 k).mp (h5.mem_iff.mpr z)
   have:=List.findIdx?_eq_none_iff.mp hr e he
   rw [show (mixKind P w).is k e.2 = true from hp] at this
   cases this
  rw [if_neg hm] at h
  have np:=layNew_perm t es (keyH w k) x
  have nf:=layNew_fits t es (keyH w k) x
  have nr:=layNew_rise (t:=t) (es:=es) (hx:=keyH w k) (x:=x) h9
  have hG:∀ (g:Bool) (s1:Shared) (R:Unit→Shared→Prop),R () s1→wpAny (model P w) A (match g with | true=>rule "set.scan.the-table-gave-way" | false=>pure ()) R E s1 :=
   fun g s1 R q=>by cases g <;> first | exact wpAny_pure q | exact wpAny_rule q
  generalize hL:layNew t es (keyH w k) x = L at np nf nr ⊢
  obtain ⟨es1,t1,wd,gv⟩:=L
  dsimp only at np nf nr ⊢
  rw [Array.toList_push] at np
  obtain ⟨ks1,p1,p2⟩:=paired_perm np (paired_snoc h4 (show KE w k (keyH w k,x) from ⟨hk,rfl⟩))
  have nd:(ks++[k]).Nodup:=by
   rw [List.nodup_append]
   exact ⟨h6,by simp,fun u hu v hv=>by simp at hv; subst hv; exact fun z=>hm (z ▸ hu)⟩
  have b1:es1.size < scanBound:=by
   rw [← Array.length_toList,np.length_eq,List.length_append,Array.length_toList]
   simpa [hn] using hroom
  have p3:ks1.Perm (ks++[k]):=p1.trans (h5.append_right [k])
  have l1:t1.led = true∨w.params.followText "set-order" = true:=by rw [nr.2]; exact h0
  refine wpAny_bind (hG _ _ _ ?_)
  split
  ·rw [hashByValue_scannable 8 sc]
   refine wpAny_bind (wpAny_pure ?_)
   refine tail_at (t2:=if plainKind x = true then t1 else { t1 with plain:=false }) hG ho hex hd p2 p3 nd b1 ?_ ?_ ?_ fun h' sb S=>wpAny_pure (h h' true sb S)
   ·split
    ·exact nf
    ·exact SetTable.fits_plain_off nf
   ·split
    ·exact nr.1
    ·exact nr.1
   ·split
    ·exact l1
    ·exact l1
  ·refine wpAny_bind (wpAny_pure ?_)
   simp only [if_pos]
   exact tail_at hG ho hex hd p2 p3 nd b1 nf nr.1 l1 fun h' sb S=>wpAny_pure (h h' true sb S)
end
def putK (acc:List Key) (k:Key):List Key:=if k ∈ acc then acc else acc++[k]
def dedK (ks:List Key):List Key:=ks.foldl putK []
theorem putK_len (acc:List Key) (k:Key):(putK acc k).length ≤ acc.length + 1:=by
 unfold putK
 split
 ·omega
 ·simp
theorem foldK_len:∀ (ks acc:List Key),(ks.foldl putK acc).length ≤ acc.length + ks.length
 | [],acc=>by simp
 | k :: ks,acc=>by
  have h1:=foldK_len ks (putK acc k)
  have h2:=putK_len acc k
  simp only [List.foldl_cons,List.length_cons]
  omega
theorem dedK_len (ks:List Key):(dedK ks).length ≤ ks.length:=by
 have:=foldK_len ks []
 simpa [dedK] using this
theorem dedK_snoc (ks:List Key) (k:Key):dedK (ks++[k]) = putK (dedK ks) k:=by
 unfold dedK
 rw [List.foldl_append]
 rfl
section
variable {P:Program} {w:World} {A:Around} {E:Value→Shared→Prop} {s:Shared} {a:Addr}
theorem SetAt.typeIs {ks:List Key} (x:SetAt w s.heap a ks):s.TypeIs (.ref a) "set":=(x.setOf (P:=default)).typeIs
theorem setAdd_at {ks:List Key} {k:Key} {x:Value} {Q:Bool→Shared→Prop} (hk:keyIs k x = true) (hS:SetAt w s.heap a ks) (hroom:ks.length + 1 < scanBound)
 (h:∀ h' b,Heap.SameBut a s.heap h'→SetAt w h' a (putK ks k)→Q b { s with heap:=h',toks:=s.toks + 1 }):wpAny (model P w) A (setAdd a x) Q E s:=by
 unfold setAdd
 refine wpAny_holding (wpAny_bind ((mixKind P w).pyHash (k:=k) hk ?_))
 exact add_at (s:={ s with toks:=s.toks + 1 }) hk hS hroom fun h' b sb S=>h h' b sb S
theorem call_add {ks:List Key} {k:Key} {x:Value} {Q:Value→Shared→Prop} (hk:keyIs k x = true) (hS:SetAt w s.heap a ks) (hroom:ks.length + 1 < scanBound)
 (h:∀ h',Heap.SameBut a s.heap h'→SetAt w h' a (putK ks k)→Q .none { s with heap:=h',toks:=s.toks + 1 }):wpAny (model P w) A (call (.builtin "set.add") [.ref a,x]) Q E s:=by
 refine wpAny_call_entry F.slot_set_add hS.typeIs F.entry_set_add ?_ (F.args_set_add_2 _ _)
 unfold Builtin.«set.add» Builtin.Frozenset.oneOther
 simp only [List.isEmpty_nil,bind_assoc]
 unfold Builtin.Frozenset.addrOf
 refine wpAny_bind (wpAny_pure ?_)
 try dsimp only
 refine wpAny_bind (wpAny_pure ?_)
 try dsimp only
 refine wpAny_bind (setAdd_at hk hS hroom fun h' b sb S=>?_)
 show wpAny _ _ (ret Value.none) _ _ _
 exact wpAny_pure ⟨_,rfl,h h' sb S⟩
end
section
variable {P:Program} {w:World} {A:Around} {R:Result→Shared→Prop} {I:Addr} {fp wr:List Addr} {G:Array GenState→Array GenState→Prop} {n:Nat} {PV:Nat→Value→Prop} {St:Nat→Shared→Prop}
theorem update_at (W:WalksS P w A.in1 I fp wr G n PV St) (S:Addr) (hSf:S ∉ fp) (key:Nat→Key) (hv:∀ i v,PV i v→keyIs (key i) v = true) (hb:n + 1 < scanBound) :
 ∀ (k i:Nat) (s:Shared),i + k = n→St i s→SetAt w s.heap S (dedK ((List.range i).map key)) →
  (∀ s',Moved (S :: wr) G s s'→SetAt w s'.heap S (dedK ((List.range n).map key))→R (.ok (.ret .none)) s') →
  codeAny (model P w) A (.builtin "set.update.loop" ⟨[.ref S,.ref I],[]⟩) R s:=by
 have nw:S ∉ wr:=fun h=>hSf (W.sub _ h)
 have up:∀ b ∈ wr,b ∈ S :: wr:=fun b hb=>List.mem_cons_of_mem _ hb
 intro k
 induction k with
 | zero =>
  intro i s hk st hS hR
  obtain rfl:i = n:=by omega
  refine codeAny_builtin F.entry_set_update_loop ?_
  rw [Around.under_plainId F.plain_set_update_loop _]
  show wpAny _ A.in1 (pyNext (.ref I) >>= _) _ _ s
  refine wpAny_bind (W.done s _ _ st fun s' hm=>?_)
  show wpAny _ A.in1 (ret Value.none) _ _ s'
  exact wpAny_pure (hR s' (hm.mono up) (hS.stay fun o e=>hm.heap S o nw e))
 | succ k ih =>
  intro i s hk st hS hR
  refine codeAny_builtin F.entry_set_update_loop ?_
  rw [Around.under_plainId F.plain_set_update_loop _]
  show wpAny _ A.in1 (pyNext (.ref I) >>= _) _ _ s
  refine wpAny_bind (W.item i s _ _ (by omega) st fun v s' hP st' hm=>?_)
  show wpAny _ A.in1 (holding [v] (setAdd S v) >>= _) _ _ s'
  have room:(dedK ((List.range i).map key)).length + 1 < scanBound:=by
   have:=dedK_len ((List.range i).map key)
   rw [List.length_map,List.length_range] at this
   omega
  refine wpAny_bind (wpAny_holding (setAdd_at (hv i v hP) (hS.stay fun o e=>hm.heap S o nw e) room fun h' b sb S2=>?_))
  have nx:dedK ((List.range (i + 1)).map key) = putK (dedK ((List.range i).map key)) (key i):=by
   rw [List.range_succ,List.map_append]
   exact dedK_snoc _ _
  refine wpAny_pure ⟨plainId_quiet F.plain_set_update_loop _,ih (i + 1) _ (by omega) (W.frame _ s' _ _ st' (Nat.le_succ _) fun b hb o e=>?_) (by rw [nx]; exact S2) fun s'' hm'' S3=>?_⟩
  ·rw [sb.2 b (fun z:b = S=>hSf (z ▸ hb))]; exact e
  ·refine hR s'' (Moved.trans W.gtrans ((hm.mono up).then_heap (Nat.le_succ _) fun b o hb e=>?_) hm'') S3
   rw [sb.2 b (fun z:b = S=>hb (by rw [z]; exact List.mem_cons_self))]; exact e
end
end FT
set_option maxHeartbeats 3200000
namespace FT
open PySem PySem.Spec PyProof.Rows L2
theorem tup_no_set:isSubtype (.type "tuple") (.type "set") = pure false:=by rw [isSubtype_type]; kernel_rfl
theorem tup_no_fset:isSubtype (.type "tuple") (.type "frozenset") = pure false:=by rw [isSubtype_type]; kernel_rfl
abbrev freshS (w:World):Obj:={ cls:=.type "set",dict:=none,data:=.set #[] 0 (.fresh 0 0 (!w.params.followText "set-order")) }
theorem led_ok (w:World):(!w.params.followText "set-order") = true∨w.params.followText "set-order" = true:=by
 cases w.params.followText "set-order" <;> simp
section
variable {P:Program} {w:World} {A:Around} {E:Value→Shared→Prop} {s:Shared}
theorem fresh_at {h:Heap}:SetAt w (h.push (freshS w)) h.objs.size []:=setAt_new (led_ok w)
theorem newCode (a:Value) {Q:Value→Shared→Prop} (h:Q (.ref s.heap.objs.size) { s with heap:=s.heap.push (freshS w) }) :
 codeAny (model P w) A (.call (.builtin "set.__new__") ⟨[.type "set",a],[]⟩) (wants Q E) s:=by
 refine codeAny_of_tree (show wpAny _ A.in1 (do checkBuiltinCall "set.__new__" ⟨[.type "set",a],[]⟩; again (.builtin "set.__new__" ⟨[.type "set",a],[]⟩)) _ _ s from ?_)
 refine wpAny_bind (wpAny_of_eq (F.newCall_set_1 a) (wpAny_pure ⟨plainId_quiet F.plain_set_new _,codeAny_builtin F.entry_set_new ?_⟩))
 rw [Around.under_plainId F.plain_set_new _]
 unfold Builtin.«set.__new__» Builtin.Frozenset.newClass
 have hz:=sub_set_self
 obtain ⟨hp,g,d,tk,os⟩:=s
 dsimp only
 wp_walk
 refine wpAny_askSetting (wpAny_pure ?_)
 dsimp only
 simp only [newObj]
 refine wpAny_bind (wpAny_alloc (wpAny_pure ?_))
 exact wpAny_pure h
theorem call_setT {T:String} {l:Addr} {items:Array Value} {key:Nat→Key} {Q:Value→Shared→Prop} (hT:T = "list"∨T = "tuple") (hh:A.handled = none) (hl:∃ o,s.heap.get? l = some o∧o.cls = .type T∧∃ n,o.data = .seq items n)
 (hv:∀ (i:Nat) v,items[i]? = some v→keyIs (key i) v = true) (hb:items.size + 1 < scanBound)
 (h:∀ h' tk,SetAt w h' s.heap.objs.size (dedK ((List.range items.size).map key))→(∀ b o,s.heap.get? b = some o→h'.get? b = some o)→Q (.ref s.heap.objs.size) { s with heap:=h',toks:=tk }) :
 wpAny (model P w) A (call (.type "set") [.ref l]) Q E s:=by
 obtain ⟨c,tl,hmro⟩:=F.called_set.mro
 have z1:=F.called_set.made
 have z2:=F.called_set.sub
 have z3:=F.called_set.notType
 have z4:=F.called_set.canCreate
 have z5:=F.typeCall_set_1 (.ref l)
 obtain ⟨ol,hol,hcl,nl,hdl⟩:=hl
 obtain ⟨ocls,odict,odata,oslots⟩:=ol
 simp only at hcl hdl
 subst hcl; subst hdl
 refine wpAny_call (codeAny_of_tree (show wpAny _ _ (callAny (.type "set") _) _ _ _ from ?_))
 refine wpAny_pure ⟨Code.quiet_builtin _ (by decide +kernel),codeAny_builtin F.entry_type_call ?_⟩
 rw [Around.under_plain (weight_type_call_type "set" [.ref l] []) rfl]
 repeat (any_goals (first | assumption | wp_step))
 refine codeAny_mono (newCode (.ref l) (E:=E) (Q:=fun obj s1=>obj = .ref s.heap.objs.size∧s1 = { s with heap:=s.heap.push (freshS w) }) ⟨rfl,rfl⟩) fun r s1 hr=>?_
 cases r with
 | error e=>exact hr
 | ok fl =>
  cases fl with
  | next=>exact hr.elim
  | brk=>exact hr.elim
  | cont=>exact hr.elim
  | ret obj =>
   obtain ⟨rfl,rfl⟩:=hr
   have gS:(s.heap.push (freshS w)).get? s.heap.objs.size = some (freshS w):=Heap.get?_push_size _ rfl
   have tS:Shared.TypeIs { s with heap:=s.heap.push (freshS w) } (.ref s.heap.objs.size) "set":=⟨_,gS,rfl⟩
   have y1:=F.called_set.init.lookup
   have y2:=F.called_set.init.bind (.ref s.heap.objs.size)
   repeat (any_goals (first | assumption | wp_step))
   refine codeAny_mono (codeAny_call_builtin (R:=wants (fun r s2=>r = .none∧∃ h' tk,s2 = { s with heap:=h',toks:=tk }∧SetAt w h' s.heap.objs.size (dedK ((List.range items.size).map key))∧∀ b o,s.heap.get? b = some o→h'.get? b = some o) E) F.called_set.init.plain F.entry_set_init (check_set_init_1 tS ?_)) fun r2 s2 hr2=>?_
   ·have gl:(s.heap.push (freshS w)).get? l = some { cls:=.type T,dict:=odict,data:=.seq items nl,slots:=oslots }:=Heap.get?_push_of_some _ hol
    have hll:l < s.heap.objs.size:=Heap.lt_size hol
    have h3:A.in1.in1.in1.handled = none:=by simp [hh]
    have neI:l ≠ (s.heap.push (freshS w)).objs.size:=by rw [Heap.size_push]; exact Nat.ne_of_lt (Nat.lt_succ_of_lt hll)
    have nf:s.heap.objs.size ∉ [(s.heap.push (freshS w)).objs.size,l]:=by
     rw [Heap.size_push]
     simp only [List.mem_cons,List.mem_singleton,List.not_mem_nil,or_false,not_or]
     exact ⟨Nat.ne_of_lt (Nat.lt_succ_self _),Nat.ne_of_gt hll⟩
    have start:∀ ob:Obj,SetAt w ((s.heap.push (freshS w)).push ob) s.heap.objs.size (dedK ((List.range 0).map key)):=fun ob=>fresh_at.stay fun o e=>Heap.get?_push_of_some _ e
    have fin:∀ (ob:Obj) s',Moved [s.heap.objs.size,(s.heap.push (freshS w)).objs.size] (fun g g'=>g' = g) { s with heap:=(s.heap.push (freshS w)).push ob } s'→SetAt w s'.heap s.heap.objs.size (dedK ((List.range items.size).map key)) →
     ∃ h' tk,s' = { s with heap:=h',toks:=tk }∧SetAt w h' s.heap.objs.size (dedK ((List.range items.size).map key))∧∀ b o,s.heap.get? b = some o→h'.get? b = some o:=fun ob s' hm S2=>by
     obtain ⟨h',g',d',tk',os'⟩:=s'
     have e1:g' = s.gens:=hm.gens
     have e2:d' = s.drawn:=hm.drawn
     have e3:os' = s.os:=hm.os
     subst e1; subst e2; subst e3
     refine ⟨h',tk',rfl,S2,fun b o e=>hm.heap b o ?_ (Heap.get?_push_of_some _ (Heap.get?_push_of_some _ e))⟩
     have:=Heap.lt_size e
     rw [Heap.size_push]
     simp only [List.mem_cons,List.mem_singleton,List.not_mem_nil,or_false,not_or]
     exact ⟨Nat.ne_of_lt this,Nat.ne_of_lt (Nat.lt_succ_of_lt this)⟩
    rcases hT with rfl | rfl
    ·have x1:=F.sub_list_set
     have x2:=F.sub_list_frozenset
     have x3:(Value.type "list" == Value.type "dict") = false:=by decide
     have il:(s.heap.push (freshS w)).IsList l items:=⟨_,gl,rfl,nl,rfl⟩
     unfold Builtin.«set.__init__» noKeywords Builtin.Frozenset.updateFrom
     generalize hPI:pyIter = PI
     wp_walk
     subst hPI
     refine wpAny_pyIter_list il (wpAny_bind (wpAny_runValue ?_))
     refine update_at ((Walks.list h3 _ l neI items).toS) s.heap.objs.size nf key (fun i v e=>hv i v e) hb items.size 0 _ (by omega) ⟨⟨_,Heap.get?_push_size _ rfl,rfl,rfl⟩,il.push _⟩ (start _) fun s' hm S2=>?_
     obtain ⟨h',tk,rfl,q1,q2⟩:=fin _ s' hm S2
     exact wpAny_pure (show wpAny _ _ (ret Value.none) _ _ _ from wpAny_pure ⟨rfl,h',tk,rfl,q1,q2⟩)
    ·have x1:=tup_no_set
     have x2:=tup_no_fset
     have x3:(Value.type "tuple" == Value.type "dict") = false:=by decide
     have il:(s.heap.push (freshS w)).IsTuple l items:=⟨_,gl,rfl,nl,rfl⟩
     unfold Builtin.«set.__init__» noKeywords Builtin.Frozenset.updateFrom
     generalize hPI:pyIter = PI
     wp_walk
     subst hPI
     refine wpAny_pyIter_tuple il (wpAny_bind (wpAny_runValue ?_))
     refine update_at ((Walks.tuple h3 _ l neI items).toS) s.heap.objs.size nf key (fun i v e=>hv i v e) hb items.size 0 _ (by omega) ⟨⟨_,Heap.get?_push_size _ rfl,rfl,rfl⟩,⟨_,Heap.get?_push_of_some _ gl,rfl,nl,rfl⟩⟩ (start _) fun s' hm S2=>?_
     obtain ⟨h',tk,rfl,q1,q2⟩:=fin _ s' hm S2
     exact wpAny_pure (show wpAny _ _ (ret Value.none) _ _ _ from wpAny_pure ⟨rfl,h',tk,rfl,q1,q2⟩)
   ·cases r2 with
    | error e=>exact hr2
    | ok f2 =>
     cases f2 with
     | next=>exact hr2.elim
     | brk=>exact hr2.elim
     | cont=>exact hr2.elim
     | ret r =>
      obtain ⟨rfl,h',tk,rfl,q1,q2⟩:=hr2
      repeat (any_goals (first | assumption | wp_step))
      exact h _ _ q1 q2
end
end FT
set_option maxHeartbeats 1600000
namespace FT
open PySem PySem.Spec PyProof.Rows L2
theorem erase_perm {α:Type}:∀ (l:List α) (i:Nat) (h:i < l.length),(l[i] :: l.eraseIdx i).Perm l
 | [],i,h=>by simp at h
 | a :: l,0,h=>.refl _
 | a :: l,i + 1,h=>by
  have:=erase_perm l i (by simpa using h)
  exact (List.Perm.swap a _ _).trans (List.Perm.cons a this)
theorem erase_len {α:Type} {l:List α} {i n:Nat} (h:i < l.length) (e:l.length = n + 1):(l.eraseIdx i).length = n:=by
 rw [List.length_eraseIdx,if_pos h,e]; rfl
theorem pick_go {α:Type} (f:Nat→Nat):∀ (n k:Nat) (left:List α) (out:Array α),left.length = n→(pickOrder.go f n k left out).toList.Perm (out.toList++left)
 | 0,k,left,out,h=>by
  have:left = []:=List.length_eq_zero_iff.mp h
  subst this
  simp [pickOrder.go]
 | n + 1,k,left,out,h=>by
  have hl:f k % left.length < left.length:=Nat.mod_lt _ (by omega)
  rw [pickOrder.go,List.getElem?_eq_getElem hl]
  dsimp only
  refine (pick_go f n (k + 1) _ _ (erase_len hl h)).trans ?_
  rw [Array.toList_push,List.append_assoc]
  refine List.Perm.append_left _ ?_
  exact erase_perm left _ hl
theorem pick_perm {α:Type} (f:Nat→Nat) (xs:Array α):(pickOrder f xs).toList.Perm xs.toList:=by
 unfold pickOrder
 have:=pick_go f xs.size 0 xs.toList #[] (by simp)
 simpa using this
theorem slot_si_next:Slot "set_iterator" "__next__" "set_iterator.__next__" :=
 .of (owner:="set_iterator") (n:="__next__") (by rw [typeLookup_type,builtinLookup_eq_fast]; kernel_rfl) (by decide +kernel) (by decide +kernel) (by decide +kernel) (by first | exact .inl (by decide +kernel) | exact .inr (by decide +kernel)) (by rw [isSubtype_type]; kernel_rfl)
theorem entry_si_next:entryFor table "set_iterator.__next__" = some Builtin.«set_iterator.__next__»:=entryFor_of_tree (by kernel_rfl)
theorem owner_si:Manifest.owners.lookup (String.ofList ['r','o','t','a','r','e','t','i','_','t','e','s'].reverse) = some Manifest.sig_set_iterator:=by kernel_rfl
theorem args_si_next (a:Value):argsOk "set_iterator.__next__" ⟨[a],[]⟩:=by
 unfold argsOk; rw [signature?_of (id:="set_iterator.__next__") (n:=['_','_','t','x','e','n','_','_']) (o:=['r','o','t','a','r','e','t','i','_','t','e','s']) (by kernel_rfl) owner_si]; kernel_rfl
theorem slot_si_iter:Slot "set_iterator" "__iter__" "set_iterator.__iter__" :=
 .of (owner:="set_iterator") (n:="__iter__") (by rw [typeLookup_type,builtinLookup_eq_fast]; kernel_rfl) (by decide +kernel) (by decide +kernel) (by decide +kernel) (by first | exact .inl (by decide +kernel) | exact .inr (by decide +kernel)) (by rw [isSubtype_type]; kernel_rfl)
theorem entry_set_it:entryFor table "set.__iter__" = some Builtin.«frozenset.__iter__» :=
 entryFor_alias (id':="frozenset.__iter__") (by kernel_rfl) rfl (by decide +kernel) (by kernel_rfl)
theorem args_set_it (a:Value):argsOk "set.__iter__" ⟨[a],[]⟩:=by
 unfold argsOk; rw [signature?_of (id:="set.__iter__") (n:=['_','_','r','e','t','i','_','_']) (o:=['t','e','s']) (by kernel_rfl) F.owner_set]; kernel_rfl
section
variable {P:Program} {w:World} {A:Around} {E:Value→Shared→Prop} {s:Shared}
theorem draw_order {α:Type}:∀ (n:Nat) (xs:List α) (s:Shared) (Q:List α→Shared→Prop),xs.length = n→(∀ ys d',ys.Perm xs→Q ys { s with drawn:=d' })→wpAny (model P w) A (drawOrder n xs) Q E s
 | 0,xs,s,Q,h,hq=>by
  have:xs = []:=List.length_eq_zero_iff.mp h
  subst this
  exact wpAny_pure (hq [] s.drawn (.refl _))
 | n + 1,xs,s,Q,h,hq=>by
  cases xs with
  | nil=>simp at h
  | cons x xs =>
   rw [drawOrder.eq_3 _ _ (fun z=>by cases z)]
   refine wpAny_bind ?_
   refine fun Γ p _=>⟨by simp,?_⟩
   generalize hi:(model P w).w.draws .order (s.drawn.get .order) % (x :: xs).length = i
   have il:i < (x :: xs).length:=by rw [← hi]; exact Nat.mod_lt _ (by simp)
   show wpAny (model P w) A (match (x :: xs)[i]? with | some x_1=>(do return x_1 :: (← drawOrder n ((x :: xs).eraseIdx i))) | none=>unsupported "internal:drawOrder") Q E { s with drawn:=s.drawn.bump .order }
   rw [List.getElem?_eq_getElem il]
   dsimp only
   refine wpAny_bind (draw_order n _ _ _ (erase_len il h) fun ys d' pm=>wpAny_pure ?_)
   exact hq _ d' ((List.Perm.cons _ pm).trans (erase_perm _ i il))
end
theorem entry_si_iter:entryFor table "set_iterator.__iter__" = some Builtin.«dict_keyiterator.__iter__» :=
 entryFor_alias (id':="dict_keyiterator.__iter__") (by kernel_rfl) rfl (by decide +kernel) (by kernel_rfl)
theorem args_si_iter (a:Value):argsOk "set_iterator.__iter__" ⟨[a],[]⟩:=by
 unfold argsOk; rw [signature?_of (id:="set_iterator.__iter__") (n:=['_','_','r','e','t','i','_','_']) (o:=['r','o','t','a','r','e','t','i','_','t','e','s']) (by kernel_rfl) owner_si]; kernel_rfl
abbrev iterO (first:Value) (i:Nat) (S:Addr) (n ep:Nat):Obj:={ cls:=.type "set_iterator",data:=.fields #[first,rawInt i,.ref S,rawInt n,rawInt ep] }
section
variable (w:World) (S:Addr) (es:Array (Int × Value)) (ep:Nat) (t:SetTable)
inductive Stand (h:Heap) (i:Nat):Value→List (Int × Value)→Prop where
 | txt (b:w.params.followText "set-order" = true):Stand h i (rawInt 0) (pickOrder (w.params.setOrder S ep) es).toList
 | drw (T:Addr) (pl:List Nat) (b:w.params.followText "set-order" = false) (hT:∃ o n,h.get? T = some o∧o.data = .seq (pl.map fun (j:Nat)=>rawInt j).toArray n) (hp:pl.Perm (List.range es.size)):Stand h i (.ref T) (pl.filterMap fun j=>es[j]?)
 | slo (sl:Nat) (b:w.params.followText "set-order" = false) (c:(!t.plain && decide (es.size > 1)) = false) (l:t.led = true) (e:SetTable.below t.place sl = i):Stand h i (rawInt sl) es.toList
end
theorem fm_getElem {α:Type} {es:Array α}:∀ {pl:List Nat},(∀ j ∈ pl,j < es.size)→∀ (i:Nat),(pl.filterMap fun j=>es[j]?)[i]? = (pl[i]?).bind fun j=>es[j]?
 | [],h,i=>by simp
 | a :: pl,h,i=>by
  have hb:=h a List.mem_cons_self
  have ha:es[a]? = some es[a]:=Array.getElem?_eq_getElem hb
  rw [List.filterMap_cons,ha]
  cases i with
  | zero=>simp [ha]
  | succ i=>simpa using fm_getElem (fun j hj=>h j (List.mem_cons_of_mem _ hj)) i
theorem Stand.perm {w:World} {S:Addr} {es:Array (Int × Value)} {ep:Nat} {t:SetTable} {h:Heap} {i:Nat} {f:Value} {ord:List (Int × Value)} (x:Stand w S es ep t h i f ord):ord.Perm es.toList:=by
 cases x with
 | txt b=>exact pick_perm _ _
 | drw T pl b hT hp =>
  refine (hp.filterMap _).trans ?_
  rw [filterMap_getElem?_range]
 | slo sl b c l e=>exact .refl _
section
variable {P:Program} {w:World} {A:Around} {E:Value→Shared→Prop} {s:Shared} {S I:Addr} {es:Array (Int × Value)} {ep:Nat} {t:SetTable} {i:Nat} {f:Value} {ord:List (Int × Value)} {o:Obj}
theorem next_txt {sl:Nat} {Q:Option (Value × Nat)→Shared→Prop} (ho:s.heap.get? S = some o) (hd:o.data = .set es ep t) (hf:t.fits es.size = true) (b:w.params.followText "set-order" = true)
 (h:Q (((pickOrder (w.params.setOrder S ep) es)[i]?).map fun e=>(e.2,sl)) s):wpAny (model P w) A (setNext S sl i ep) Q E s:=by
 unfold setNext setsByText
 refine wpAny_bind (wpAny_setState_of ho hd hf (wpAny_bind (wpAny_bind (wpAny_askSetting (wpAny_pure ?_)))))
 dsimp only
 rw [show (model P w).w.params.followText "set-order" = true from b,if_pos rfl,if_neg (by simp)]
 unfold setWalk setsByText
 refine wpAny_bind (wpAny_bind (wpAny_setState_of ho hd hf (wpAny_bind (wpAny_bind (wpAny_askSetting (wpAny_pure ?_))))))
 dsimp only
 rw [show (model P w).w.params.followText "set-order" = true from b,if_pos rfl]
 refine wpAny_bind (wpAny_askSetting (wpAny_pure (wpAny_pure ?_)))
 exact h
theorem next_slo {sl:Nat} {Q:Option (Value × Nat)→Shared→Prop} (ho:s.heap.get? S = some o) (hd:o.data = .set es ep t) (hf:t.fits es.size = true) (b:w.params.followText "set-order" = false)
 (c:(!t.plain && decide (es.size > 1)) = false) (l:t.led = true) (h:Q (match es[SetTable.below t.place sl]?,t.place[SetTable.below t.place sl]? with | some (_,x),some j=>some (x,j + 1) | _,_=>none) s):wpAny (model P w) A (setNext S sl i ep) Q E s:=by
 unfold setNext setsByText
 refine wpAny_bind (wpAny_setState_of ho hd hf (wpAny_bind (wpAny_bind (wpAny_askSetting (wpAny_pure ?_)))))
 dsimp only
 rw [show (model P w).w.params.followText "set-order" = false from b,if_neg (by decide)]
 rw [if_neg (by show ¬ ((!t.plain && decide (es.size > 1)) = true); rw [c]; decide)]
 refine wpAny_bind ?_
 show wpAny _ _ (if (!t.led && !es.isEmpty) = true then _ else _) _ _ _
 rw [if_neg (by rw [l]; simp)]
 exact wpAny_pure (wpAny_pure h)
theorem si_next {e:Int × Value} {Q:Option Value→Shared→Prop} (ho:s.heap.get? S = some o) (hd:o.data = .set es ep t) (hf:t.fits es.size = true) (hr:Rise t.place) (hI:s.heap.get? I = some (iterO f i S es.size ep)) (st:Stand w S es ep t s.heap i f ord) (he:ord[i]? = some e) (hSI:S ≠ I)
 (hQ:∀ h' f',Heap.SameBut I s.heap h'→h'.get? I = some (iterO f' (i + 1) S es.size ep)→Stand w S es ep t h' (i + 1) f' ord→(∀ T,f' = .ref T→f = .ref T)→Q (some e.2) { s with heap:=h' }):wpAny (model P w) A (pyNext (.ref I)) Q E s:=by
 have hT:s.TypeIs (.ref I) "set_iterator":=⟨_,hI,rfl⟩
 unfold pyNext
 refine wpAny_bind (wpAny_attempt (wpAny_callSpecial?_slot (name:=Str.ofString "__next__") hT slot_si_next (wpAny_call_entry slot_si_next hT entry_si_next ?_ (args_si_next _))))
 show wpAny _ _ (fieldsOf (.ref I) >>= _) _ _ s
 refine wpAny_bind (wpAny_fieldsOf hI rfl ?_)
 show wpAny _ _ (setEntries S >>= _) _ _ s
 refine wpAny_bind (wpAny_setEntries_of ho hd hf ?_)
 rw [if_neg (by simp)]
 have upd:∀ (h0:Heap) (vs:Array Value) (j:Nat) (v:Value),h0.get? I = some { cls:=.type "set_iterator",data:=.fields vs }→(h0.update I (Obj.mapFields (·.setIfInBounds j v))).get? I = some { cls:=.type "set_iterator",data:=.fields (vs.setIfInBounds j v) }:=fun h0 vs j v e=>by
  have:=Heap.get?_update_self (Obj.mapFields (·.setIfInBounds j v)) e (Obj.isFreed_of_fields (Obj.data_mapFields rfl _))
  exact this
 have fin:∀ (f':Value) (j:Nat) (R:PySem.Fin→Shared→Prop) (R2:Value→Shared→Prop),(∀ h',Heap.SameBut I s.heap h'→h'.get? I = some (iterO f' (i + 1) S es.size ep)→R (.done (.ret e.2)) { s with heap:=h' }) →
  wpAny (model P w) A.in1 (setField (.ref I) 0 f' >>= fun _=>setField (.ref I) 1 (rawInt ((i:Int) + 1)) >>= fun _=>ret e.2) R R2 s:=fun f' j R R2 q=>by
  have u1:=upd s.heap _ 0 f' hI
  refine wpAny_bind (wpAny_setField hI rfl (by simp) (wpAny_bind (wpAny_setField u1 rfl (by simp) (wpAny_pure (q _ ((Heap.SameBut.update ..).trans (Heap.SameBut.update ..)) ?_)))))
  rw [upd _ _ 1 _ u1]
  simp [rawInt]
 cases st with
 | txt b =>
  show wpAny _ _ (setNext S (0:Int).toNat (i:Int).toNat (ep:Int).toNat >>= _) _ _ _
  rw [Int.toNat_natCast,Int.toNat_natCast]
  refine wpAny_bind (next_txt ho hd hf b ?_)
  rw [← Array.getElem?_toList,he]
  exact fin (rawInt 0) 0 _ _ fun h' sb q=>⟨_,rfl,wpAny_pure (hQ h' _ sb q (.txt b) fun T z=>by cases z)⟩
 | slo sl b c l e2 =>
  have hi:i < es.size:=by simpa using (List.getElem?_eq_some_iff.mp he).1
  have he2:es[i]? = some e:=by rw [← Array.getElem?_toList]; exact he
  have sz:t.place.size = es.size:=by
   unfold SetTable.fits at hf
   simp at hf
   exact hf.1
  have hp:t.place[i]? = some (t.place[i]'(by omega)):=Array.getElem?_eq_getElem (by omega)
  show wpAny _ _ (setNext S (sl:Int).toNat (i:Int).toNat (ep:Int).toNat >>= _) _ _ _
  rw [Int.toNat_natCast,Int.toNat_natCast,Int.toNat_natCast]
  refine wpAny_bind (next_slo ho hd hf b c l ?_)
  rw [e2,he2,hp]
  refine fin (rawInt ((t.place[i]'(by omega) + 1:Nat):Int)) 0 _ _ fun h' sb q=>⟨_,rfl,wpAny_pure (hQ h' _ sb q (.slo _ b c l (below_next hr hp)) fun T z=>by cases z)⟩
 | drw T pl b hT hp =>
  obtain ⟨oT,nT,gT,dT⟩:=hT
  have hb:∀ j ∈ pl,j < es.size:=fun j hj=>by simpa using hp.mem_iff.mp hj
  rw [fm_getElem hb] at he
  cases hpi:pl[i]? with
  | none=>rw [hpi] at he; cases he
  | some j =>
   rw [hpi] at he
   have hej:es[j]? = some e:=he
   have hTI:T ≠ I:=fun z=>by
    subst z
    rw [hI] at gT
    cases gT
    cases dT
   show wpAny _ _ (seqItems? (.ref T) >>= _) _ _ _
   refine wpAny_bind (wpAny_seqItems gT dT ?_)
   dsimp only
   rw [Int.toNat_natCast,show ((pl.map fun (j:Nat)=>rawInt j).toArray)[i]? = some (rawInt j) by simp [hpi]]
   show wpAny _ _ (setNextDrawn S (j:Int).toNat (ep:Int).toNat >>= _) _ _ _
   rw [Int.toNat_natCast,Int.toNat_natCast]
   unfold setNextDrawn
   refine wpAny_bind (wpAny_bind (wpAny_setState_of ho hd hf ?_))
   dsimp only
   rw [if_neg (by simp),hej]
   refine wpAny_pure ?_
   have u1:=upd s.heap _ 1 (rawInt ((i:Int) + 1)) hI
   refine wpAny_bind (wpAny_setField hI rfl (by simp) (wpAny_pure ⟨_,rfl,wpAny_pure (hQ _ (.ref T) (Heap.SameBut.update ..) ?_ (.drw T pl b ⟨oT,nT,?_,dT⟩ hp) fun _ z=>z)⟩))
   ·rw [u1]; simp [rawInt]
   ·rw [Heap.get?_update_other _ _ (Ne.symm hTI)]; exact gT
theorem si_done {Q:Option Value→Shared→Prop} (hh:A.handled = none) (ho:s.heap.get? S = some o) (hd:o.data = .set es ep t) (hf:t.fits es.size = true) (hI:s.heap.get? I = some (iterO f es.size S es.size ep)) (st:Stand w S es ep t s.heap es.size f ord)
 (hQ:∀ h',Heap.ExtBut I s.heap h'→Q none { s with heap:=h' }):wpAny (model P w) A (pyNext (.ref I)) Q E s:=by
 have hT:s.TypeIs (.ref I) "set_iterator":=⟨_,hI,rfl⟩
 have hl:ord.length = es.size:=by rw [st.perm.length_eq,Array.length_toList]
 unfold pyNext
 refine wpAny_bind (wpAny_attempt (wpAny_callSpecial?_slot (name:=Str.ofString "__next__") hT slot_si_next (wpAny_call_entry slot_si_next hT entry_si_next ?_ (args_si_next _))))
 show wpAny _ _ (fieldsOf (.ref I) >>= _) _ _ s
 refine wpAny_bind (wpAny_fieldsOf hI rfl ?_)
 show wpAny _ _ (setEntries S >>= _) _ _ s
 refine wpAny_bind (wpAny_setEntries_of ho hd hf ?_)
 rw [if_neg (by simp)]
 have stop:∀ (h1:Heap) (Z:PySem.Fin→Shared→Prop),Heap.ExtBut I s.heap h1→wpAny (model P w) A.in1 (newExc (.type "StopIteration") [] >>= fun x=>(raiseNew x:Sem PySem.Fin)) Z (fun e s'=>wpAny (model P w) A (do let __do_lift ← isInstance e (Value.type "StopIteration"); if __do_lift = true then pure none else throw e) Q E s') { s with heap:=h1 }:=fun h1 Z eb=>by
  refine wpAny_bind ?_
  simp only [newExc,newTuple]
  refine wpAny_bind (wpAny_newObj_type ?_ (by size_fits))
  refine wpAny_bind (m:=firstArgMember _ _) (wpAny_of_eq (a:=Value.none) (by first | rfl | (simp only [firstArgMember]; rfl)) ?_)
  refine wpAny_newObj_type ?_ (by size_fits)
  simp only [raiseNew]
  refine wpAny_bind (wpAny_handled ?_)
  rw [show A.in1.handled = none by simp [hh]]
  refine wpAny_bind (wpAny_pure (wpAny_throw ?_))
  refine wpAny_bind (wpAny_isInstance (T:="StopIteration") (b:=true) ⟨_,Heap.get?_push_size _ rfl,rfl⟩ isSubtype_stop ?_)
  exact wpAny_pure (hQ _ ((eb.push _).push _))
 cases st with
 | txt b =>
  show wpAny _ _ (setNext S (0:Int).toNat (es.size:Int).toNat (ep:Int).toNat >>= _) _ _ _
  rw [Int.toNat_natCast,Int.toNat_natCast]
  refine wpAny_bind (next_txt ho hd hf b ?_)
  rw [← Array.getElem?_toList,List.getElem?_eq_none (by omega)]
  exact wpAny_bind (wpAny_setField hI rfl (by simp) (stop _ _ (Heap.SameBut.update ..).extBut))
 | slo sl b c l e2 =>
  show wpAny _ _ (setNext S (sl:Int).toNat (es.size:Int).toNat (ep:Int).toNat >>= _) _ _ _
  rw [Int.toNat_natCast,Int.toNat_natCast,Int.toNat_natCast]
  refine wpAny_bind (next_slo ho hd hf b c l ?_)
  rw [e2,Array.getElem?_eq_none (Nat.le_refl _)]
  exact wpAny_bind (wpAny_setField hI rfl (by simp) (stop _ _ (Heap.SameBut.update ..).extBut))
 | drw T pl b hT hp =>
  obtain ⟨oT,nT,gT,dT⟩:=hT
  have lp:pl.length = es.size:=by rw [hp.length_eq,List.length_range]
  show wpAny _ _ (seqItems? (.ref T) >>= _) _ _ _
  refine wpAny_bind (wpAny_seqItems gT dT ?_)
  dsimp only
  rw [Int.toNat_natCast,show ((pl.map fun (j:Nat)=>rawInt j).toArray)[es.size]? = none by simp [lp]]
  have u1:(s.heap.update I (Obj.mapFields (·.setIfInBounds 0 (rawInt 0)))).get? I = some { cls:=.type "set_iterator",data:=.fields (#[.ref T,rawInt es.size,.ref S,rawInt es.size,rawInt ep].setIfInBounds 0 (rawInt 0)) } :=
   Heap.get?_update_self _ hI (Obj.isFreed_of_fields (Obj.data_mapFields rfl _))
  exact wpAny_bind (wpAny_setField hI rfl (by simp) (wpAny_bind (wpAny_setField u1 rfl (by simp) (stop _ _ ((Heap.SameBut.update ..).trans (Heap.SameBut.update ..)).extBut))))
end
theorem walk_set {P:Program} {w:World} {A:Around} {S I:Addr} {es:Array (Int × Value)} {ep:Nat} {t:SetTable} {ord:List (Int × Value)} {o:Obj} {tl:List Addr} (hh:A.handled = none) (hd:o.data = .set es ep t) (hf:t.fits es.size = true) (hr:Rise t.place) (hSI:S ≠ I) (hl:ord.length = es.size) (htl:I ∉ tl) :
 Walks P w A I (I :: S :: tl) [I] es.size (fun i v=>∃ e,ord[i]? = some e∧v = e.2) (fun i h=>h.get? S = some o∧∃ f,(∀ T,f = .ref T→T ∈ tl)∧h.get? I = some (iterO f i S es.size ep)∧Stand w S es ep t h i f ord) where
 sub:=fun b hb=>by simp at hb; simp [hb]
 frame:=fun i h h' st hk=>by
  obtain ⟨q1,f,q2,q3,q4⟩:=st
  refine ⟨hk S (by simp) _ q1,f,q2,hk I (by simp) _ q3,?_⟩
  cases q4 with
  | txt b=>exact .txt b
  | slo sl b c l e2=>exact .slo sl b c l e2
  | drw T pl b hT hp =>
   obtain ⟨oT,nT,gT,dT⟩:=hT
   exact .drw T pl b ⟨oT,nT,hk T (by simp [q2 T rfl]) _ gT,dT⟩ hp
 item:=fun i s Q E hi st hQ=>by
  obtain ⟨q1,f,q2,q3,q4⟩:=st
  have he:ord[i]? = some (ord[i]'(by omega)):=List.getElem?_eq_getElem (by omega)
  refine si_next q1 hd hf hr q3 q4 he hSI fun h' f' sb g st' tt=>?_
  refine hQ _ h' s.toks ⟨_,he,rfl⟩ ⟨?_,f',fun T z=>q2 T (tt T z),g,st'⟩ fun b ob hb e=>?_
  ·rw [sb.2 S hSI]; exact q1
  ·rw [sb.2 b (fun z=>hb (by simp [z]))]; exact e
 done:=fun s Q E st hQ=>by
  obtain ⟨q1,f,q2,q3,q4⟩:=st
  exact si_done hh q1 hd hf q3 q4 fun h' eb=>hQ h' s.toks fun b ob hb e=>eb b ob (fun z=>hb (by simp [z])) e
 self:=fun i s Q E st hQ=>by
  obtain ⟨q1,f,q2,q3,q4⟩:=st
  have hT:s.TypeIs (.ref I) "set_iterator":=⟨_,q3,rfl⟩
  refine wpAny_pyIter_slot hT slot_si_iter (wpAny_call_entry slot_si_iter hT entry_si_iter ?_ (args_si_iter _))
  show wpAny _ _ (ret (.ref I)) _ _ s
  exact wpAny_pure ⟨_,rfl,"set_iterator",_,hT,slot_si_next.lookup,hQ⟩
section
variable {P:Program} {w:World} {A:Around} {E:Value→Shared→Prop} {s:Shared} {S:Addr} {es:Array (Int × Value)} {ep:Nat} {t:SetTable} {o:Obj}
theorem iter_set {Q:Value→Shared→Prop} (ho:s.heap.get? S = some o) (hc:o.ExactSet) (hd:o.data = .set es ep t) (hf:t.fits es.size = true) (hr:Rise t.place) (hb:es.size < scanBound) (hl:t.led = true∨w.params.followText "set-order" = true)
 (hQ:∀ (h':Heap) (d':Drawn) (I:Addr) (f:Value) (ord:List (Int × Value)) (tl:List Addr),(∀ b ob,s.heap.get? b = some ob→h'.get? b = some ob)→s.heap.objs.size ≤ I→h'.get? I = some (iterO f 0 S es.size ep)→(∀ T,f = .ref T→T ∈ tl)→(∀ T ∈ tl,s.heap.objs.size ≤ T∧T < h'.objs.size∧T ≠ I)→Stand w S es ep t h' 0 f ord→Q (.ref I) { s with heap:=h',drawn:=d' }) :
 wpAny (model P w) A (pyIter (.ref S)) Q E s:=by
 have hT:s.TypeIs (.ref S) "set":=⟨o,ho,hc.1⟩
 refine wpAny_pyIter_slot hT F.slot_set_iter (wpAny_call_entry F.slot_set_iter hT entry_set_it ?_ (args_set_it _))
 unfold Builtin.«frozenset.__iter__» Builtin.Frozenset.slot0 slotArgs
 simp only [List.isEmpty_nil,Bool.not_true,Bool.false_eq_true,↓reduceIte,bind_assoc,List.length_nil,bne_self_eq_false]
 unfold Builtin.Frozenset.addrOf Builtin.Frozenset.sizeOf
 refine wpAny_bind (wpAny_pure ?_)
 try dsimp only
 refine wpAny_bind (wpAny_pure ?_)
 refine wpAny_bind (wpAny_bind (wpAny_setEntries_of ho hd hf (wpAny_pure ?_)))
 unfold setDrawn setsByText
 refine wpAny_bind (wpAny_bind (wpAny_setState_of ho hd hf (wpAny_bind (wpAny_bind (wpAny_askSetting (wpAny_pure (wpAny_pure ?_)))))))
 dsimp only
 have tailW:∀ (h0:Heap) (d0:Drawn) (first:Value) (ord:List (Int × Value)) (tl:List Addr),(∀ b ob,s.heap.get? b = some ob→h0.get? b = some ob)→s.heap.objs.size ≤ h0.objs.size→(∀ T,first = .ref T→T ∈ tl)→(∀ T ∈ tl,s.heap.objs.size ≤ T∧T < h0.objs.size) →
  (∀ h',(∀ b ob,h0.get? b = some ob→h'.get? b = some ob)→Stand w S es ep t h' 0 first ord) →
  wpAny (model P w) A.in1 (setEpoch S >>= fun e=>newFields "set_iterator" [first,rawInt 0,.ref S,rawInt es.size,rawInt e] >>= fun v=>ret v) (fun fin s'=>∃ v,fin = .done (.ret v)∧∃ T' r,s'.TypeIs v T'∧typeLookup (Value.type T') (Str.ofString "__next__") = pure (some r)∧Q v s') E { s with heap:=h0,drawn:=d0 }:=fun h0 d0 first ord tl k1 k2 k3 k4 k5=>by
  refine wpAny_bind (wpAny_setEpoch_of (s:={ s with heap:=h0,drawn:=d0 }) (k1 S o ho) hd hf ?_)
  refine wpAny_bind (wpAny_newObj_type (wpAny_pure ⟨_,rfl,"set_iterator",_,⟨_,Heap.get?_push_size _ rfl,rfl⟩,slot_si_next.lookup,?_⟩))
  refine hQ _ d0 h0.objs.size first ord tl (fun b ob e=>Heap.get?_push_of_some _ (k1 b ob e)) k2 (Heap.get?_push_size _ rfl) k3 (fun T hT=>?_) (k5 _ fun b ob e=>Heap.get?_push_of_some _ e)
  obtain ⟨z1,z2⟩:=k4 T hT
  exact ⟨z1,by rw [Heap.size_push]; exact Nat.lt_succ_of_lt z2,Nat.ne_of_lt z2⟩
 cases hb':w.params.followText "set-order" with
 | true =>
  rw [show (model P w).w.params.followText "set-order" = true from hb',if_neg (by simp)]
  refine wpAny_bind (wpAny_pure ?_)
  exact tailW s.heap s.drawn (rawInt 0) _ [] (fun _ _ e=>e) (Nat.le_refl _) (fun T z=>by cases z) (fun T z=>by cases z) fun h' _=>.txt hb'
 | false =>
  rw [show (model P w).w.params.followText "set-order" = false from hb']
  have led:t.led = true:=by
   rcases hl with hl | hl
   ·exact hl
   ·rw [hb'] at hl; cases hl
  show wpAny _ _ (if (!false && (!t.plain && decide (es.size > 1))) = true then _ else _) _ _ _
  rw [Bool.not_false,Bool.true_and]
  cases hdr:(!t.plain && decide (es.size > 1)) with
  | false =>
   rw [if_neg (by decide)]
   refine wpAny_bind (wpAny_pure ?_)
   exact tailW s.heap s.drawn (rawInt 0) _ [] (fun _ _ e=>e) (Nat.le_refl _) (fun T z=>by cases z) (fun T z=>by cases z) fun h' _=>.slo 0 hb' hdr led (below_zero hr)
  | true =>
   rw [if_pos rfl]
   refine wpAny_bind (draw_order es.size (List.range es.size) s _ (by simp) fun ys d' pm=>?_)
   have ly:(ys.map fun (i:Nat)=>rawInt i).length ≤ sizeLine:=by
    rw [List.length_map,pm.length_eq,List.length_range]
    exact fits_of_scanBound hb
   refine wpAny_bind (wpAny_newTuple ?_ ly)
   refine tailW (s.heap.push { cls:=.type "tuple",data:=.seq (ys.map fun (i:Nat)=>rawInt i).toArray }) d' (.ref s.heap.objs.size) _ [s.heap.objs.size] (fun b ob e=>Heap.get?_push_of_some _ e) (by rw [Heap.size_push]; exact Nat.le_succ _)
    (fun T z=>by cases z; exact List.mem_singleton.mpr rfl) (fun T z=>?_) fun h' k=>.drw s.heap.objs.size ys hb' ⟨_,_,k _ _ (Heap.get?_push_size _ rfl),rfl⟩ pm
   have:=List.mem_singleton.mp z
   subst this
   exact ⟨Nat.le_refl _,by rw [Heap.size_push]; exact Nat.lt_succ_self _⟩
theorem collect_set {Q:List Value→Shared→Prop} (hh:A.handled = none) (ho:s.heap.get? S = some o) (hc:o.ExactSet) (hd:o.data = .set es ep t) (hf:t.fits es.size = true) (hr:Rise t.place) (hb:es.size < scanBound) (hl:t.led = true∨w.params.followText "set-order" = true)
 (hQ:∀ (h':Heap) (d':Drawn) (tk:Nat) (ord:List (Int × Value)),(∀ b ob,s.heap.get? b = some ob→h'.get? b = some ob)→s.heap.objs.size ≤ h'.objs.size→ord.Perm es.toList→Q (ord.map (·.2)) { s with heap:=h',drawn:=d',toks:=tk }) :
 wpAny (model P w) A (collect (.ref S)) Q E s:=by
 have hS:S < s.heap.objs.size:=Heap.lt_size ho
 unfold collect
 refine wpAny_bind (wpAny_runValue (codeAny_builtin F.entry_proto_collect ?_))
 rw [Around.under_plainId F.plain_proto_collect _]
 show wpAny _ A.in1 (newList [] >>= fun l=>again (.builtin "list.__iadd__" ⟨[l,.ref S],[]⟩)) _ _ s
 refine wpAny_bind (wpAny_newObj_type (wpAny_pure ⟨plainId_quiet F.plain_list_iadd _,codeAny_builtin F.entry_list_iadd ?_⟩))
 rw [Around.under_plainId F.plain_list_iadd _]
 show wpAny _ A.in1 (Builtin.List.listExtendWith (.ref s.heap.objs.size) (.ref S) (.ref s.heap.objs.size)) _ _ _
 unfold Builtin.List.listExtendWith
 have g1:(s.heap.push { cls:=.type "list",data:=.seq ([]:List Value).toArray }).get? S = some o:=Heap.get?_push_of_some _ ho
 have tS:Shared.TypeIs { s with heap:=s.heap.push { cls:=.type "list",data:=.seq ([]:List Value).toArray } } (.ref S) "set":=⟨o,g1,hc.1⟩
 refine wpAny_bind (wpAny_typeOf tS ?_)
 have n1:Builtin.List.listSameRef (.ref s.heap.objs.size) (.ref S) = false:=by
  simp only [Builtin.List.listSameRef]
  exact beq_eq_false_iff_ne.mpr (Nat.ne_of_gt hS)
 rw [if_neg (by rw [n1]; decide)]
 refine wpAny_bind (iter_set (s:={ s with heap:=s.heap.push { cls:=.type "list",data:=.seq ([]:List Value).toArray } }) g1 hc hd hf hr hb hl fun h1 d1 I f ord tl k1 k2 k3 k4 k5 st=>?_)
 have g2:h1.get? S = some o:=k1 S o g1
 have gL:h1.get? s.heap.objs.size = some { cls:=.type "list",data:=.seq ([]:List Value).toArray }:=k1 _ _ (Heap.get?_push_size _ rfl)
 have tS2:Shared.TypeIs { s with heap:=h1,drawn:=d1 } (.ref S) "set":=⟨o,g2,hc.1⟩
 refine wpAny_bind (wpAny_holding ?_)
 unfold Builtin.List.listLengthHint
 refine wpAny_bind (wpAny_specialOf tS2 F.slot_set_len.lookup ?_)
 have sp:splitId "set.__len__" = some ("set","__len__"):=by decide +kernel
 dsimp only
 rw [sp]
 dsimp only
 refine wpAny_bind (wpAny_isInstance (b:=true) tS2 (by rw [isSubtype_type]; kernel_rfl) ?_)
 rw [if_neg (by decide),if_pos (by decide +kernel)]
 refine wpAny_bind (wpAny_typeOf tS2 (wpAny_pure ?_))
 rw [if_pos (by decide +kernel)]
 have u1:=get?_update_seq (c:="list") (xs:=([]:List Value).toArray) (n:=0) gL (·.push .none)
 have u2:=get?_update_seq u1 (·.pop)
 refine wpAny_bind (wpAny_rule ?_)
 unfold Builtin.List.listTouch
 refine wpAny_bind (wpAny_bind (listUpdate_at (s:={ s with heap:=h1,drawn:=d1 }) gL rfl (listUpdate_at (s:={ s with heap:=h1.update s.heap.objs.size (Obj.mapSeq (·.push .none)),drawn:=d1 }) u1 rfl ?_)))
 generalize hh2:(h1.update s.heap.objs.size (Obj.mapSeq (·.push .none))).update s.heap.objs.size (Obj.mapSeq (·.pop)) = h2 at u2 ⊢
 have keep2:∀ b ob,b ≠ s.heap.objs.size→h1.get? b = some ob→h2.get? b = some ob:=fun b ob hb e=>by
  rw [← hh2,Heap.get?_update_other _ _ (Ne.symm hb),Heap.get?_update_other _ _ (Ne.symm hb)]
  exact e
 have hIs:s.heap.objs.size + 1 ≤ I:=by rw [Heap.size_push] at k2; exact k2
 have hSI:S ≠ I:=Nat.ne_of_lt (Nat.lt_of_lt_of_le hS (Nat.le_of_succ_le hIs))
 have lo:ord.length = es.size:=by rw [st.perm.length_eq,Array.length_toList]
 have W:=walk_set (P:=P) (w:=w) (A:=A.in1) (S:=S) (I:=I) (ord:=ord) (o:=o) (tl:=tl) (by simp [hh]) hd hf hr hSI lo (fun z=>(k5 I z).2.2 rfl)
 have hLf:s.heap.objs.size ∉ I :: S :: tl:=by
  simp only [List.mem_cons,not_or]
  refine ⟨Nat.ne_of_lt hIs,Nat.ne_of_gt hS,fun z=>?_⟩
  have:=(k5 _ z).1
  rw [Heap.size_push] at this
  exact Nat.lt_irrefl _ this
 have st0:(fun i (h:Heap)=>h.get? S = some o∧∃ f,(∀ T,f = .ref T→T ∈ tl)∧h.get? I = some (iterO f i S es.size ep)∧Stand w S es ep t h i f ord) 0 h2:=by
  refine ⟨keep2 S o (Nat.ne_of_lt hS) g2,f,k4,keep2 I _ (Nat.ne_of_gt hIs) k3,?_⟩
  cases st with
  | txt b=>exact .txt b
  | slo sl b c l e2=>exact .slo sl b c l e2
  | drw T pl b hT hp =>
   obtain ⟨oT,nT,gT,dT⟩:=hT
   refine .drw T pl b ⟨oT,nT,keep2 T oT (fun z=>?_) gT,dT⟩ hp
   have:=(k5 T (k4 T rfl)).1
   rw [Heap.size_push,z] at this
   exact Nat.lt_irrefl _ this
 refine wpAny_pure ⟨plainId_quiet F.plain_extend_loop _,codeAny_extend_loopS W.toS (fits_of_scanBound hb) s.heap.objs.size hLf _ es.size 0 { s with heap:=h2,drawn:=d1 } #[] 2 (by omega) (Nat.zero_le _) st0 (by simpa [seqObj] using u2) (ItemsOf.nil _) fun s' acc c' hm gS' hacc=>?_⟩
 show wpAny _ A (load s.heap.objs.size >>= _) _ _ s'
 refine wpAny_bind (wpAny_load gS' (wpAny_pure ?_))
 have ea:acc.toList = ord.map (·.2):=by
  refine List.ext_getElem? fun j=>?_
  rw [List.getElem?_map,Array.getElem?_toList]
  cases hj:acc[j]? with
  | none =>
   have h1:=Array.getElem?_eq_none_iff.mp hj
   rw [hacc.1] at h1
   rw [List.getElem?_eq_none (by omega)]
   rfl
  | some v =>
   obtain ⟨e,h1,h2⟩:=hacc.2 j v hj
   rw [h1,h2]
   rfl
 rw [ea]
 obtain ⟨h',g',d',tk',os'⟩:=s'
 have e1:g' = s.gens:=hm.gens
 have e2:d' = d1:=hm.drawn
 have e3:os' = s.os:=hm.os
 subst e1; subst e2; subst e3
 refine hQ h' d' tk' ord (fun b ob e=>?_) ?_ st.perm
 ·have hb2:b ≠ s.heap.objs.size:=Nat.ne_of_lt (Heap.lt_size e)
  refine hm.heap b ob ?_ (keep2 b ob hb2 (k1 b ob (Heap.get?_push_of_some _ e)))
  simp only [List.mem_cons,List.mem_singleton,List.not_mem_nil,or_false,not_or]
  exact ⟨hb2,Nat.ne_of_lt (Nat.lt_of_lt_of_le (Heap.lt_size e) (Nat.le_of_succ_le hIs))⟩
 ·exact Nat.le_of_lt (Heap.lt_size gS')
end
theorem key_val {k:Key} {u:Value} (r:RelV (kV k) u):keyIs k u = true:=by
 cases k with
 | inl i=>obtain ⟨t,rfl⟩:=r; exact keyIs_int i t
 | inr x=>obtain ⟨t,rfl⟩:=r; exact keyIs_str x t
theorem keys_vals:∀ {ks:List Key} {us:List Value},Vals (ks.map kV) us→∀ (i:Nat) u,us[i]? = some u→∃ k,ks[i]? = some k∧keyIs k u = true
 | [],_,h,i,u,e=>by cases h; simp at e
 | k :: ks,_,.cons h1 h2,0,u,e=>by simp at e; subst e; exact ⟨k,rfl,key_val h1⟩
 | k :: ks,_,.cons h1 h2,i + 1,u,e=>by
  obtain ⟨k',q1,q2⟩:=keys_vals h2 i u (by simpa using e)
  exact ⟨k',by simpa using q1,q2⟩
theorem range_keys (ks:List Key):(List.range ks.length).map (fun i=>(ks[i]?).getD (.inl 0)) = ks:=by
 refine List.ext_getElem? fun i=>?_
 rw [List.getElem?_map]
 by_cases h:i < ks.length
 ·rw [List.getElem?_range h,List.getElem?_eq_getElem h]
  simp [List.getElem?_eq_getElem h]
 ·rw [List.getElem?_eq_none (by simpa using h),List.getElem?_eq_none (by omega)]
  rfl
section
variable {X:Cx}
theorem call_setR (hc:X.calm = true):CallR X (.type "set") (fun xs H Q=>∃ l ks,xs = [.ref l]∧(SqL X.K H l (ks.map kV)∨SqT X.K H l (ks.map kV))∧ks.length + 1 < scanBound∧∀ q,H q = none→Q (.ref q) (upd H q (.set (dedK ks)))):=by
 intro pins s σ H xs us Q I r h
 obtain ⟨l,ks,rfl,hq,hb,q⟩:=h
 obtain ⟨u,rfl,ru⟩:=vals1 r
 cases ru
 have hh:=I.ok.hd hc
 have go:∀ {its:List Value} {T:String},T = "list"∨T = "tuple"→Vals (ks.map kV) its→(∃ o,s.heap.get? l = some o∧o.cls = .type T∧∃ n,o.data = .seq its.toArray n)→wpAny (model X.prog X.w) X.A (call (.type "set") [.ref l]) (EP X pins σ Q) X.xe s:=fun {its T} hT rv hl=>by
  have le:its.length = ks.length:=by rw [← rv.length,List.length_map]
  refine call_setT (key:=fun i=>(ks[i]?).getD (.inl 0)) hT hh hl (fun i v e=>?_) (by rw [List.size_toArray,le]; exact hb) fun h' tk S2 kp=>?_
  ·obtain ⟨k,e1,e2⟩:=keys_vals rv i v (by simpa using e)
   rw [e1]
   exact e2
  ·rw [show its.toArray.size = ks.length by rw [List.size_toArray,le],range_keys] at S2
   exact ⟨.ref s.heap.objs.size,_,I.laid (t':=tk) (o:=.set (dedK ks)) kp (Nat.le_refl _) S2,rfl,q _ I.fresh⟩
 rcases hq with hq | hq
 ·obtain ⟨its,r',pl,hz⟩:=I.list hq
  exact go (.inl rfl) r' pl.isList
 ·obtain ⟨its,r',pl,hz⟩:=I.tuple hq
  exact go (.inr rfl) r' pl
theorem inv_set {pins:List (Addr × Obj)} {σ:L2.St} {H:Hp} {s:Shared} {a:Addr} {ks:List Key} (I:L2.Inv X pins σ H s) (h:H a = some (.set ks)):SetAt X.w s.heap a ks:=I.hok a _ h
theorem op_ninS:OpR X (compareOp .NotIn) (fun x y H Q=>∃ k a ks,x = kV k∧y = .ref a∧H a = some (.set ks)∧Q (.bl (!decide (k ∈ ks))) H):=by
 intro pins s σ H x y v u Q I rx ry h
 obtain ⟨k,a,ks,rfl,rfl,hH,q⟩:=h
 cases ry
 have hk:=key_val rx
 exact wpAny_notInSet_of (knd:=mixKind X.prog X.w) hk (key_scan hk) (inv_set I hH).setOf ⟨.bl _,H,I.tok _,rfl,q⟩
theorem mt_addS:MtR X "set.add" (fun x vs H Q=>∃ a ks k,x = .ref a∧vs = [kV k]∧H a = some (.set ks)∧ks.length + 1 < scanBound∧Q .non (upd H a (.set (putK ks k)))):=by
 intro pins s σ H x vs v us Q I rx rv h
 obtain ⟨a,ks,k,rfl,rfl,hH,hb,q⟩:=h
 cases rx
 obtain ⟨u,rfl,ru⟩:=rv.one
 refine call_add (key_val ru) (inv_set I hH) hb fun h' sb S2=>?_
 obtain ⟨o2,_,_,_,_,g2,_⟩:=id S2
 exact ⟨.non,_,I.write (x:=a) (e:=a) (o:=.set (putK ks k)) (t':=s.toks + 1) (by rw [hH]; trivial) (.inl rfl) (fun b ob hb e=>by rw [sb.2 b hb]; exact e) ⟨o2,g2⟩ S2,rfl,q⟩
theorem ints_of:∀ {ns:List Int} {l:List (Int × Value)} {w:World} {ks:List Key},ks = ns.map Sum.inl→Paired (KE w) ks l→IntsAre (l.map (·.2)) ns
 | [],l,w,ks,e,h=>by subst e; cases h; exact .nil
 | n :: ns,l,w,ks,e,h=>by
  subst e
  cases h with
  | cons h1 h2 =>
   rcases keyIs_shape h1.1 with ⟨i,t,e1,e2⟩ | ⟨x,t,e1,e2⟩
   ·cases e1
    rw [List.map_cons,e2]
    exact .cons _ t (ints_of rfl h2)
   ·cases e1
theorem perm_inl {ns:List Int}:∀ {ks:List Key},ks.Perm (ns.map Sum.inl)→∃ ms:List Int,ks = ms.map Sum.inl∧ms.Perm ns:=fun {ks} p=>by
 have:∀ k ∈ ks,∃ i:Int,k = Sum.inl i:=fun k hk=>by
  obtain ⟨i,_,e⟩:=List.mem_map.mp (p.mem_iff.mp hk)
  exact ⟨i,e.symm⟩
 have e:ks = (ks.filterMap fun k=>match k with | .inl i=>some i | .inr _=>none).map Sum.inl:=by
  clear p
  induction ks with
  | nil=>rfl
  | cons k ks ih =>
   obtain ⟨i,rfl⟩:=this k List.mem_cons_self
   rw [List.filterMap_cons]
   dsimp only
   rw [List.map_cons,← ih fun k hk=>this k (List.mem_cons_of_mem _ hk)]
 refine ⟨_,e,?_⟩
 have q:=p.filterMap fun k=>match k with | .inl i=>some i | .inr _=>none
 refine q.trans ?_
 rw [List.filterMap_map]
 have:(List.filterMap ((fun k:Key=>match k with | .inl i=>some i | .inr _=>none) ∘ Sum.inl) ns) = ns:=by
  induction ns with
  | nil=>rfl
  | cons n ns ih=>simp [Function.comp_def]
 rw [this]
theorem call_sortedS (hc:X.calm = true):CallR X (.builtin "sorted") (fun xs H Q=>∃ a ns,xs = [.ref a]∧H a = some (.set (ns.map Sum.inl))∧ns.length < 64∧∀ q,H q = none→Q (.ref q) (upd H q (.lst ((sortI ns).map V.int)))):=by
 intro pins s σ H xs us Q I r h
 obtain ⟨a,ns,rfl,hH,h64,q⟩:=h
 obtain ⟨u,rfl,ru⟩:=vals1 r
 cases ru
 obtain ⟨o,es,ep,t,ks',h1,h2,h3,h4,h5,h6,h7,h8,h9,h0⟩:=inv_set I hH
 refine Calls.call_function_entry kind_sorted plain_sorted entry_sorted (args_sorted1 _) ?_
 unfold Builtin.«sorted»
 refine wpAny_bind (m:=checkCount "sorted" 1 1 _) (wpAny_pure ?_)
 refine wpAny_bind (collect_set (by simp [I.ok.hd hc]) h1 h2 h3 h8 h9 h7 h0 fun h' d' tk ord kp sz pm=>?_)
 obtain ⟨k2,p1,p2⟩:=paired_perm pm h4
 obtain ⟨ms,rfl,pm2⟩:=perm_inl (p1.trans h5)
 have ia:=ints_of rfl p2
 have l1:(ord.map (·.2)).length = ns.length:=by rw [← pm2.length_eq,List.length_map,← Paired.length p2,List.length_map]
 refine wpAny_bind (wpAny_newList ?_ (by rw [l1]; exact Nat.le_of_lt (Nat.lt_of_lt_of_le h64 (by decide))))
 have gL:(h'.push (seqObj "list" (ord.map (·.2)).toArray 0)).get? h'.objs.size = some (seqObj "list" (ord.map (·.2)).toArray 0):=Heap.get?_push_size _ rfl
 refine wpAny_bind (wpAny_holding (wpAny_call_entry slot_list_sort ⟨_,gL,rfl⟩ entry_list_sort (list_sort_tree gL ia (by rw [l1]; exact h64) fun out ns' a1 a2 a3=>⟨_,rfl,?_⟩) (args_list_sort _)))
 refine wpAny_pure ⟨_,rfl,?_⟩
 obtain ⟨e,ge⟩:=sortedHeap_at (out:=out) gL
 have es':ns' = sortI ns:=sortI_eq (a2.trans pm2) a3
 subst es'
 have un:∀ b ob,s.heap.get? b = some ob→(sortedHeap (h'.push (seqObj "list" (ord.map (·.2)).toArray 0)) h'.objs.size (ord.map (·.2)) out).get? b = some ob:=fun b ob eb=>by
  have lt:=Heap.lt_size (kp b ob eb)
  rw [sortedHeap_old (Nat.ne_of_lt lt) (by rw [Heap.size_push]; exact Nat.lt_succ_of_lt lt)]
  exact Heap.get?_push_of_some _ (kp b ob eb)
 have ho:=I.hok.laid (a:=h'.objs.size) (o:=.lst ((sortI ns).map V.int)) un sz ⟨by rw [List.length_map,(sortI_perm ns).length_eq]; exact Nat.le_of_lt (Nat.lt_of_lt_of_le h64 (by decide)),out.toList,e,are_ints a1,ge⟩
 exact ⟨.ref h'.objs.size,_,I.call' (s':={ s with heap:=_,drawn:=d',toks:=tk }) (ch:=[]) rfl (Un.laid un sz (I.hok.fresh sz)) ho I.bare (fun b z=>absurd z (by simp)),rfl,q _ (I.hok.fresh sz)⟩
end
section
variable {P:Program} {w:World} {A:Around} {E:Value→Shared→Prop} {s:Shared}
end
def keyD:D→Option Key
 | .int i=>some (.inl i)
 | .str x=>some (.inr x)
 | _=>none
def keysD:List D→Option (List Key)
 | []=>some []
 | d :: r=>match keyD d,keysD r with
  | some k,some ks=>some (k :: ks)
  | _,_=>none
theorem key_rel {K:PySem.W.Frag} {ρ:List Addr} {H:Hp} {d:D} {k:Key} {v:V} (e:keyD d = some k) (r:RD K ρ H d v):v = kV k:=by
 cases d <;> first | (simp only [keyD] at e; cases e; done) | skip
 ·simp only [keyD,Option.some.injEq] at e; subst e; simp only [RD] at r; exact r
 ·simp only [keyD,Option.some.injEq] at e; subst e; simp only [RD] at r; exact r
theorem keys_rel {K:PySem.W.Frag} {ρ:List Addr} {H:Hp}:∀ {ds:List D} {ks:List Key} {vs:List V},keysD ds = some ks→RDs K ρ H ds vs→vs = ks.map kV
 | [],ks,vs,e,r=>by simp only [RDs] at r; cases e; subst r; rfl
 | d :: ds,ks,vs,e,r=>by
  simp only [RDs] at r
  obtain ⟨v,r2,rfl,h1,h2⟩:=r
  rw [keysD] at e
  cases e1:keyD d with
  | none=>rw [e1] at e; cases e
  | some k =>
   rw [e1] at e
   cases e2:keysD ds with
   | none=>rw [e2] at e; cases e
   | some ks' =>
    rw [e2] at e
    cases e
    rw [key_rel e1 h1,keys_rel e2 h2]
    rfl
def getS (n:Nat):M (List Key):=fun h=>match h[n]? with
 | some (.set ks)=>.ok ks h
 | _=>.bad
def newSet (ks:List Key):M D:=fun h=>.ok (.ref h.length) (h++[.set ks])
def fSetOf:List D→M D
 | [x]=>do
  let xs ← seqD x
  match keysD xs with
  | some ks=>if ks.length + 1 < 4096 then newSet (dedK ks) else bad
  | none=>bad
 | _=>bad
def fInS (neg:Bool):D→D→M D:=fun x y=>match y with
 | .ref n=>do
  let ks ← getS n
  match keyD x with
  | some k=>pure (.bl (decide (k ∈ ks) != neg))
  | none=>bad
 | _=>bad
def intsK:List Key→Option (List Int)
 | []=>some []
 | .inl i :: r=>(intsK r).map (i :: ·)
 | .inr _ :: _=>none
theorem intsK_eq:∀ {ks:List Key} {ns:List Int},intsK ks = some ns→ks = ns.map Sum.inl
 | [],ns,e=>by cases e; rfl
 | .inl i :: r,ns,e=>by
  rw [intsK] at e
  obtain ⟨ms,e1,rfl⟩:=Option.map_eq_some_iff.mp e
  rw [intsK_eq e1]
  rfl
 | .inr _ :: _,ns,e=>by rw [intsK] at e; cases e
def fSortedS:List D→M D
 | [.ref n]=>do
  let ks ← getS n
  match intsK ks with
  | some ns=>if ns.length < 64 then newL ((sortI ns).map .int) else bad
  | none=>bad
 | _=>bad
def asSet:D→M Nat
 | .ref n=>fun h=>match h[n]? with
  | some (.set _)=>.ok n h
  | _=>.bad
 | _=>bad
def fAddS (n:Nat) (v:D):M D:=fun h=>match h[n]? with
 | some (.set ks)=>(match keyD v with
  | some k=>if ks.length + 1 < 4096 then .ok .non (h.set n (.set (putK ks k))) else .bad
  | none=>.bad)
 | _=>.bad
def eMS (f:Nat→D→M D) (mo ma:G→M D):G→M D:=fun γ=>do
 let o ← mo γ
 let n ← asSet o
 let v ← ma γ
 f n v
section
variable {X:Cx} {EX:XX} {a o:Expr} {p pos apos cpos:Pos} {ma mo:G→M D} {mr:G→M (List D)}
theorem getS_rel {K:PySem.W.Frag} {ρ:List Addr} {h:AH} {H:Hp} {n:Nat} {q:Addr} {Z:List Key→List Addr→AH→Hp→Prop} (r:RH K ρ h H) (hq:ρ[n]? = some q) (f:Fin K EX ρ H Z (getS n h)):∃ ks,H q = some (.set ks)∧Z ks ρ h H:=by
 unfold getS at f
 cases e:h[n]? with
 | none=>rw [e] at f; exact f.elim
 | some ob =>
  cases ob with
  | lst xs=>rw [e] at f; exact f.elim
  | dct=>rw [e] at f; exact f.elim
  | dK kvs=>rw [e] at f; exact f.elim
  | dF kvs=>rw [e] at f; exact f.elim
  | exc c=>rw [e] at f; exact f.elim
  | set ks =>
   rw [e] at f
   obtain ⟨a1,n1,o1⟩:=r.at e
   rw [hq] at n1; cases n1
   exact ⟨ks,o1,f ρ H (Pre.refl _) (Ext.refl _ _) r⟩
theorem newSet_rel {K:PySem.W.Frag} {ρ:List Addr} {h:AH} {H:Hp} {ks:List Key} {Q:VK} {q:Addr} (r:RH K ρ h H) (hq:H q = none) (f:FE K EX ρ H Q (newSet ks h)):Q (.ref q) (upd H q (.set ks)):=by
 refine f (ρ++[q]) _ (Pre.app _ _) (Ext.upd (.inl hq)) (r.pushS hq) (.ref q) ?_
 simp only [RD]
 exact ⟨q,rfl,by rw [← r.len]; simp⟩
theorem ar_set:AR X.K EX (fun xs H Q=>∃ l ks,xs = [.ref l]∧(SqL X.K H l (ks.map kV)∨SqT X.K H l (ks.map kV))∧ks.length + 1 < scanBound∧∀ q,H q = none→Q (.ref q) (upd H q (.set (dedK ks)))) fSetOf:=by
 intro ρ h H ds vs Q r rd fin
 unfold fSetOf at fin
 split at fin
 ·rename_i x
  obtain ⟨v,rfl,rv⟩:=rds1 rd
  have f1:=Fin.bind fin
  cases e:seqD x h with
  | bad=>rw [e] at f1; exact f1.elim
  | err z hz=>exact (seqD_no e).elim
  | ok ys h1 =>
   obtain ⟨rfl,p,xs,rfl,hs,hd⟩:=seqD_rel r rv e
   rw [e] at f1
   have f2:=f1 ρ H (Pre.refl _) (Ext.refl _ _) r
   dsimp only at f2
   cases e2:keysD ys with
   | none=>rw [e2] at f2; exact f2.elim
   | some ks =>
    rw [e2] at f2
    dsimp only at f2
    split at f2
    ·rename_i hl
     have ek:=keys_rel e2 hd
     subst ek
     exact ⟨p,ks,rfl,hs,hl,fun q hq=>newSet_rel r hq f2⟩
    ·exact f2.elim
 ·exact fin.elim
theorem se_setof (hc:X.calm = true) (hg:Gl X "set") (hm:X.mg "set" = none) (ha:SA X EX [a] mr) (he:starEach [a] X.env = [(false,eval a X.env)]:=by rfl):SE X EX (.Call (.Name "set" p) [a] [] pos) (eCall fSetOf mr) :=
 se_args (pe_callTy (call_setR hc) hg hm (by decide +kernel) ha.h (by decide) (by decide) he rfl) ar_set
theorem br_ninS {K:PySem.W.Frag}:BR K EX (fun x y H Q=>∃ k a ks,x = kV k∧y = .ref a∧H a = some (.set ks)∧Q (.bl (!decide (k ∈ ks))) H) (fInS true):=by
 intro ρ h H x y v u Q r rx ry fin
 cases y <;> first | exact (show False from fin).elim | skip
 rename_i n
 simp only [RD] at ry
 obtain ⟨q,rfl,hq⟩:=ry
 obtain ⟨ks,h1,f2⟩:=getS_rel r hq (Fin.bind fin)
 cases e:keyD x with
 | none=>rw [e] at f2; exact f2.elim
 | some k =>
  rw [e] at f2
  refine ⟨k,q,ks,key_rel e rx,rfl,h1,?_⟩
  have:=f2 ρ H (Pre.refl _) (Ext.refl _ _) r (.bl (decide (k ∈ ks) != true)) (by simp [RD])
  simpa using this
theorem co_ninS:CO X EX .NotIn (fInS true):=⟨_,op_ninS,br_ninS⟩
theorem ar_sortedS:AR X.K EX (fun xs H Q=>∃ a ns,xs = [.ref a]∧H a = some (.set (ns.map Sum.inl))∧ns.length < 64∧∀ q,H q = none→Q (.ref q) (upd H q (.lst ((sortI ns).map V.int)))) fSortedS:=by
 intro ρ h H ds vs Q r rd fin
 unfold fSortedS at fin
 split at fin
 ·rename_i n
  obtain ⟨v,rfl,rv⟩:=rds1 rd
  simp only [RD] at rv
  obtain ⟨q,rfl,hq⟩:=rv
  obtain ⟨ks,h1,f2⟩:=getS_rel r hq (Fin.bind fin)
  cases e:intsK ks with
  | none=>rw [e] at f2; exact f2.elim
  | some ns =>
   rw [e] at f2
   dsimp only at f2
   split at f2
   ·rename_i hl
    refine ⟨q,ns,rfl,by rw [h1,intsK_eq e],hl,fun l hl2=>?_⟩
    unfold newL at f2
    split at f2
    ·refine f2 (ρ++[l]) _ (Pre.app _ _) (Ext.upd (.inl hl2)) (r.push hl2 ?_) (.ref l) ?_
     ·have:∀ ms:List Int,RDs X.K ρ H (ms.map D.int) (ms.map V.int):=fun ms=>by
       induction ms with
       | nil=>exact RDs.nil
       | cons m ms ih=>exact RDs.cons (by simp [RD]) ih
      exact this _
     ·simp only [RD]
      exact ⟨l,rfl,by rw [← r.len]; simp⟩
    ·exact f2.elim
   ·exact f2.elim
 ·exact fin.elim
theorem se_sortedS (hc:X.calm = true) (hg:Gl X "sorted") (hm:X.mg "sorted" = none) (ha:SA X EX [a] mr) (he:starEach [a] X.env = [(false,eval a X.env)]:=by rfl):SE X EX (.Call (.Name "sorted" p) [a] [] pos) (eCall fSortedS mr) :=
 se_args (pe_callB (call_sortedS hc) hg hm boot_sorted ha.h (by decide) (by decide) he rfl) ar_sortedS
theorem set_ty {K:PySem.W.Frag} {ρ:List Addr} {h:AH} {H:Hp} {n:Nat} {q:Addr} {Z:Nat→List Addr→AH→Hp→Prop} (r:RH K ρ h H) (hq:ρ[n]? = some q) (f:Fin K EX ρ H Z (asSet (.ref n) h)):tyV K "set" (.ref q) H∧Z n ρ h H:=by
 unfold asSet at f
 dsimp only at f
 cases e:h[n]? with
 | none=>rw [e] at f; exact f.elim
 | some ob =>
  cases ob with
  | lst xs=>rw [e] at f; exact f.elim
  | dct=>rw [e] at f; exact f.elim
  | dK kvs=>rw [e] at f; exact f.elim
  | dF kvs=>rw [e] at f; exact f.elim
  | exc c=>rw [e] at f; exact f.elim
  | set ks =>
   rw [e] at f
   obtain ⟨a1,n1,o1⟩:=r.at e
   rw [hq] at n1; cases n1
   exact ⟨.inr (.inr (.inr ⟨rfl,ks,o1⟩)),f ρ H (Pre.refl _) (Ext.refl _ _) r⟩
theorem se_addS (ho:SE X EX o mo) (ha:SE X EX a ma)
 (hbase:attributeBase o "add" X.env (eval o X.env) = eval o X.env:=by rfl)
 (hfew:((backTo cpos (starEach [a] X.env)).all (fun x=>!x.1) && (backToKw cpos (keywordEach [] X.env)).all (fun x=>x.1.isSome)
  && decide (([a]:List Expr).length + ([]:List Keyword).length + (if ([]:List Keyword).isEmpty then 0 else 1) < 30)) = true:=by rfl)
 (hline:(apos.endLine == cpos.line) = true:=by rfl) (hs:starEach [a] X.env = [(false,eval a X.env)]:=by rfl) :
 SE X EX (.Call (.Attribute o "add" apos) [a] [] cpos) (eMS fAddS mo ma) :=
 ⟨PE.imp (pe_bm PySem.F.plainAttrs_set PySem.F.slot_set_add PySem.F.type_set_add mt_addS ho.h (pa_cons ha.h pa_nil hs) hbase hfew hline hs rfl) fun σ H Q ⟨ρ,γ,h,rel,fin⟩=>⟨ρ,γ,h,rel,(Fin.bind fin).mono fun x ρ1 h1 H1 p1 e1 r1 f1 v rv=>by
  have f2:=Fin.bind f1
  cases x <;> first | exact (show False from f2).elim | skip
  rename_i n
  simp only [RD] at rv
  obtain ⟨q,rfl,hq⟩:=rv
  obtain ⟨lt,f3⟩:=set_ty r1 hq f2
  refine ⟨lt,ρ1,γ,h1,⟨rel.g.mono p1 e1,r1⟩,(Fin.bind f3).mono fun y ρ2 h2 H2 p2 e2 r2 f4 u ru=>?_⟩
  unfold fAddS at f4
  cases e:h2[n]? with
  | none=>rw [e] at f4; exact f4.elim
  | some ob =>
   cases ob with
   | lst xs=>rw [e] at f4; exact f4.elim
   | dct=>rw [e] at f4; exact f4.elim
   | dK kvs=>rw [e] at f4; exact f4.elim
   | dF kvs=>rw [e] at f4; exact f4.elim
   | exc c=>rw [e] at f4; exact f4.elim
   | set ks =>
    rw [e] at f4
    dsimp only at f4
    obtain ⟨a1,n1,o1⟩:=r2.at e
    rw [p2 n q hq] at n1; cases n1
    cases e3:keyD y with
    | none=>rw [e3] at f4; exact f4.elim
    | some k =>
     rw [e3] at f4
     dsimp only at f4
     split at f4
     ·rename_i hl
      refine ⟨q,ks,k,rfl,by rw [key_rel e3 ru],o1,hl,?_⟩
      exact f4 ρ2 _ (Pre.refl _) (Ext.upd (.inr ⟨_,o1,trivial⟩)) (r2.setS e (p2 n q hq)) .non (by simp [RD])
     ·exact f4.elim⟩⟩
end
theorem fn_mkC {P:Program} {w:World} {K:PySem.W.Frag} {mg:Str→Option Value} {base:Heap} {x:Str} {st:Stmt} {f:Addr} {fd:FuncData} {N ps:List Str} {k n:Nat} {mb:G→M Out} (F:Fun K x x st f fd) (S:FnScope N ps (defScope st)) (hb:Binds K fd ps []) (mx:mg x = some (.ref f)) (hn:ps.length = n)
 (body:∀ (cdv:Value) (A:Around) (outer:List Env) (s:Shared) (H:Hp) (E:XK),PySem.W.codeIn K cdv x = true→Room k (A.deeper (envOfC x (defScope st) s.heap.objs.size f cdv)) →
  SB (cxOf CX0 P w K mg base N x (defScope st) f cdv A outer s H E).nox EX0 (defBody st) mb):Fn P w K mg base (k + 1) x n (runF N.length mb):=by
 refine ⟨f,fd,ps,?_,hb,F.kp,mx⟩
 obtain ⟨oc,od,kV,doc,pm,an,cdv,ct,osl,rfl,lk,hcd⟩:=F.ex
 refine fn_of lk hcd S (fun vs H Q E h=>h.1.trans hn.symm) fun A outer s H vs Q E hr h=>?_
 obtain ⟨hl,ρ,ds,h,rh,rd,fin⟩:=h
 refine ⟨_,(body cdv A outer s H E hcd hr).h.nox,ρ,startG N.length ds,h,⟨start_rel rd,rh⟩,?_⟩
 refine (Fin.bind fin).mono fun o ρ1 h1 H1 p1 e1 r1 f1=>?_
 cases o with
 | nx γ=>exact fun σ _=>FE.here (d:=.non) (h:=h1) f1 r1 (by simp [RD])
 | rt d=>exact fun v rv=>f1 ρ1 H1 (Pre.refl _) (Ext.refl _ _) r1 v rv
 | bk γ=>exact (show False from f1).elim
 | ct γ=>exact (show False from f1).elim
section
variable {X:Cx}
end
section
variable {X:Cx} {EX:XX}
end
section
variable {X:Cx} {EX:XX} {a:Expr} {elts:List Expr} {kk:Nat} {p pos pt:Pos} {ma:G→M D}
end
end FT
namespace L2
open PySem PySem.Spec PyProof.Rows
section
variable {prog:Program} {w:World} {A:Around} {R:Result→Shared→Prop} {s:Shared} {elt tg iter tg1 iter1:Expr} {ifs ifs1:List Expr} {scope:Scope} {pos:Pos} {it acc:Value} {env:Env}
end
section
variable {X:Cx} {elt tg iter tg1 iter1:Expr} {ifs1:List Expr} {sc:Scope} {pos:Pos} {N':List Str} {cap:List (Option Nat)} {g g1:TG} {wi1:TI} {ti:TT} {te:TE}
end
end L2
namespace FT
open PySem PySem.Spec PyProof.Rows L2
section
variable {X:Cx} {EX:XX} {elt tg iter tg1 iter1:Expr} {ifs1:List Expr} {sc:Scope} {pos:Pos} {N':List Str} {cap:List (Option Nat)} {own own1:List Nat} {mi mi1:G→M Src} {g g1:D→G→M G} {k:G→M Bool} {me:G→M D}
end
end FT
namespace L2
open PySem PySem.Spec PyProof.Rows
section
variable {prog:Program} {w:World} {A:Around} {E:Value→Shared→Prop} {s:Shared}
end
section
variable {X:Cx} {e st:Expr} {te ts:TE} {pos p2:Pos}
end
end L2
namespace FT
open PySem PySem.Spec PyProof.Rows L2
def eNeg (ma:G→M D):G→M D:=fun γ=>do
 let x ← ma γ
 match x with
 | .int i=>pure (.int (-i))
 | _=>bad
def fInt:List D→M D
 | [.int i]=>pure (.int i)
 | [.bl b]=>pure (.int (if b then 1 else 0))
 | _=>bad
section
variable {X:Cx} {EX:XX} {a b st:Expr} {pos p p2:Pos} {ma ms:G→M D} {mr:G→M (List D)}
theorem se_neg (ha:SE X EX a ma):SE X EX (.UnaryOp .USub a pos) (eNeg ma) :=
 ⟨PE.imp (pe_un un_neg ha.h) fun σ H Q ⟨ρ,γ,h,rel,fin⟩=>⟨ρ,γ,h,rel,(Fin.bind fin).mono fun x ρ1 h1 H1 p1 e1 r1 f1 v rv=>by
  cases x <;> first | exact (show False from f1).elim | skip
  rename_i t
  simp only [RD] at rv
  exact ⟨t,rv,FE.here (d:=.int (-t)) (h:=h1) (ρ:=ρ1) f1 r1 (by simp [RD])⟩⟩⟩
theorem ar_int:AR X.K EX (fun xs H Q=>(∃ i,xs = [.int i]∧Q (.int i) H)∨∃ k,xs = [.bl k]∧Q (.int (if k then 1 else 0)) H) fInt:=by
 intro ρ h H ds vs Q r rd fin
 unfold fInt at fin
 split at fin
 ·obtain ⟨v,rfl,rv⟩:=rds1 rd
  simp only [RD] at rv
  subst rv
  exact .inl ⟨_,rfl,FE.here fin r (by simp [RD])⟩
 ·obtain ⟨v,rfl,rv⟩:=rds1 rd
  simp only [RD] at rv
  subst rv
  exact .inr ⟨_,rfl,FE.here fin r (by simp [RD])⟩
 ·exact fin.elim
theorem se_intof (hg:Gl X "int") (hm:X.mg "int" = none) (ha:SA X EX [a] mr) (he:starEach [a] X.env = [(false,eval a X.env)]:=by rfl):SE X EX (.Call (.Name "int" p) [a] [] pos) (eCall fInt mr) :=
 se_args (pe_callTy call_int1 hg hm (by decide +kernel) ha.h (by decide) (by decide) he rfl) ar_int
end
end FT
namespace L2
open PySem PySem.Spec PyProof.Rows
structure Kept (l:List Env) (e T:Addr) (h h':Heap):Prop where
 keep:∀ b o,h.get? b = some o→b ∉ frs l→b ≠ e→b ≠ T→h'.get? b = some o
 slot:∀ b o,h.get? b = some o→b ∈ frs l→∃ sl,h'.get? b = some { o with slots:=sl }
section
variable {M:Model} {A:Around} {E:Value→Shared→Prop} {s:Shared} {base:Heap} {env:Env} {outer:List Env} {L e T:Addr} {cls:Value} {Q:Unit→Shared→Prop}
end
section
variable {X:Cx} {pins:List (Addr × Obj)} {σ:List (Option V)} {H H':Hp} {s:Shared} {h':Heap}
end
section
variable {M:Model} {A:Around} {E:Value→Shared→Prop} {h:Heap} {g:Array GenState} {d:Drawn} {t:Nat} {os:OsState} {C Ch e:Addr} {oe:Obj} {b:Bool} {Q:Bool→Shared→Prop}
 {nm q:Str} {N:Addr} {bs bm:List Value} {hdct:Bool} {sn:List Str} {sub:List Value} {ab:Bool} {col:Option Bool} {dd:Option Addr} {k0 k1 k2 k3 k5:Option Value} {newId:String}
 {nm' q':Str} {N':Addr} {bs' bm':List Value} {hdct':Bool} {sn':List Str} {sub':List Value} {ab':Bool} {col':Option Bool} {dd':Option Addr} {k0' k1' k2' k3' k5':Option Value} {newId':String}
end
section
variable {X:Cx} {pins:List (Addr × Obj)} {σ:St} {H:Hp} {s:Shared} {e:Value}
end
section
variable {X:Cx} {pins:List (Addr × Obj)} {σ:St} {H1:Hp} {s1 s':Shared} {e:Value} {E:XK} {cn n:Str} {Ch:Addr} {bmH:List Value} {np hpos:Pos} {b₀:Stmt} {suite:List Stmt} {EE:Value→Shared→Prop} {D:Ends} {ts:TS}
end
section
variable {M:Model} {A:Around} {E:Value→Shared→Prop} {h:Heap} {g:Array GenState} {d:Drawn} {t:Nat} {os:OsState}
end
section
variable {prog:Program} {w:World} {A:Around} {E:Value→Shared→Prop} {h:Heap} {g:Array GenState} {d:Drawn} {t:Nat} {os:OsState} {a C:Addr} {o:Obj}
end
section
variable {X:Cx} {x:Str} {C:Addr} {bm:List Value} {B newId initId:String} {e₀:Expr} {rest:List Expr} {t:TA} {np cpos pos:Pos} {R:Hp→Prop}
end
section
variable {X:Cx} {CX:CXT} {k:Nat} {f:Addr} {fd:FuncData} {ps:List Str} {sp:Sp} {E:XK} {x:Str} {p pos:Pos} {e:Expr} {es:List Expr} {t:TA} {EE:Value→Shared→Prop} {Q:VK} {pins:List (Addr × Obj)} {σ:St} {H:Hp} {s:Shared}
end
section
variable {X:Cx} {k:Nat} {f Ch:Addr} {fd:FuncData} {ps:List Str} {sp:Sp} {x cn y:Str} {i:Nat} {p pos pos1 pos2 py np hpos:Pos} {e:Expr} {es:List Expr} {t:TA} {bmH:List Value} {b₀:Stmt} {suite:List Stmt} {ts:TS}
end
section
variable {X:Cx} {pins:List (Addr × Obj)} {σ:St} {H:Hp} {s:Shared}
end
section
variable {X:Cx} {pins:List (Addr × Obj)} {σ:St} {H1:Hp} {s1 s':Shared} {e:Value} {E:XK} {cn n:Str} {i:Nat} {Ch:Addr} {bmH:List Value} {np hpos:Pos} {b₀:Stmt} {suite:List Stmt} {EE:Value→Shared→Prop} {D:Ends} {ts:TS}
end
section
variable {X:Cx} {k:Nat} {f Ch:Addr} {fd:FuncData} {ps:List Str} {sp:Sp} {x cn n:Str} {i:Nat} {p pos pos1 pos2 np hpos:Pos} {e:Expr} {es:List Expr} {t:TA} {bmH:List Value} {b₀:Stmt} {suite:List Stmt} {ts:TS}
end
end L2
namespace FT
open PySem PySem.Spec PyProof.Rows L2
section
variable {X:Cx} {EX:XX} {e c:Expr} {es:List Expr} {st:Stmt} {sts:List Stmt} {me:G→M D} {k:G→M Bool} {mr:G→M (List D)} {ms:G→M Out}
end
section
variable {P:Program} {w:World} {K:PySem.W.Frag} {mg:Str→Option Value} {base:Heap} {N:List Str} {qual c:Str} {scope:Scope} {f C:Addr} {cd:Value} {A:Around} {outer:List Env} {s:Shared} {H:Hp} {E:XK} {bm:List Value}
 {e₀:Expr} {rest:List Expr} {mr:G→M (List D)} {np cpos pos:Pos}
end
section
variable {X:Cx} {k n i:Nat} {x cn y:Str} {Ch:Addr} {bmH:List Value} {mf:List D→M D} {mr:G→M (List D)} {ok:Str→Bool} {ms:G→M Out} {e:Expr} {es:List Expr} {b₀:Stmt} {suite:List Stmt} {p pos pos1 pos2 py np hpos:Pos}
end
end FT
namespace L2
open PySem PySem.Spec PyProof.Rows
section
variable {X:Cx}
end
section
variable {X:Cx}
end
end L2
namespace FT
open PySem PySem.Spec PyProof.Rows L2
section
variable {X:Cx} {EX:XX} {a:Expr} {p p2 pos:Pos} {ma:G→M D} {k:Str→Option Bool}
end
section
variable {X:Cx} {EX:XX}
end
section
variable {X:Cx} {EX:XX} {a:Expr} {p p2 pos:Pos} {ma:G→M D} {k:Str→Option Bool}
end
end FT
set_option maxHeartbeats 2000000
namespace FT
open PySem PySem.Spec PyProof.Rows L2
variable {α β:Type}
def W (m:M α) (h:AH) (Q:α→AH→Prop):Prop:=∃ a h',m h = .ok a h'∧Q a h'
theorem W_bind {m:M α} {f:α→M β} {h:AH} {Q:β→AH→Prop}:W (m >>= f) h Q ↔ W m h fun a h1=>W (f a) h1 Q:=by
 constructor
 ·rintro ⟨b,h2,e,q⟩
  rw [bindM] at e
  cases em:m h with
  | ok a h1=>rw [em] at e; exact ⟨a,h1,em,b,h2,e,q⟩
  | err x h1=>rw [em] at e; cases e
  | bad=>rw [em] at e; cases e
 ·rintro ⟨a,h1,e,b,h2,e',q⟩
  exact ⟨b,h2,by rw [M.bind_ok e,e'],q⟩
theorem W_pure {a:α} {h:AH} {Q:α→AH→Prop}:W (Pure.pure a:M α) h Q ↔ Q a h:=by
 constructor
 ·rintro ⟨b,h2,e,q⟩; cases e; exact q
 ·exact fun q=>⟨a,h,rfl,q⟩
theorem W_bad {h:AH} {Q:α→AH→Prop}:W (bad:M α) h Q ↔ False:=by
 constructor
 ·rintro ⟨b,h2,e,q⟩; cases e
 ·exact False.elim
theorem W_ite {c:Prop} [Decidable c] {m n:M α} {h:AH} {Q:α→AH→Prop}:W (if c then m else n) h Q ↔ if c then W m h Q else W n h Q:=by
 split <;> exact Iff.rfl
theorem W.mono {m:M α} {h:AH} {Q Q':α→AH→Prop} (z:W m h Q) (f:∀ a h',Q a h'→Q' a h'):W m h Q':=let ⟨a,h',e,q⟩:=z; ⟨a,h',e,f a h' q⟩
theorem W.of {m:M α} {h h':AH} {a:α} {Q:α→AH→Prop} (e:m h = .ok a h') (q:Q a h'):W m h Q:=⟨a,h',e,q⟩
theorem w_nil {γ:G} {h:AH} {Q:Out→AH→Prop}:W (bNil γ) h Q ↔ Q (.nx γ) h:=W_pure
def contW (mt:G→M Out) (Q:Out→AH→Prop):Out→AH→Prop:=fun o h=>match o with
 | .nx γ=>W (mt γ) h Q
 | o=>Q o h
theorem contW_nx {mt:G→M Out} {Q:Out→AH→Prop} {γ:G} {h:AH}:contW mt Q (.nx γ) h ↔ W (mt γ) h Q:=Iff.rfl
theorem contW_rt {mt:G→M Out} {Q:Out→AH→Prop} {d:D} {h:AH}:contW mt Q (.rt d) h ↔ Q (.rt d) h:=Iff.rfl
theorem w_cons {ms mt:G→M Out} {γ:G} {h:AH} {Q:Out→AH→Prop}:W (bCons ms mt γ) h Q ↔ W (ms γ) h (contW mt Q):=by
 unfold bCons
 rw [W_bind]
 constructor
 ·rintro ⟨o,h1,e,q⟩
  refine ⟨o,h1,e,?_⟩
  cases o with
  | nx γ=>exact q
  | rt d=>exact (W_pure (a:=Out.rt d) (Q:=Q)).mp q
  | bk d=>exact (W_pure (a:=Out.bk d) (Q:=Q)).mp q
  | ct d=>exact (W_pure (a:=Out.ct d) (Q:=Q)).mp q
 ·rintro ⟨o,h1,e,q⟩
  refine ⟨o,h1,e,?_⟩
  cases o with
  | nx γ=>exact q
  | rt d=>exact W_pure.mpr q
  | bk d=>exact W_pure.mpr q
  | ct d=>exact W_pure.mpr q
def runW (Q:D→AH→Prop):Out→AH→Prop:=fun o h=>match o with
 | .nx _=>Q .non h
 | .rt d=>Q d h
 | _=>False
theorem w_run {n:Nat} {mb:G→M Out} {ds:List D} {h:AH} {Q:D→AH→Prop} (z:W (mb (startG n ds)) h (runW Q)):W (runF n mb ds) h Q:=by
 unfold runF
 rw [W_bind]
 refine z.mono fun o h1 q=>?_
 cases o with
 | nx γ=>exact W_pure.mpr q
 | rt d=>exact W_pure.mpr q
 | bk d=>exact q.elim
 | ct d=>exact q.elim
theorem add_ii {i j:Int}:fAdd (.int i) (.int j) = pure (.int (i + j)):=rfl
theorem sub_ii {i j:Int}:fSub (.int i) (.int j) = pure (.int (i - j)):=rfl
theorem gt_ii {i j:Int}:fGt (.int i) (.int j) = pure (.bl (decide (j < i))):=rfl
theorem ge_ii {i j:Int}:fGe (.int i) (.int j) = pure (.bl (decide (j ≤ i))):=rfl
theorem lt_ii {i j:Int}:fLt (.int i) (.int j) = pure (.bl (decide (i < j))):=rfl
theorem le_ii {i j:Int}:fLe (.int i) (.int j) = pure (.bl (decide (i ≤ j))):=rfl
theorem eq_ii {i j:Int} {b:Bool}:fEq b (.int i) (.int j) = pure (.bl (decide (i = j) != b)):=rfl
theorem shr_ii {i j:Int} (h:0 ≤ j):fShr (.int i) (.int j) = pure (.int (i / 2 ^ j.toNat)):=by
 unfold fShr fIC
 dsimp only
 rw [if_pos (decide_eq_true h)]
theorem mod_ii {i j:Int} (h:0 < j):fMod (.int i) (.int j) = pure (.int (i % j)):=by
 unfold fMod fIC
 dsimp only
 rw [if_pos (decide_eq_true h)]
theorem asB_bl {b:Bool}:asB (.bl b) = pure b:=rfl
theorem truD_bl {b:Bool}:truD (.bl b) = pure b:=rfl
theorem W_asRef {n:Nat} {h:AH} {Q:Nat→AH→Prop}:W (asRef (.ref n)) h Q ↔ W (getL n) h fun _ h1=>Q n h1:=by
 unfold W asRef getL
 dsimp only
 cases e:h[n]? with
 | none=>exact ⟨fun ⟨_,_,z,_⟩=>(by cases z),fun ⟨_,_,z,_⟩=>(by cases z)⟩
 | some o =>
  cases o with
  | set ks=>exact ⟨fun ⟨_,_,z,_⟩=>(by cases z),fun ⟨_,_,z,_⟩=>(by cases z)⟩
  | dct=>exact ⟨fun ⟨_,_,z,_⟩=>(by cases z),fun ⟨_,_,z,_⟩=>(by cases z)⟩
  | dK kvs=>exact ⟨fun ⟨_,_,z,_⟩=>(by cases z),fun ⟨_,_,z,_⟩=>(by cases z)⟩
  | dF kvs=>exact ⟨fun ⟨_,_,z,_⟩=>(by cases z),fun ⟨_,_,z,_⟩=>(by cases z)⟩
  | exc c=>exact ⟨fun ⟨_,_,z,_⟩=>(by cases z),fun ⟨_,_,z,_⟩=>(by cases z)⟩
  | lst xs=>exact ⟨fun ⟨_,_,z,q⟩=>(by cases z; exact ⟨xs,h,rfl,q⟩),fun ⟨_,_,z,q⟩=>(by cases z; exact ⟨n,h,rfl,q⟩)⟩
theorem isi_int {b:Int} {t:String}:fIsi t (.int b) = pure (.bl (subT "int" t)):=rfl
theorem isi_tup {b:List D} {t:String}:fIsi t (.tup b) = pure (.bl (subT "tuple" t)):=rfl
def forW (J:G→AH→Prop) (R:D→AH→Prop):Out→AH→Prop:=fun o h=>match o with
 | .nx γ=>J γ h
 | .ct γ=>J γ h
 | .bk _=>False
 | .rt d=>R d h
def endW (J:G→AH→Prop) (R:D→AH→Prop):Out→AH→Prop:=fun o h=>match o with
 | .nx γ=>J γ h
 | .ct _=>False
 | .bk _=>False
 | .rt d=>R d h
theorem for_inv {src:Src} {g:D→G→M G} {body:G→M Out} (I:Nat→G→AH→Prop) (R:D→AH→Prop) (good:∀ i γ h,I i γ h→src.good h):∀ (items:List D) (n:Nat) (γ:G) (h:AH),
 (∀ i d γ h,items[i]? = some d→I (n + i) γ h→W (g d γ) h fun γ1 h1=>W (body γ1) h1 (forW (I (n + i + 1)) R))→I n γ h →
 W (forR src g body items γ) h (endW (I (n + items.length)) R)
 | [],n,γ,h,_,q=>⟨.nx γ,h,by unfold forR Src.chk; simp [good _ _ _ q],q⟩
 | d :: r,n,γ,h,z,q=>by
  unfold forR
  rw [W_bind]
  refine W.of (a:=()) (h':=h) (by unfold Src.chk; simp [good _ _ _ q]) ?_
  rw [W_bind]
  refine (z 0 d γ h rfl q).mono fun γ1 h1 q1=>?_
  rw [W_bind]
  refine q1.mono fun o h2 q2=>?_
  have step:∀ γ2,I (n + 0 + 1) γ2 h2→W (forR src g body r γ2) h2 (endW (I (n + (d :: r).length)) R):=fun γ2 w=>by
   have:=for_inv (src:=src) I R good r (n + 1) γ2 h2 (fun i d γ h e q=>by
    have:=z (i + 1) d γ h (by simpa using e) (by rw [show n + (i + 1) = n + 1 + i by omega]; exact q)
    rw [show n + (i + 1) + 1 = n + 1 + i + 1 by omega] at this
    exact this) (by simpa using w)
   rw [show n + 1 + r.length = n + (d :: r).length by simp; omega] at this
   exact this
  cases o with
  | nx γ2=>exact step γ2 q2
  | ct γ2=>exact step γ2 q2
  | bk γ2=>exact q2.elim
  | rt v=>exact W_pure.mpr q2
theorem w_seq {ms mt:G→M Out} {γ:G} {h:AH} {Q:Out→AH→Prop} (J:G→AH→Prop) (z:W (ms γ) h (endW J fun d h=>Q (.rt d) h)) (k:∀ γ h,J γ h→W (mt γ) h Q):W (bCons ms mt γ) h Q:=by
 rw [w_cons]
 refine z.mono fun o h1 q=>?_
 cases o with
 | nx γ=>exact k γ h1 q
 | rt d=>exact q
 | bk d=>exact q.elim
 | ct d=>exact q.elim
theorem ints_filter (n:Nat) (p:D→Bool) (f:D→D):((intsD n).filter p).map f = ((List.range n).filter fun (i:Nat)=>p (.int i)).map fun (i:Nat)=>f (.int i):=by
 unfold intsD
 rw [List.filter_map,List.map_map]
 rfl
theorem intsD_get {n i:Nat} {d:D} (e:(intsD n)[i]? = some d):d = .int i∧i < n:=by
 unfold intsD at e
 rw [List.getElem?_map] at e
 obtain ⟨j,e1,e2⟩:=Option.map_eq_some_iff.mp e
 obtain ⟨h1,h2⟩:=List.getElem?_eq_some_iff.mp e1
 simp at h1 h2
 subst h2
 exact ⟨e2.symm,h1⟩
theorem for_range {ma:G→M D} {i:Nat} {body:G→M Out} {γ:G} {h:AH} (I:Nat→G→AH→Prop) (R:D→AH→Prop) {Q:Out→AH→Prop}
 (hs:W (ma γ) h fun d h1=>∃ n:Nat,d = .int n∧n < 4611686018427387904∧I 0 γ h1∧(∀ k γ h,k < n→I k γ h→W (body (γ.set i (some (.int k)))) h (forW (I (k + 1)) R))∧(∀ γ h',I n γ h'→Q (.nx γ) h')∧∀ d h',R d h'→Q (.rt d) h') :
 W (sFor (iRange ma) (gN i) body γ) h Q:=by
 unfold sFor iRange
 rw [W_bind,W_bind]
 refine hs.mono fun d h1 ⟨n,e,hn,i0,st,fin⟩=>?_
 subst e
 dsimp only
 rw [if_pos (by omega),W_pure]
 have:=for_inv (src:=.con (intsD (n:Int).toNat)) (g:=gN i) (body:=body) I R (fun _ _ _ _=>trivial) (intsD (n:Int).toNat) 0 γ h1 (fun k d γ h e q=>by
  obtain ⟨rfl,hk⟩:=intsD_get e
  rw [Nat.zero_add] at q ⊢
  exact W_pure.mpr (st k γ h (by simpa using hk) q)) i0
 rw [show 0 + (intsD (n:Int).toNat).length = n by unfold intsD; simp] at this
 refine this.mono fun o h' q=>?_
 cases o with
 | nx γ=>exact fin.1 γ h' q
 | rt d=>exact fin.2 d h' q
 | bk d=>exact q.elim
 | ct d=>exact q.elim
theorem for_src {mi:G→M Src} {g:D→G→M G} {body:G→M Out} {γ:G} {h:AH} (I:Nat→G→AH→Prop) (R:D→AH→Prop) {Q:Out→AH→Prop}
 (hs:W (mi γ) h fun src h1=>I 0 γ h1∧(∀ i γ h,I i γ h→src.good h)∧(∀ i d γ h,src.items[i]? = some d→I i γ h→W (g d γ) h fun γ1 h1=>W (body γ1) h1 (forW (I (i + 1)) R))∧(∀ γ h',I src.items.length γ h'→Q (.nx γ) h')∧∀ d h',R d h'→Q (.rt d) h') :
 W (sFor mi g body γ) h Q:=by
 unfold sFor
 rw [W_bind]
 refine hs.mono fun src h1 ⟨i0,good,st,fin⟩=>?_
 have:=for_inv (src:=src) (g:=g) (body:=body) I R good src.items 0 γ h1 (fun k d γ h e q=>by
  rw [Nat.zero_add] at q ⊢
  exact st k d γ h e q) i0
 rw [Nat.zero_add] at this
 refine this.mono fun o h' q=>?_
 cases o with
 | nx γ=>exact fin.1 γ h' q
 | rt d=>exact fin.2 d h' q
 | bk d=>exact q.elim
 | ct d=>exact q.elim
theorem range_src {ma:G→M D} {γ:G} {h h1:AH} {n:Nat} (e:ma γ h = .ok (.int n) h1) (hn:n < 4611686018427387904):iRange ma γ h = .ok (.con (intsD n)) h1:=by
 unfold iRange
 rw [M.bind_ok e]
 dsimp only
 rw [if_pos (by omega)]
 rfl
theorem while_inv {k:G→M Bool} {body:G→M Out} (I:Nat→G→AH→Prop) (E:G→AH→Prop) (R:D→AH→Prop)
 (z:∀ m γ h,I m γ h→W (k γ) h fun b h1=>if b = true then ∃ m',m = m' + 1∧W (body γ) h1 (forW (fun γ h=>∃ i,i ≤ m'∧I i γ h) R) else E γ h1):∀ (n m:Nat) (γ:G) (h:AH),m < n→I m γ h →
 W (whileR k body n γ) h (endW E R)
 | 0,m,γ,h,hm,_=>by omega
 | n + 1,m,γ,h,hm,q=>by
  unfold whileR
  rw [W_bind]
  refine (z m γ h q).mono fun b h1 q1=>?_
  cases b with
  | false =>
   rw [if_neg (by decide)] at q1 ⊢
   exact W_pure.mpr q1
  | true =>
   rw [if_pos rfl] at q1 ⊢
   obtain ⟨m',rfl,q2⟩:=q1
   rw [W_bind]
   refine q2.mono fun o h2 q3=>?_
   cases o with
   | nx γ2=>obtain ⟨i,hi,q4⟩:=q3; exact while_inv I E R z n i γ2 h2 (by omega) q4
   | ct γ2=>obtain ⟨i,hi,q4⟩:=q3; exact while_inv I E R z n i γ2 h2 (by omega) q4
   | bk γ2=>exact q3.elim
   | rt v=>exact W_pure.mpr q3
theorem compR_px {g:D→G→M G} {k:G→M Bool} {me:G→M D} {γ:G} {p:D→Bool} {f:D→D} (src:Src) (h0:AH) (hg:∀ j,src.good (h0++j)):∀ (items:List D) (acc:List D),acc.length + items.length ≤ 1000000 →
 (∀ d ∈ items,∃ γ1,(∀ h,g d γ h = .ok γ1 h)∧(∀ j,k γ1 (h0++j) = .ok (p d) (h0++j))∧(p d = true→∀ j,me γ1 (h0++j) = .ok (f d) (h0++j))) →
 compR src g k me h0.length γ items (h0++[.lst acc]) = .ok () (h0++[.lst (acc++(items.filter p).map f)])
 | [],acc,hl,hd=>by unfold compR Src.chk; simp [hg]
 | d :: r,acc,hl,hd=>by
  obtain ⟨γ1,e1,e2,e3⟩:=hd d List.mem_cons_self
  unfold compR
  have chk:src.chk (h0++[.lst acc]) = .ok () (h0++[.lst acc]):=by unfold Src.chk; simp [hg]
  rw [M.bind_ok chk,M.bind_ok (e1 _),M.bind_ok (e2 _)]
  simp only [List.length_cons] at hl
  have hr:∀ d ∈ r,∃ γ1,(∀ h,g d γ h = .ok γ1 h)∧(∀ j,k γ1 (h0++j) = .ok (p d) (h0++j))∧(p d = true→∀ j,me γ1 (h0++j) = .ok (f d) (h0++j)):=fun x hx=>hd x (List.mem_cons_of_mem _ hx)
  cases hp:p d with
  | false =>
   rw [if_neg (by decide),compR_px src h0 hg r acc (by omega) hr,List.filter_cons,hp]
   rfl
  | true =>
   rw [if_pos rfl,M.bind_ok (e3 hp _)]
   have ap:fAppend h0.length (f d) (h0++[.lst acc]) = .ok .non (h0++[.lst (acc++[f d])]):=by
    unfold fAppend updL
    have g1:(h0++[O.lst acc])[h0.length]? = some (.lst acc):=by simp
    rw [g1]
    dsimp only
    have hs:(acc++[f d]).length ≤ sizeLine:=by
     rw [List.length_append,List.length_singleton]
     exact Nat.le_trans (show acc.length + 1 ≤ 1000000 by omega) (by decide)
    rw [if_pos hs]
    simp
   rw [M.bind_ok ap,compR_px src h0 hg r (acc++[f d]) (by simp; omega) hr,List.filter_cons,hp]
   simp
theorem comp_px {cap:List (Option Nat)} {mi:G→M Src} {g:D→G→M G} {k:G→M Bool} {me:G→M D} {γ:G} {src:Src} {h:AH} (p:D→Bool) (f:D→D) (hi:mi γ h = .ok src h) (hg:∀ j,src.good (h++j)) (hl:src.items.length ≤ 1000000)
 (hd:∀ d ∈ src.items,∃ γ1,(∀ h,g d (capG cap γ) h = .ok γ1 h)∧(∀ j,k γ1 (h++j) = .ok (p d) (h++j))∧(p d = true→∀ j,me γ1 (h++j) = .ok (f d) (h++j))) :
 eComp cap mi g k me γ h = .ok (.ref h.length) (h++[.lst ((src.items.filter p).map f)]):=by
 have e:=compR_px (g:=g) (k:=k) (me:=me) (γ:=capG cap γ) (p:=p) (f:=f) src h hg src.items [] (by simpa using hl) hd
 show (mi γ >>= _) h = _
 rw [M.bind_ok hi]
 rw [M.bind_ok (m:=(fun h=>Res.ok (List.length h) (h++[O.lst []]):M Nat)) (h:=h) rfl]
 rw [M.bind_ok (by simpa using e)]
 rfl
end FT
namespace FT
open PySem PySem.Spec PyProof.Rows L2
theorem compR_w {src:Src} {g:D→G→M G} {k:G→M Bool} {me:G→M D} {n0:Nat} {γ:G} (I:Nat→AH→Prop) (good:∀ i h,I i h→src.good h):∀ (items:List D) (n:Nat) (h:AH),
 (∀ i d h,items[i]? = some d→I (n + i) h→W (g d γ) h fun γ1 h1=>W (k γ1) h1 fun t h2=>if t = true then W (me γ1) h2 fun v h3=>W (fAppend n0 v) h3 fun _ h4=>I (n + i + 1) h4 else I (n + i + 1) h2)→I n h →
 W (compR src g k me n0 γ items) h fun _ h'=>I (n + items.length) h'
 | [],n,h,_,q=>⟨(),h,by unfold compR Src.chk; simp [good _ _ q],q⟩
 | d :: r,n,h,z,q=>by
  have more:∀ h2,I (n + 0 + 1) h2→W (compR src g k me n0 γ r) h2 fun _ h'=>I (n + (d :: r).length) h':=fun h2 q2=>by
   have:=compR_w (src:=src) (g:=g) (k:=k) (me:=me) (n0:=n0) (γ:=γ) I good r (n + 1) h2 (fun i d h e q=>by
    have:=z (i + 1) d h (by simpa using e) (by rw [show n + (i + 1) = n + 1 + i by omega]; exact q)
    rw [show n + (i + 1) + 1 = n + 1 + i + 1 by omega] at this
    exact this) (by simpa using q2)
   rw [show n + 1 + r.length = n + (d :: r).length by simp; omega] at this
   exact this
  unfold compR
  rw [W_bind]
  refine W.of (a:=()) (h':=h) (by unfold Src.chk; simp [good _ _ q]) ?_
  rw [W_bind]
  refine (z 0 d h rfl q).mono fun γ1 h1 q1=>?_
  rw [W_bind]
  refine q1.mono fun t h2 q2=>?_
  cases t with
  | false=>rw [if_neg (by decide)] at q2 ⊢; exact more h2 q2
  | true =>
   rw [if_pos rfl] at q2 ⊢
   rw [W_bind]
   refine q2.mono fun v h3 q3=>?_
   rw [W_bind]
   exact q3.mono fun _ h4 q4=>more h4 q4
theorem comp_w {cap:List (Option Nat)} {mi:G→M Src} {g:D→G→M G} {k:G→M Bool} {me:G→M D} {γ:G} {h:AH} {Q:D→AH→Prop}
 (hs:W (mi γ) h fun src h1=>∃ I:Nat→AH→Prop,I 0 (h1++[.lst []])∧(∀ i h,I i h→src.good h) ∧
  (∀ i d h,src.items[i]? = some d→I i h→W (g d (capG cap γ)) h fun γ1 h1'=>W (k γ1) h1' fun t h2=>if t = true then W (me γ1) h2 fun v h3=>W (fAppend h1.length v) h3 fun _ h4=>I (i + 1) h4 else I (i + 1) h2) ∧
  ∀ h',I src.items.length h'→Q (.ref h1.length) h'):W (eComp cap mi g k me γ) h Q:=by
 unfold eComp
 rw [W_bind]
 refine hs.mono fun src h1 ⟨I,i0,good,st,fin⟩=>?_
 rw [W_bind]
 refine W.of (a:=h1.length) (h':=h1++[.lst []]) rfl ?_
 rw [W_bind]
 have:=compR_w (src:=src) (g:=g) (k:=k) (me:=me) (n0:=h1.length) (γ:=capG cap γ) I good src.items 0 (h1++[.lst []]) (fun i d h e q=>by
  rw [Nat.zero_add] at q ⊢
  exact st i d h e q) i0
 rw [Nat.zero_add] at this
 refine this.mono fun _ h' q=>?_
 rw [W_pure]
 exact fin h' q
class Grow (I:AH→Prop):Prop where
 app:∀ h j,I h→I (h++j)
section
variable {I:AH→Prop} [Grow I]
end
section
variable {I:AH→Prop} [Grow I] {J J':G→Prop}
end
def Pool (gr sm:List Int) (s c:Int) (r:AH):AH:=.lst (gr.map .int) :: .lst (sm.map .int) :: .lst [.ref 0,.ref 1,.int s,.int c] :: r
def PS (h:AH) (k:Int) (r:AH):Prop:=∃ gr sm s c,h = Pool gr sm s c r∧0 ≤ s∧s < 2147483647∧0 ≤ c∧c ≤ k∧gr.length ≤ 63∧sm.length ≤ 63
theorem PS.up {h:AH} {k k':Int} {r:AH} (p:PS h k r) (hk:k ≤ k'):PS h k' r:=by
 obtain ⟨gr,sm,s,c,e,h1,h2,h3,h4,h5,h6⟩:=p
 exact ⟨gr,sm,s,c,e,h1,h2,h3,by omega,h5,h6⟩
theorem PS.app {h:AH} {k:Int} {r:AH} (p:PS h k r) (j:AH):PS (h++j) k (r++j):=by
 obtain ⟨gr,sm,s,c,e,q⟩:=p
 exact ⟨gr,sm,s,c,by rw [e]; rfl,q⟩
theorem PS.get {h:AH} {k:Int} {r:AH} (p:PS h k r) (n:Nat):h[n + 3]? = r[n]?:=by
 obtain ⟨gr,sm,s,c,e,q⟩:=p
 rw [e]; rfl
theorem PS.len {h:AH} {k:Int} {r:AH} (p:PS h k r):h.length = r.length + 3:=by
 obtain ⟨gr,sm,s,c,e,q⟩:=p
 rw [e]; rfl
theorem PS.set {h:AH} {k:Int} {r:AH} (p:PS h k r) (n:Nat) (o:O):PS (h.set (n + 3) o) k (r.set n o):=by
 obtain ⟨gr,sm,s,c,e,q⟩:=p
 exact ⟨gr,sm,s,c,by rw [e]; rfl,q⟩
theorem w_getL {h:AH} {k:Int} {r:AH} {n:Nat} {xs:List D} {Q:List D→AH→Prop} (p:PS h k r) (e:r[n]? = some (.lst xs)) (q:Q xs h):W (getL (n + 3)) h Q :=
 ⟨xs,h,by unfold getL; rw [p.get,e],q⟩
theorem w_newL {h:AH} {k:Int} {r:AH} {xs:List D} {Q:D→AH→Prop} (p:PS h k r) (hl:xs.length ≤ 1000000) (z:∀ h',PS h' k (r++[.lst xs])→Q (.ref (r.length + 3)) h'):W (newL xs) h Q :=
 ⟨.ref (r.length + 3),h++[.lst xs],by unfold newL; rw [if_pos (Nat.le_trans hl (by decide)),p.len],z _ (p.app _)⟩
theorem w_append {h:AH} {k:Int} {r:AH} {n:Nat} {xs:List D} {v:D} {Q:D→AH→Prop} (p:PS h k r) (e:r[n]? = some (.lst xs)) (hl:xs.length < 1000000) (z:∀ h',PS h' k (r.set n (.lst (xs++[v])))→Q .non h'):W (fAppend (n + 3) v) h Q :=
 ⟨.non,h.set (n + 3) (.lst (xs++[v])),by
  unfold fAppend updL
  rw [p.get,e]
  dsimp only
  rw [if_pos (Nat.le_trans (by simp; omega:(xs++[v]).length ≤ 1000000) (by decide))],z _ (p.set _ _)⟩
theorem at_app {r j:AH} {n:Nat} {o:O} (e:r[n]? = some o):(r++j)[n]? = some o:=by
 rw [List.getElem?_append_left (List.getElem?_eq_some_iff.mp e).1,e]
theorem at_new {r:AH} {o:O}:(r++[o])[r.length]? = some o:=by simp
def goodN (x:Str):Prop:=1 ≤ x.length∧x.length ≤ 8∧(∀ c ∈ x.cps.toList,97 ≤ c∧c ≤ 122) ∧
 x ∉ (["yes","no","not","and","or","step","some","all","next","once","ever","until","unless"]:List Str)
theorem len_str (x:Str):x.length = x.cps.toList.length:=by simp [Str.length]
theorem eqF_str (a:Str):∀ l:List Str,((l.map D.str).any fun z=>eqF z (.str a)) = decide (a ∈ l)
 | []=>by simp
 | b :: l=>by
  rw [List.map_cons,List.any_cons,eqF_str a l]
  simp only [eqF]
  rw [Bool.eq_iff_iff]
  simp only [Bool.or_eq_true,beq_iff_eq,decide_eq_true_eq,List.mem_cons]
  constructor
  ·rintro (h | h)
   ·exact .inl h.symm
   ·exact .inr h
  ·rintro (h | h)
   ·exact .inl h.symm
   ·exact .inr h
theorem flat_strs:∀ l:List Str,(l.map D.str).all flatD = true
 | []=>rfl
 | _ :: l=>by rw [List.map_cons,List.all_cons,flat_strs l]; rfl
def low (x:Str):Prop:=∀ c ∈ x.cps.toList,97 ≤ c∧c ≤ 122
def abc:Str:="abcdefghijklmnopqrstuvwxyz"
theorem abc_cps:abc.cps.toList = (List.range 26).map (· + 97):=by decide +kernel
theorem abc_len:abc.length = 26:=by decide +kernel
theorem letter {d:Int} (h0:0 ≤ d) (h1:d < 26):fIx (.str abc) (.int d) = pure (.str ⟨#[d.toNat + 97]⟩):=by
 unfold fIx
 dsimp only
 rw [if_pos (by rw [abc_len]; decide),abc_cps]
 obtain ⟨n,rfl⟩:=Int.eq_ofNat_of_zero_le h0
 have hn:n < 26:=by omega
 rw [atI_nat (v:=n + 97) (by simp [hn])]
 simp
theorem cps_app (x y:Str):(x++y).cps.toList = x.cps.toList++y.cps.toList:=Array.toList_append
theorem len_app (x y:Str):(x++y).length = x.length + y.length:=by rw [len_str,cps_app,List.length_append,← len_str,← len_str]
theorem add_ss {x y:Str} (h:x.length + y.length ≤ 1000):fAdd (.str x) (.str y) = pure (.str (x++y)):=by
 show (if x.length + y.length ≤ sizeLine then _ else _) = _
 rw [if_pos (Nat.le_trans h (by decide))]
theorem one_len (c:Nat):Str.length ⟨#[c]⟩ = 1:=rfl
theorem low_app {x:Str} {c:Nat} (h:low x) (h1:97 ≤ c) (h2:c ≤ 122):low (x++⟨#[c]⟩):=by
 intro d hd
 rw [cps_app] at hd
 rcases List.mem_append.mp hd with q | q
 ·exact h d q
 ·simp at q; omega
theorem w_letter {x:Str} {h:AH} {k d:Int} {r:AH} {Q:D→AH→Prop} (h0:0 ≤ d) (h1:d < 26) (hx:x.length ≤ 100) (q:Q (.str (x++⟨#[d.toNat + 97]⟩)) h):W (fIx (.str abc) (.int d)) h fun a h1=>W (fAdd (.str x) a) h1 Q:=by
 rw [letter h0 h1,W_pure,add_ss (by rw [one_len]; omega),W_pure]
 exact q
def words:List Str:=["yes","no","not","and","or","step","some","all","next","once","ever","until","unless"]
def cand (x:Str) (l:Int) (i:Nat):Str:=x++⟨#[((l + i) % 26).toNat + 97]⟩
theorem cand_inj {x:Str} {l:Int} (h0:0 ≤ l) {i j:Nat} (hi:i < 26) (hj:j < 26) (e:cand x l i = cand x l j):i = j:=by
 have e2:(cand x l i).cps.toList = (cand x l j).cps.toList:=by rw [e]
 unfold cand at e2
 rw [cps_app,cps_app] at e2
 have:=List.append_cancel_left e2
 simp at this
 omega
theorem pigeon {x:Str} {l:Int} (h0:0 ≤ l) {ns:List Str} (hn:ns.length ≤ 7) (h:∀ i:Nat,i < 26→cand x l i ∈ words∨cand x l i ∈ ns):False:=by
 have nd:((List.range 26).map (cand x l)).Nodup:=by
  rw [List.nodup_iff_pairwise_ne,List.pairwise_map]
  refine List.Pairwise.imp_of_mem ?_ List.nodup_range
  intro a b ha hb hne e
  exact hne (cand_inj h0 (by simpa using ha) (by simpa using hb) e)
 have sub:((List.range 26).map (cand x l)) ⊆ words++ns:=by
  intro y hy
  obtain ⟨i,hi,rfl⟩:=List.mem_map.mp hy
  exact List.mem_append.mpr (h i (by simpa using hi))
 have:=nd.length_le_of_subset sub
 rw [List.length_map,List.length_range,List.length_append] at this
 have w:words.length = 13:=rfl
 omega
theorem in_lst {h:AH} {k:Int} {r:AH} {n:Nat} {ns:List Str} {x:Str} {neg:Bool} (p:PS h k r) (e:r[n]? = some (.lst (ns.map .str))):fIn neg (.str x) (.ref (n + 3)) h = .ok (.bl (decide (x ∈ ns) != neg)) h:=by
 have g:getL (n + 3) h = .ok (ns.map .str) h:=by unfold getL; rw [p.get,e]
 unfold fIn seqD
 rw [M.bind_ok g,eqF_str,flat_strs]
 rfl
theorem w_ixr {h:AH} {k:Int} {r:AH} {n:Nat} {xs:List D} {i:Int} {d:D} {Q:D→AH→Prop} (p:PS h k r) (e:r[n]? = some (.lst xs)) (a:atI xs i = some d) (q:Q d h):W (fIx (.ref (n + 3)) (.int i)) h Q:=by
 show W (getL (n + 3) >>= fun xs=>match atI xs i with | some d=>pure d | none=>bad) h Q
 rw [W_bind]
 refine w_getL p e ?_
 rw [a]
 exact W_pure.mpr q
theorem low_nil:low "":=by
 intro c hc
 have:(Str.ofString "").cps.toList = []:=by decide +kernel
 rw [this] at hc
 cases hc
theorem nil_len:Str.length "" = 0:=by decide +kernel
def NS (ns:List Str):Prop:=ns.Nodup∧∀ x ∈ ns,goodN x
def stD (l:List Nat):List D:=l.map fun (i:Nat)=>.int i
structure MK (l:List Str):Prop where
 len:l.length ≤ 8
 good:∀ x ∈ l,goodN x
 rise:l.Pairwise fun a b=>a.cps.toList < b.cps.toList
structure MA (st:List (List Nat)) (mk:List (List Str)):Prop where
 l1:1 ≤ st.length
 l2:st.length ≤ 40
 l3:mk.length = st.length
 s1:∀ l ∈ st,l.Pairwise (· < ·)
 s2:∀ l ∈ st,∀ x ∈ l,x < st.length
 m1:∀ l ∈ mk,MK l
def stsD (st:List (List Nat)):List D:=st.map fun l=>.tup (stD l)
def mksD (mk:List (List Str)):List D:=mk.map fun l=>.tup (l.map .str)
def maD (st:List (List Nat)) (mk:List (List Str)):D:=.tup [.tup (stsD st),.tup (mksD mk)]
theorem le_cps (a b:Str):leS a b = true ↔ a.cps.toList ≤ b.cps.toList:=by
 unfold leS
 simp [List.not_lt]
theorem sortS_rise {l:List Str} (h:l.Nodup):(sortS l).Pairwise fun a b=>a.cps.toList < b.cps.toList:=by
 have s:(sortS l).Pairwise fun a b=>leS a b = true:=List.pairwise_mergeSort (fun a b c h1 h2=>(le_cps a c).mpr (List.le_trans ((le_cps a b).mp h1) ((le_cps b c).mp h2)))
  (fun a b=>by
   rw [Bool.or_eq_true,le_cps,le_cps]
   exact List.le_total _ _) l
 have n:(sortS l).Nodup:=(List.mergeSort_perm l leS).nodup_iff.mpr h
 refine (List.Pairwise.and s n).imp fun {a b} q=>?_
 obtain ⟨q1,q2⟩:=q
 have q3:=(le_cps a b).mp q1
 by_cases lt:a.cps.toList < b.cps.toList
 ·exact lt
 ·exact absurd (str_ext (List.le_antisymm q3 (List.not_lt.mp lt))) q2
theorem sortS_mem {l:List Str} {x:Str}:x ∈ sortS l ↔ x ∈ l:=(List.mergeSort_perm l leS).mem_iff
theorem sortS_len (l:List Str):(sortS l).length = l.length:=(List.mergeSort_perm l leS).length_eq
theorem strs_map:∀ l:List Str,strsD (l.map .str) = some l
 | []=>rfl
 | a :: l=>by simp [strsD,strs_map l]
def pick (ns:List Str) (p:Nat→Bool):List Str:=((List.range ns.length).filter p).map fun i=>(ns[i]?).getD ""
theorem pick_mk {ns:List Str} (hn:NS ns) (hl:ns.length ≤ 8) (p:Nat→Bool):MK (sortS (pick ns p)):=by
 have nd:(pick ns p).Nodup:=by
  unfold pick
  rw [List.nodup_iff_pairwise_ne,List.pairwise_map]
  refine List.Pairwise.imp_of_mem ?_ (List.Pairwise.filter p List.nodup_range)
  intro a b ha hb hne e
  have la:a < ns.length:=by simpa using (List.mem_filter.mp ha).1
  have lb:b < ns.length:=by simpa using (List.mem_filter.mp hb).1
  rw [List.getElem?_eq_getElem la,List.getElem?_eq_getElem lb] at e
  simp at e
  exact hne ((List.getElem_inj hn.1).mp e)
 have le:(pick ns p).length ≤ ns.length:=by
  unfold pick
  rw [List.length_map]
  refine Nat.le_trans (List.length_filter_le _ _) ?_
  simp
 refine ⟨by rw [sortS_len]; omega,fun x hx=>?_,sortS_rise nd⟩
 rw [sortS_mem] at hx
 unfold pick at hx
 obtain ⟨i,hi,rfl⟩:=List.mem_map.mp hx
 have la:i < ns.length:=by simpa using (List.mem_filter.mp hi).1
 rw [List.getElem?_eq_getElem la]
 exact hn.2 _ (List.getElem_mem la)
theorem pick_len (ns:List Str) (p:Nat→Bool):(pick ns p).length ≤ ns.length:=by
 unfold pick
 rw [List.length_map]
 refine Nat.le_trans (List.length_filter_le _ _) ?_
 simp
def AM (st:List (List Nat)) (mk:List (List Str)) (n:Nat):Prop:=(∀ l ∈ st,l.Pairwise (· < ·))∧(∀ l ∈ st,∀ x ∈ l,x < n)∧∀ l ∈ mk,MK l
theorem lt_of_at {r:AH} {i:Nat} {o:O} (e:r[i]? = some o):i < r.length:=(List.getElem?_eq_some_iff.mp e).1
theorem map_filter_int (ns:List Int) (p:D→Bool):((ns.map D.int).filter p).map (fun d=>d) = (ns.filter fun i=>p (.int i)).map D.int:=by
 rw [List.map_id',List.filter_map]
 rfl
theorem pow18:fPow (.int 10) (.int 18) = pure (.int 1000000000000000000):=rfl
theorem len_tup (xs:List D):fLen [.tup xs] = pure (.int xs.length):=rfl
theorem ix_tup {xs:List D} {i:Int} {d:D} (a:atI xs i = some d):fIx (.tup xs) (.int i) = pure d:=by
 have:fIx (.tup xs) (.int i) = (pure xs >>= fun xs=>match atI xs i with | some d=>pure d | none=>bad):=rfl
 rw [this]
 show (match atI xs i with | some d=>pure d | none=>bad) = _
 rw [a]
theorem st_at {l:List Nat} {c:Nat} (hc:c < l.length):atI (stD l) (c:Int) = some (.int ((l[c]?).getD 0:Nat)):=by
 refine atI_nat ?_
 unfold stD
 rw [List.getElem?_map,List.getElem?_eq_getElem hc]
 rfl
section
variable {P:Program} {w:World} {K:PySem.W.Frag} {mg:Str→Option Value} {base:Heap}
theorem fn_ok {x:Str} {st:Stmt} {f:Addr} {fd:FuncData} {N ps:List Str} {k n:Nat} {mb:G→M Out} (F:Fun K x x st f fd) (S:FnScope N ps (defScope st)) (hn:ps.length = n)
 (body:∀ (cdv:Value) (A:Around) (outer:List Env) (s:Shared) (H:Hp) (E:XK),Room k (A.deeper (envOfC x (defScope st) s.heap.objs.size f cdv)) →
  SB (cxOf CX0 P w K mg base N x (defScope st) f cdv A outer s H E).nox EX0 (defBody st) mb):FnOk P w K mg base CX0 (k + 1) f fd ps (spB K (runF N.length mb) n):=by
 refine F.ok S (fun vs H Q E h=>h.1.trans hn.symm) (fun cdv A outer s H vs Q E hr h=>?_)
 obtain ⟨hl,ρ,ds,h,rh,rd,fin⟩:=h
 refine ⟨_,(body cdv A outer s H E hr).h,ρ,startG N.length ds,h,⟨start_rel rd,rh⟩,?_⟩
 refine (Fin.bind fin).mono fun o ρ1 h1 H1 p1 e1 r1 f1=>?_
 cases o with
 | nx γ=>exact fun σ _=>FE.here (d:=.non) (h:=h1) f1 r1 (by simp [RD])
 | rt d=>exact fun v rv=>f1 ρ1 H1 (Pre.refl _) (Ext.refl _ _) r1 v rv
 | bk γ=>exact (show False from f1).elim
 | ct γ=>exact (show False from f1).elim
theorem bindsTo1 {x p:Str} {st:Stmt} {f:Addr} {fd:FuncData} (F:Fun K x x st f fd)
 (h:∀ (kV doc pm:Value) (an:Option Addr) (cdv ct u:Value),bindArgs (PySem.W.fnOf x x (defArgs st) (defBody st) (defScope st) .none kV doc pm an cdv ct) ⟨[u],[]⟩ = pure [(p,u)]):∀ (s:Shared) (u:Value),BindsTo s fd ⟨[u],[]⟩ [(p,u)]:=by
 obtain ⟨oc,od,kV,doc,pm,an,cdv,ct,osl,rfl,lk,hcd⟩:=F.ex
 exact fun s u=>.of_eq (h kV doc pm an cdv ct u)
end
theorem law_walk {l:PySem.W.OpenLaw} {q:Program} {loose:List Str} {XP:(Str→Option Value)→Heap→Prop} {YP:World→Heap→Prop} {d:DefRec} {K:Params→PySem.W.Frag} {m:List D→M D} {p:Str} {lev:Nat} (hn:l.most = some 63) (hdf:d.params.defaults = []) (hr:Room lev callerA)
 (hY:∀ (w:World) (h:Heap),YP w h→(K w.params).In h)
 (F:∀ (w:World) (mg:Str→Option Value) (fa:Addr) (h:Heap),(K w.params).In h→h.Ns mainGlobals mg→mg d.name = some (.ref fa) →
  ∃ fd:FuncData,(∀ (s:Shared) (u:Value),BindsTo s fd ⟨[u],[]⟩ [(p,u)])∧∀ base:Heap,(K w.params).In base→base.Ns mainGlobals mg→FnOk l.prog w (K w.params) mg base CX0 lev fa fd [p] (spB (K w.params) m 1))
 (math:∀ ns:List Int,ns.length ≤ 63→∃ h',m [.fl (ns.map .int)] [] = .ok (.bl true) h') :
 PySem.W.WalkO q loose XP YP l.row.toRowW d [] (fun f vs=>PySem.call f vs):=by
 refine L2.walk_of (n:=63) (k:=lev) (x:=p) (CX:=fun _=>CX0) (sp:=fun w=>spB (K w.params) m 1) hn (by decide) hdf hr hY F (fun w H a ns hl hO hS=>?_) fun _ _ _ _ _ z=>z
 obtain ⟨h',e⟩:=math ns hl
 have sq:SqLP (K w.params) H a (ns.map V.int):=by
  rcases hS with (h | ⟨o,h⟩) | h
  ·rcases hO a with z | ⟨ob,xs,z⟩ <;> rw [h] at z <;> cases z
  ·exact .inl ⟨o,h⟩
  ·exact .inr h
 refine ⟨rfl,[],[.fl (ns.map .int)],[],⟨rfl,fun i j a h=>by simp at h,fun n o a h=>by simp at h⟩,RDs.cons ?_ RDs.nil,?_⟩
 ·simp only [RD]
  exact ⟨a,_,rfl,sq,rds_ints ns⟩
 ·rw [e]
  exact fun ρ' H' _ _ _ v rv=>by simpa [RD] using rv
mutual
def refLt (n:Nat):D→Bool
 | .ref i=>decide (i < n)
 | .tup xs=>refLts n xs
 | .fl xs=>refLts n xs
 | _=>true
def refLts (n:Nat):List D→Bool
 | []=>true
 | d :: r=>refLt n d && refLts n r
end
def refO (n:Nat):O→Bool
 | .lst xs=>refLts n xs
 | .dK kvs=>refLts n (kvs.map (·.2))
 | .dF kvs=>refLts n (kvs.map (·.2))
 | _=>true
def Kept (h h1:AH):Prop:=∀ (i:Nat) (o:O),i < h.length→h1[i]? = some o→h[i]? = some o∨refO h.length o = true
section
variable {K:PySem.W.Frag} {ρ ρ':List Addr} {H:Hp}
theorem take_at {ρ:List Addr} {n i:Nat} (h:i < n):(ρ.take n)[i]? = ρ[i]?:=by rw [List.getElem?_take,if_pos h]
mutual
theorem RD.cut {n:Nat}:∀ {d:D} {v:V},refLt n d = true→RD K ρ H d v→RD K (ρ.take n) H d v
 | .non,v,_,h=>by simpa [RD] using h
 | .bl b,v,_,h=>by simpa [RD] using h
 | .int b,v,_,h=>by simpa [RD] using h
 | .str b,v,_,h=>by simpa [RD] using h
 | .tup ds,v,c,h=>by
  simp only [RD,refLt] at h c ⊢
  obtain ⟨a,xs,h1,h2,h3⟩:=h
  exact ⟨a,xs,h1,h2,RDs.cut c h3⟩
 | .fl ds,v,c,h=>by
  simp only [RD,refLt] at h c ⊢
  obtain ⟨a,xs,h1,h2,h3⟩:=h
  exact ⟨a,xs,h1,h2,RDs.cut c h3⟩
 | .ref i,v,c,h=>by
  simp only [RD,refLt,decide_eq_true_eq] at h c ⊢
  obtain ⟨a,h1,h2⟩:=h
  exact ⟨a,h1,by rw [take_at c]; exact h2⟩
theorem RDs.cut {n:Nat}:∀ {ds:List D} {xs:List V},refLts n ds = true→RDs K ρ H ds xs→RDs K (ρ.take n) H ds xs
 | [],xs,_,h=>by simpa [RDs] using h
 | d :: ds,xs,c,h=>by
  simp only [RDs,refLts,Bool.and_eq_true] at h c ⊢
  obtain ⟨x,r,h1,h2,h3⟩:=h
  exact ⟨x,r,h1,RD.cut c.1 h2,RDs.cut c.2 h3⟩
end
mutual
theorem RD.low:∀ {d:D} {v:V},RD K ρ H d v→refLt ρ.length d = true
 | .non,v,h=>rfl
 | .bl b,v,h=>rfl
 | .int b,v,h=>rfl
 | .str b,v,h=>rfl
 | .tup ds,v,h=>by
  simp only [RD,refLt] at h ⊢
  obtain ⟨a,xs,h1,h2,h3⟩:=h
  exact RDs.low h3
 | .fl ds,v,h=>by
  simp only [RD,refLt] at h ⊢
  obtain ⟨a,xs,h1,h2,h3⟩:=h
  exact RDs.low h3
 | .ref i,v,h=>by
  simp only [RD,refLt,decide_eq_true_eq] at h ⊢
  obtain ⟨a,h1,h2⟩:=h
  exact (List.getElem?_eq_some_iff.mp h2).1
theorem RDs.low:∀ {ds:List D} {xs:List V},RDs K ρ H ds xs→refLts ρ.length ds = true
 | [],xs,h=>rfl
 | d :: ds,xs,h=>by
  simp only [RDs,refLts,Bool.and_eq_true] at h ⊢
  obtain ⟨x,r,h1,h2,h3⟩:=h
  exact ⟨RD.low h2,RDs.low h3⟩
end
theorem RK.cut {n:Nat}:∀ {kvs:List (Key × D)} {vs:List (Key × V)},refLts n (kvs.map (·.2)) = true→RK K ρ H kvs vs→RK K (ρ.take n) H kvs vs
 | _,_,_,.nil=>.nil
 | _,_,c,.cons a b=>by
  simp only [List.map_cons,refLts,Bool.and_eq_true] at c
  exact .cons ⟨a.1,a.2.cut c.1⟩ (RK.cut c.2 b)
theorem RK.low:∀ {kvs:List (Key × D)} {vs:List (Key × V)},RK K ρ H kvs vs→refLts ρ.length (kvs.map (·.2)) = true
 | _,_,.nil=>rfl
 | _,_,.cons a b=>by
  simp only [List.map_cons,refLts,Bool.and_eq_true]
  exact ⟨a.2.low,RK.low b⟩
theorem RO.cut {n:Nat} {o:O} {a:Addr} (c:refO n o = true) (h:RO K ρ H o a):RO K (ρ.take n) H o a:=by
 cases o with
 | lst ds=>obtain ⟨xs,h1,h2⟩:=h; exact ⟨xs,h1,h2.cut c⟩
 | set ks=>exact h
 | dct=>exact h
 | dK kvs=>obtain ⟨vs,h1,h2⟩:=h; exact ⟨vs,h1,h2.cut c⟩
 | dF kvs=>obtain ⟨ob,vs,h1,h2⟩:=h; exact ⟨ob,vs,h1,h2.cut c⟩
 | exc c=>exact h
theorem RO.low {o:O} {a:Addr} (h:RO K ρ H o a):refO ρ.length o = true:=by
 cases o with
 | lst ds=>obtain ⟨xs,h1,h2⟩:=h; exact h2.low
 | set ks=>rfl
 | dct=>rfl
 | dK kvs=>obtain ⟨vs,h1,h2⟩:=h; exact h2.low
 | dF kvs=>obtain ⟨ob,vs,h1,h2⟩:=h; exact h2.low
 | exc c=>rfl
theorem RH.cut {h:AH} {n:Nat} (r:RH K ρ h H) (c:∀ o ∈ h.take n,refO n o = true):RH K (ρ.take n) (h.take n) H:=by
 refine ⟨by simp [r.len],fun i j a h1 h2=>?_,fun m o a h1 h2=>?_⟩
 ·rw [List.getElem?_take] at h1 h2
  split at h1
  ·split at h2
   ·exact r.nd i j a h1 h2
   ·cases h2
  ·cases h1
 ·have hm:=List.mem_of_getElem? h1
  rw [List.getElem?_take] at h1 h2
  split at h1
  ·rename_i q
   rw [if_pos q] at h2
   exact (r.obj m o a h1 h2).cut (c o hm)
  ·cases h1
theorem RH.cut1 {h:AH} {n i:Nat} {o:O} (r:RH K ρ h H) (c:∀ o ∈ h.take n,refO n o = true) (hn:n ≤ h.length) (hi:n ≤ i) (e:h[i]? = some o) (co:refO n o = true):∃ a,ρ[i]? = some a∧RH K (ρ.take n++[a]) (h.take n++[o]) H:=by
 obtain ⟨a,ea,ra⟩:=r.at e
 have r1:=r.cut c
 have ln:(ρ.take n).length = n:=by rw [List.length_take,r.len]; omega
 have lh:(h.take n).length = n:=by rw [List.length_take]; omega
 have ne:∀ {m:Nat} {b:Addr},(ρ.take n)[m]? = some b→b ≠ a:=fun {m b} q z=>by
  have hm:=(List.getElem?_eq_some_iff.mp q).1
  rw [ln] at hm
  rw [take_at hm,z] at q
  have:=r.nd m i a q ea
  omega
 refine ⟨a,ea,by simp [r1.len],fun i j b h1 h2=>?_,fun m u b h1 h2=>?_⟩
 ·rw [List.getElem?_append] at h1 h2
  split at h1 <;> split at h2
  ·exact r1.nd i j b h1 h2
  ·rename_i q1 q2
   rw [List.getElem?_singleton] at h2
   split at h2
   ·cases h2; exact absurd rfl (ne h1)
   ·cases h2
  ·rename_i q1 q2
   rw [List.getElem?_singleton] at h1
   split at h1
   ·cases h1; exact absurd rfl (ne h2)
   ·cases h1
  ·rw [List.getElem?_singleton] at h1 h2
   split at h1
   ·split at h2
    ·omega
    ·cases h2
   ·cases h1
 ·rw [List.getElem?_append] at h1 h2
  rw [ln] at h2
  rw [lh] at h1
  split at h1
  ·rename_i q
   rw [if_pos q] at h2
   exact (r1.obj m u b h1 h2).mono (Pre.app _ _) (Ext.refl _ _) rfl
  ·rename_i q
   rw [if_neg q] at h2
   rw [List.getElem?_singleton] at h1 h2
   split at h1
   ·rename_i q0
    rw [if_pos q0] at h2
    cases h1; cases h2
    exact (ra.cut co).mono (Pre.app _ _) (Ext.refl _ _) rfl
   ·cases h1
end
theorem kept_cl {K:PySem.W.Frag} {ρ:List Addr} {h h1:AH} {H:Hp} (r:RH K ρ h H) (c:Kept h h1):∀ o ∈ h1.take h.length,refO h.length o = true:=fun o ho=>by
 obtain ⟨i,hi⟩:=List.getElem?_of_mem ho
 rw [List.getElem?_take] at hi
 split at hi
 ·rename_i li
  rcases c i o li hi with q | q
  ·obtain ⟨a,_,ra⟩:=r.at q
   rw [← r.len]
   exact ra.low
  ·exact q
 ·cases hi
theorem kept_app (h j:AH):Kept h (h++j):=fun i o li e=>.inl (by rw [List.getElem?_append_left li] at e; exact e)
open Classical in
noncomputable def cln (m:M D):M D:=fun h=>match m h with
 | .ok d h1=>if h.length ≤ h1.length∧Kept h h1 then
  (if refLt h.length d = true then .ok d (h1.take h.length) else match d with
   | .ref i=>(match h1[i]? with
    | some o=>if refO h.length o = true then .ok (.ref h.length) (h1.take h.length++[o]) else .ok d h1
    | none=>.ok d h1)
   | d=>.ok d h1)
  else .ok d h1
 | .err x h1=>.err x h1
 | .bad=>.bad
theorem FE.cln {K:PySem.W.Frag} {EX:XX} {ρ:List Addr} {h:AH} {H:Hp} {Q:VK} {m:M D} (r:RH K ρ h H) (f:FE K EX ρ H Q (cln m h)):FE K EX ρ H Q (m h):=by
 unfold FT.cln at f
 cases e:m h with
 | bad=>rw [e] at f; exact f
 | err x h1=>rw [e] at f; exact f
 | ok d h1 =>
  rw [e] at f
  dsimp only at f
  split at f
  ·rename_i c
   obtain ⟨hl,c⟩:=c
   have cl:=kept_cl r c
   have pre:∀ {ρ1:List Addr},Pre ρ ρ1→Pre ρ (ρ1.take h.length):=fun {ρ1} p i a q=>by
    have:=(List.getElem?_eq_some_iff.mp q).1
    rw [r.len] at this
    rw [take_at this]
    exact p i a q
   split at f
   ·rename_i cd
    exact fun ρ1 H1 p1 e1 r1 v rv=>f _ H1 (pre p1) e1 (r1.cut cl) v (rv.cut cd)
   ·rename_i nd
    split at f
    ·rename_i i
     split at f
     ·rename_i o eo
      split at f
      ·rename_i co
       intro ρ1 H1 p1 e1 r1 v rv
       have hi:h.length ≤ i:=by
        simp only [refLt,decide_eq_true_eq] at nd
        omega
       obtain ⟨a,ea,r2⟩:=r1.cut1 cl hl hi eo co
       refine f _ H1 ((pre p1).trans (Pre.app _ _)) e1 r2 v ?_
       simp only [RD] at rv ⊢
       obtain ⟨b,h2,h3⟩:=rv
       rw [ea] at h3; cases h3
       refine ⟨a,h2,?_⟩
       have ln:(ρ1.take h.length).length = h.length:=by rw [List.length_take,r1.len]; omega
       rw [List.getElem?_append_right (by omega),ln]
       simp
      ·exact f
     ·exact f
    ·exact f
  ·exact f
noncomputable def clE (m:G→M D):G→M D:=fun γ=>cln (m γ)
theorem se_cln {X:Cx} {EX:XX} {e:Expr} {m:G→M D} (h:SE X EX e m):SE X EX e (clE m) :=
 ⟨PE.imp h.h fun σ H Q ⟨ρ,γ,h,rel,fin⟩=>⟨ρ,γ,h,rel,FE.cln rel.h fin⟩⟩
open Classical in
noncomputable def clT (m:G→M Bool):G→M Bool:=fun γ h=>match m γ h with
 | .ok d h1=>if h.length ≤ h1.length∧Kept h h1 then .ok d (h1.take h.length) else .ok d h1
 | .err x h1=>.err x h1
 | .bad=>.bad
theorem RH.cut2 {K:PySem.W.Frag} {ρ ρ1:List Addr} {h h1:AH} {H H1:Hp} (r:RH K ρ h H) (p1:Pre ρ ρ1) (r1:RH K ρ1 h1 H1) (c:Kept h h1):RH K (ρ1.take h.length) (h1.take h.length) H1∧Pre ρ (ρ1.take h.length):=by
 refine ⟨r1.cut (kept_cl r c),fun i a q=>?_⟩
 have:=(List.getElem?_eq_some_iff.mp q).1
 rw [r.len] at this
 rw [take_at this]
 exact p1 i a q
theorem sc_cln {X:Cx} {EX:XX} {e:Expr} {m:G→M Bool} (h:SC X EX e m):SC X EX e (clT m) :=
 ⟨PT.imp h.h fun σ H Q ⟨ρ,γ,h,rel,fin⟩=>⟨ρ,γ,h,rel,by
  unfold clT at fin
  cases e:m γ h with
  | bad=>rw [e] at fin; exact fin
  | err x h1=>rw [e] at fin; exact fin
  | ok d h1 =>
   rw [e] at fin
   dsimp only at fin
   split at fin
   ·rename_i c
    exact fun ρ1 H1 p1 e1 r1=>let ⟨r2,p2⟩:=rel.h.cut2 p1 r1 c.2; fin _ H1 p2 e1 r2
   ·exact fin⟩⟩
theorem Fn.cln {P:Program} {w:World} {K:PySem.W.Frag} {mg:Str→Option Value} {base:Heap} {k:Nat} {x:Str} {n:Nat} {mf:List D→M D} (F:Fn P w K mg base k x n mf):Fn P w K mg base k x n (fun ds=>cln (mf ds)):=by
 obtain ⟨f,fd,ps,h1,h2,h3,h4⟩:=F.ex
 exact ⟨f,fd,ps,h1.imp fun vs H Q E ⟨hl,ρ,ds,h,rh,rd,fin⟩=>⟨hl,ρ,ds,h,rh,rd,FE.cln rh fin⟩,h2,h3,h4⟩
end FT
namespace L2
open PySem PySem.Spec PyProof.Rows PySem.Builtin
theorem noFill_tuple_mul:fillsNumberSlot (.type "tuple") "mul" = pure false :=
 PySem.fillsNumberSlot_seq (id:="tuple.__mul__") (r:=some (.builtin "tuple.__rmul__")) PySem.F.slot_tuple_mul.lookup (by decide +kernel) PySem.F.slot_tuple_rmul.lookup (by decide +kernel)
theorem repeat_tuple:seqRepeat? (.type "tuple") = pure (some (.builtin "tuple.__mul__")):=by
 unfold seqRepeat?
 rw [PySem.seqSlot_of (T:="tuple") (name:="__mul__") (id:="tuple.__mul__") PySem.F.slot_tuple_mul.lookup (by decide +kernel),PySem.seqSlot_of (T:="tuple") (name:="__rmul__") (id:="tuple.__rmul__") PySem.F.slot_tuple_rmul.lookup (by decide +kernel)]
 rfl
theorem rmul_it (a:Int) (t:Tok) (l:Addr) (items:Array Value) (n:Nat) (dd:Option Addr) (sl:Array (Option Value)) :
 Meets (Builtin.«int.__rmul__» ⟨[.int a t,.ref l],[]⟩) (fun _ R s=>s.heap.get? l = some { cls:=.type "tuple",dict:=dd,data:=.seq items n,slots:=sl }∧R (.ok (.ret Value.notImplemented)) s) :=
 .of_wp fun prog w A R s h=>by obtain ⟨hp,g,d,tk,os⟩:=s; obtain ⟨hl,h⟩:=h; wp_walk; exact ⟨_,rfl,h⟩
theorem mul_t0 (l:Addr) (items:Array Value) (n:Nat) (dd:Option Addr) (sl:Array (Option Value)) (x:Int) (u:Tok) (h1:-(2 ^ 63) ≤ x) (h2:x < 2 ^ 63) (hc:items.isEmpty = true∨x = 1) :
 Meets (Builtin.«tuple.__mul__» ⟨[.ref l,.int x u],[]⟩) (fun _ R s=>s.heap.get? l = some { cls:=.type "tuple",dict:=dd,data:=.seq items n,slots:=sl }∧R (.ok (.ret (Value.ref l))) s) :=
 .of_wp fun prog w A R s h=>by
  obtain ⟨hp,g,d,tk,os⟩:=s; obtain ⟨hl,h⟩:=h
  have f1:=PySem.AutoSeq1.idx_int
  have c1:(decide (x < -(2 ^ 63)) || decide (x ≥ 2 ^ 63)) = false:=by simp; omega
  have c2:(items.isEmpty || x == 1) = true:=by simpa using hc
  wp_walk using wpAny_loadPart' hl
  refine wpAny_ite_false (by rw [c1]; rfl) ?_
  wp_walk using wpAny_loadPart' hl
  exact ⟨_,rfl,h⟩
theorem mul_t1 (l:Addr) (items:Array Value) (n:Nat) (dd:Option Addr) (sl:Array (Option Value)) (x:Int) (u:Tok) (h1:-(2 ^ 63) ≤ x) (h2:x < 2 ^ 63) (hc:items.isEmpty = false) (hx:x ≤ 0) :
 Meets (Builtin.«tuple.__mul__» ⟨[.ref l,.int x u],[]⟩) (fun _ R s=>s.heap.get? l = some { cls:=.type "tuple",dict:=dd,data:=.seq items n,slots:=sl }∧R (.ok (.ret (Value.ref s.heap.objs.size))) { s with heap:=s.heap.push { cls:=Value.type "tuple",data:=Data.seq #[] },toks:=s.toks }) :=
 .of_wp fun prog w A R s h=>by
  obtain ⟨hp,g,d,tk,os⟩:=s; obtain ⟨hl,h⟩:=h
  have f1:=PySem.AutoSeq1.idx_int
  have c1:(decide (x < -(2 ^ 63)) || decide (x ≥ 2 ^ 63)) = false:=by simp; omega
  have c2:(items.isEmpty || x == 1) = false:=by rw [hc]; simp; omega
  have c3:(decide (x ≤ 0) || items.isEmpty) = true:=by simp [hx]
  wp_walk using wpAny_loadPart' hl
  refine wpAny_ite_false (by rw [c1]; rfl) ?_
  wp_walk using wpAny_loadPart' hl
  refine wpAny_ite_false (by rw [c2]; rfl) ?_
  wp_walk using wpAny_loadPart' hl
  exact ⟨_,rfl,h⟩
theorem mul_t2 (l:Addr) (items:Array Value) (n:Nat) (dd:Option Addr) (sl:Array (Option Value)) (x:Int) (u:Tok) (h1:-(2 ^ 63) ≤ x) (h2:x < 2 ^ 63) (hc:items.isEmpty = false) (hx:1 < x) (hz:items.size * x.toNat ≤ sizeLine) :
 Meets (Builtin.«tuple.__mul__» ⟨[.ref l,.int x u],[]⟩) (fun _ R s=>s.heap.get? l = some { cls:=.type "tuple",dict:=dd,data:=.seq items n,slots:=sl }∧R (.ok (.ret (Value.ref s.heap.objs.size))) { s with heap:=s.heap.push { cls:=Value.type "tuple",data:=Data.seq (List.foldl (fun x1 x2=>x1++x2) #[] (List.replicate x.toNat items)) },toks:=s.toks }) :=
 .of_wp fun prog w A R s h=>by
  obtain ⟨hp,g,d,tk,os⟩:=s; obtain ⟨hl,h⟩:=h
  have f1:=PySem.AutoSeq1.idx_int
  have c1:(decide (x < -(2 ^ 63)) || decide (x ≥ 2 ^ 63)) = false:=by simp; omega
  have c2:(items.isEmpty || x == 1) = false:=by rw [hc]; simp; omega
  have c3:(decide (x ≤ 0) || items.isEmpty) = false:=by rw [hc]; simp; omega
  have ez:(items.size:Int) * x = ((items.size * x.toNat:Nat):Int):=by
   rw [Int.natCast_mul,Int.toNat_of_nonneg (by omega)]
  have sl4:(sizeLine:Nat) ≤ 2 ^ 24:=by decide
  have c4:¬ (items.size:Int) * x > (2 ^ 63 - 1) / 8:=by rw [ez]; omega
  have c5:Tuple.tupleTooMany ((items.size:Int) * x) = false:=by
   unfold Tuple.tupleTooMany
   rw [ez,decide_eq_false_iff_not]
   omega
  wp_walk using wpAny_loadPart' hl
  refine wpAny_ite_false (by rw [c1]; rfl) ?_
  wp_walk using wpAny_loadPart' hl
  refine wpAny_ite_false (by rw [c2]; rfl) ?_
  wp_walk using wpAny_loadPart' hl
  refine wpAny_ite_false (by rw [c3]; rfl) ?_
  wp_walk using wpAny_loadPart' hl
  rw [if_neg c4]
  wp_walk using wpAny_loadPart' hl
  refine wpAny_ite_false (by rw [c5]; rfl) ?_
  wp_walk using wpAny_loadPart' hl
  have c6:¬ (List.foldl (fun x1 x2=>x1++x2) #[] (List.replicate x.toNat items)).size > sizeLine:=by
   have f0:=foldl_rep items.toList x.toNat []
   rw [List.nil_append] at f0
   have:(List.foldl (fun x1 x2=>x1++x2) #[] (List.replicate x.toNat items)) = (List.replicate x.toNat items.toList).flatten.toArray:=f0
   rw [this,List.size_toArray,len_rep,Array.length_toList,Nat.mul_comm]
   omega
  refine wpAny_ite_false (decide_eq_false c6) ?_
  wp_walk using wpAny_loadPart' hl
  exact ⟨_,rfl,h⟩
def rRepT (K:PySem.W.Frag):R2:=fun x y H Q=>∃ a k xs,x = .ref a∧y = .int k∧SqT K H a xs∧-(2 ^ 63) ≤ k∧k < 2 ^ 63∧xs.length * k.toNat ≤ sizeLine ∧
 ((xs = []∨k = 1)→Q (.ref a) H)∧(∀ p,H p = none→Q (.ref p) (upd H p (.tup (List.replicate k.toNat xs).flatten)))
theorem op_repT {X:Cx}:OpR X (binaryOp .Mult) (rRepT X.K):=by
 intro pins s σ H x y v u Q I rx ry h
 obtain ⟨a,k,xs,rfl,rfl,ha,h1,h2,hz,q1,q2⟩:=h
 cases rx
 obtain ⟨t,rfl⟩:=ry
 obtain ⟨its,r1,p1,_⟩:=I.tuple ha
 obtain ⟨⟨cls,dd,data,sl⟩,ho,hc,n,hd⟩:=id p1
 simp only at hc hd
 subst hc hd
 have go:∀ (R:Value→Shared→Prop),wpAny (model X.prog X.w) X.A (call (.builtin "tuple.__mul__") [.ref a,.int k t]) R X.xe s→wpAny (model X.prog X.w) X.A (binaryOp .Mult (.ref a) (.int k t)) R X.xe s:=fun R z =>
  wpAny_binaryOp_repeat_ref (T:="tuple") (U:="int") (by decide) ⟨_,ho,rfl⟩ (fun s'=>typeIs_int s' k t) noFill_tuple_mul PySem.F.fills_int_mul PySem.F.slot_int_rmul repeat_tuple PySem.F.slot_int_index.lookup
   (call_meets PySem.F.slot_int_rmul (typeIs_int s k t) PySem.F.entry_int_rmul (PySem.F.args_int_rmul_2 _ _) (rmul_it k t a its.toArray n dd sl) ⟨ho,rfl,⟨_,ho,rfl⟩,z⟩)
 refine go _ ?_
 have ln:its.length = xs.length:=r1.length.symm
 by_cases c:xs = []∨k = 1
 ·refine call_meets PySem.F.slot_tuple_mul ⟨_,ho,rfl⟩ PySem.F.entry_tuple_mul (PySem.F.args_tuple_mul_2 _ _) (mul_t0 a its.toArray n dd sl k t h1 h2 ?_) ⟨ho,.ref a,H,I,rfl,q1 c⟩
  rcases c with c | c
  ·left
   have:its = []:=r1.nil_iff.mpr c
   rw [this]; rfl
  ·exact .inr c
 ·have ne:its.toArray.isEmpty = false:=by
   cases its with
   | nil=>exact absurd (.inl (r1.nil_iff.mp rfl)) c
   | cons a r=>rfl
  by_cases k0:k ≤ 0
  ·refine call_meets PySem.F.slot_tuple_mul ⟨_,ho,rfl⟩ PySem.F.entry_tuple_mul (PySem.F.args_tuple_mul_2 _ _) (mul_t1 a its.toArray n dd sl k t h1 h2 ne k0) ⟨ho,?_⟩
   have e0:k.toNat = 0:=by omega
   refine ⟨.ref s.heap.objs.size,_,I.laid (t':=s.toks) (o:=.tup (List.replicate k.toNat xs).flatten) (fun b ob q=>Heap.get?_push_of_some _ q) (Nat.le_refl _) ?_,rfl,q2 _ (I.hok.fresh (Nat.le_refl _))⟩
   rw [e0]
   exact ⟨by simp,_,.nil,FT.IsTup0.new _ _⟩
  ·have k2:1 < k:=by
    have:k ≠ 1:=fun z=>c (.inr z)
    omega
   refine call_meets PySem.F.slot_tuple_mul ⟨_,ho,rfl⟩ PySem.F.entry_tuple_mul (PySem.F.args_tuple_mul_2 _ _) (mul_t2 a its.toArray n dd sl k t h1 h2 ne k2 (by rw [List.size_toArray,ln]; exact hz)) ⟨ho,?_⟩
   refine ⟨.ref s.heap.objs.size,_,I.laid (t':=s.toks) (o:=.tup (List.replicate k.toNat xs).flatten) (fun b ob q=>Heap.get?_push_of_some _ q) (Nat.le_refl _) ?_,rfl,q2 _ (I.hok.fresh (Nat.le_refl _))⟩
   refine ⟨by rw [len_rep,Nat.mul_comm]; exact hz,_,r1.rep k.toNat,?_⟩
   have f0:=foldl_rep its k.toNat []
   rw [List.nil_append] at f0
   have e:(List.foldl (fun x1 x2=>x1++x2) #[] (List.replicate k.toNat its.toArray)) = (List.replicate k.toNat its).flatten.toArray:=f0
   rw [e]
   exact FT.IsTup0.new _ _
end L2
namespace FT
open PySem PySem.Spec PyProof.Rows L2
def fMul2:D→D→M D
 | .tup x,.int j=>if decide (-(2 ^ 63) ≤ j) && decide (j < 2 ^ 63) && decide (j.toNat * x.length ≤ sizeLine) then pure (.tup (List.replicate j.toNat x).flatten) else bad
 | x,y=>fMul x y
theorem br_mul2 {X:Cx} {EX:XX}:BR X.K EX (fun x y H Q=>(rI CMul (fun i j=>.int (i * j)) x y H Q∨rRep x y H Q)∨rRepT X.K x y H Q) fMul2:=by
 intro ρ h H x y v u Q r rx ry fin
 unfold fMul2 at fin
 split at fin
 ·rename_i ds j
  simp only [RD] at rx ry
  obtain ⟨a,xs,rfl,sq,rd⟩:=rx
  subst ry
  split at fin
  ·rename_i hc
   simp only [Bool.and_eq_true,decide_eq_true_eq] at hc
   have hl:=rd.length
   refine .inr ⟨a,j,xs,rfl,rfl,sq,hc.1.1,hc.1.2,by rw [← hl,Nat.mul_comm]; exact hc.2,fun c=>?_,fun p hp=>FE.tup fin r (rd.flat j.toNat) hp⟩
   refine FE.here fin r ?_
   simp only [RD]
   refine ⟨a,xs,rfl,sq,?_⟩
   rcases c with c | c
   ·subst c
    have:ds = []:=by simpa using hl
    subst this
    have:(List.replicate j.toNat ([]:List D)).flatten = []:=by simp
    rw [this]; exact rd
   ·subst c
    have:(List.replicate (1:Int).toNat ds).flatten = ds:=by simp
    rw [this]; exact rd
  ·exact fin.elim
 ·exact .inl (br_mul ρ h H x y v u Q r rx ry fin)
theorem se_mul2 {X:Cx} {EX:XX} {a b:Expr} {pos:Pos} {ma mb:G→M D} (ha:SE X EX a ma) (hb:SE X EX b mb):SE X EX (.BinOp a .Mult b pos) (e2 fMul2 ma mb):=se_op ((op_mul.or op_rep).or op_repT) br_mul2 ha hb
section
variable {X:Cx} {a e:Expr} {es:List Expr} {kws:List Keyword} {pos p kpos:Pos} {mr mk:G→M (List D)} {ma:G→M D} {nm:Option Str} {EX:XX}
end
end FT
namespace L2
open PySem PySem.Spec PyProof.Rows
open PySem.AutoSeq1 (wpAny_loadPart')
section
variable {prog:Program} {w:World} {A:Around} {E:Value→Shared→Prop} {s:Shared}
end
section
variable {X:Cx}
end
end L2
namespace FT
open PySem PySem.Spec PyProof.Rows L2
section
variable {X:Cx} {EX:XX} {a:Expr} {p p2 pos pos2:Pos} {ma:G→M D}
end
inductive Vw where
 | flat (d:D) | tup (xs:List D) | lst (xs:List D) | no
def vw (h:AH):D→Vw
 | .tup xs=>.tup xs
 | .fl xs=>.lst xs
 | .ref i=>match h[i]? with
  | some (.lst xs)=>.lst xs
  | _=>.no
 | d=>.flat d
def eqZ (f:D→D→Option Bool):List D→List D→Option Bool
 | [],[]=>some true
 | x :: xs,y :: ys=>match f x y,eqZ f xs ys with
  | some a,some b=>some (a && b)
  | _,_=>none
 | _,_=>some false
def eqN:Nat→AH→D→D→Option Bool
 | 0,_,_,_=>none
 | n + 1,h,x,y=>match vw h x,vw h y with
  | .flat a,.flat b=>some (eqF a b)
  | .tup xs,.tup ys=>eqZ (eqN n h) xs ys
  | .lst xs,.lst ys=>eqZ (eqN n h) xs ys
  | .no,_=>none
  | _,.no=>none
  | _,_=>some false
def eqE (f:D→D→Option Bool) (xs ys:List D) (j:Nat):Bool:=(f (xs.getD j .non) (ys.getD j .non)).getD false
theorem eqZ_spec {f:D→D→Option Bool}:∀ {xs ys:List D} {b:Bool},eqZ f xs ys = some b →
 (∀ j x y,xs[j]? = some x→ys[j]? = some y→f x y = some (eqE f xs ys j))∧b = ((List.range (min xs.length ys.length)).all (eqE f xs ys) && xs.length == ys.length)
 | [],[],b,h=>by
  unfold eqZ at h; cases h
  exact ⟨fun j x y e=>by simp at e,by simp⟩
 | [],y :: ys,b,h=>by
  unfold eqZ at h; cases h
  exact ⟨fun j x y e=>by simp at e,by simp⟩
 | x :: xs,[],b,h=>by
  unfold eqZ at h; cases h
  exact ⟨fun j x y _ e=>by simp at e,by simp⟩
 | x :: xs,y :: ys,b,h=>by
  unfold eqZ at h
  split at h
  ·rename_i a c e1 e2
   cases h
   obtain ⟨q1,q2⟩:=eqZ_spec e2
   refine ⟨fun j p q ep eq=>?_,?_⟩
   ·cases j with
    | zero=>simp at ep eq; subst ep; subst eq; unfold eqE; simp [e1]
    | succ j=>simpa [eqE] using q1 j p q (by simpa using ep) (by simpa using eq)
   ·rw [q2]
    have:min (x :: xs).length (y :: ys).length = min xs.length ys.length + 1:=by simp
    rw [this,List.range_succ_eq_map,List.all_cons,List.all_map,← Bool.and_assoc]
    congr 1
    ·unfold eqE
     simp [e1,Function.comp_def]
    ·simp
  ·cases h
section
variable {K:PySem.W.Frag} {ρ:List Addr} {h:AH} {H:Hp}
theorem vw_flat {d a:D} (e:vw h d = .flat a):a = d∧flatD d = true:=by
 cases d <;> simp [vw] at e <;> first | (subst e; exact ⟨rfl,rfl⟩) | skip
 split at e <;> cases e
theorem vw_tup {d:D} {xs:List D} {v:V} (e:vw h d = .tup xs) (r:RD K ρ H d v):∃ a vs,v = .ref a∧SqT K H a vs∧RDs K ρ H xs vs:=by
 cases d <;> simp [vw] at e
 ·subst e; simpa [RD] using r
 ·split at e <;> cases e
theorem vw_lst {d:D} {xs:List D} {v:V} (rh:RH K ρ h H) (e:vw h d = .lst xs) (r:RD K ρ H d v):∃ a vs,v = .ref a∧SqL K H a vs∧RDs K ρ H xs vs:=by
 cases d <;> simp [vw] at e
 ·subst e
  simp only [RD] at r
  obtain ⟨a,vs,h1,h2,h3⟩:=r
  exact ⟨a,vs,h1,h2.sq,h3⟩
 ·split at e
  ·rename_i i xs' ei
   cases e
   simp only [RD] at r
   obtain ⟨a,h1,h2⟩:=r
   obtain ⟨a',h3,vs,h4,h5⟩:=rh.at ei
   rw [h2] at h3; cases h3
   exact ⟨a,vs,h1,SqL.of h4,h5⟩
  ·cases e
end
section
variable {X:Cx} {pins:List (Addr × Obj)} {σ:L2.St} {ρ:List Addr} {h:AH} {H:Hp} {s:Shared}
theorem flat_no {K:PySem.W.Frag} {a:Addr}:∀ {d:D},flatD d = true→RD K ρ H d (.ref a)→False
 | .non,_,r=>by simp [RD] at r
 | .bl _,_,r=>by simp [RD] at r
 | .int _,_,r=>by simp [RD] at r
 | .str _,_,r=>by simp [RD] at r
 | .tup _,f,_=>by cases f
 | .fl _,f,_=>by cases f
 | .ref _,f,_=>by cases f
theorem eqF_self:∀ {d:D},flatD d = true→eqF d d = true
 | .non,_=>rfl
 | .bl _,_=>by simp [eqF]
 | .int _,_=>by simp [eqF]
 | .str _,_=>by simp [eqF]
 | .tup _,f=>by cases f
 | .fl _,f=>by cases f
 | .ref _,f=>by cases f
def flV:D→V
 | .bl b=>.bl b
 | .int i=>.int i
 | .str x=>.str x
 | _=>.non
theorem flat_V {K:PySem.W.Frag}:∀ {d:D} {v:V},flatD d = true→RD K ρ H d v→v = flV d
 | .non,_,_,r=>by simp only [RD] at r; exact r
 | .bl _,_,_,r=>by simp only [RD] at r; exact r
 | .int _,_,_,r=>by simp only [RD] at r; exact r
 | .str _,_,_,r=>by simp only [RD] at r; exact r
 | .tup _,_,f,_=>by cases f
 | .fl _,_,f,_=>by cases f
 | .ref _,_,f,_=>by cases f
theorem flV_inj:∀ {a b:D},flatD a = true→flatD b = true→flV a = flV b→a = b
 | .non,.non,_,_,_=>rfl
 | .bl _,.bl _,_,_,e=>by cases e; rfl
 | .int _,.int _,_,_,e=>by cases e; rfl
 | .str _,.str _,_,_,e=>by cases e; rfl
 | .non,.bl _,_,_,e=>by cases e
 | .non,.int _,_,_,e=>by cases e
 | .non,.str _,_,_,e=>by cases e
 | .bl _,.non,_,_,e=>by cases e
 | .bl _,.int _,_,_,e=>by cases e
 | .bl _,.str _,_,_,e=>by cases e
 | .int _,.non,_,_,e=>by cases e
 | .int _,.bl _,_,_,e=>by cases e
 | .int _,.str _,_,_,e=>by cases e
 | .str _,.non,_,_,e=>by cases e
 | .str _,.bl _,_,_,e=>by cases e
 | .str _,.int _,_,_,e=>by cases e
 | .tup _,_,f,_,_=>by cases f
 | .fl _,_,f,_,_=>by cases f
 | .ref _,_,f,_,_=>by cases f
 | _,.tup _,_,f,_=>by cases f
 | _,.fl _,_,f,_=>by cases f
 | _,.ref _,_,f,_=>by cases f
theorem list_inj {a:Addr} {xs ys:List V} (I:Inv X pins σ H s) (h1:SqL X.K H a xs) (h2:SqL X.K H a ys):xs = ys:=by
 obtain ⟨its,r,⟨o,n,e,_,_,d⟩,_⟩:=I.list h1
 obtain ⟨its',r',⟨o',n',e',_,_,d'⟩,_⟩:=I.list h2
 rw [e] at e'; cases e'
 rw [d] at d'
 injection d' with d1 _
 have:its = its':=by simpa using congrArg Array.toList d1
 subst this
 exact r.inj r'
theorem eqN_same (I:Inv X pins σ H s) (rh:RH X.K ρ h H):∀ (n:Nat) {d1 d2:D} {v:V} {b:Bool},RD X.K ρ H d1 v→RD X.K ρ H d2 v→eqN n h d1 d2 = some b→b = true
 | 0,d1,d2,v,b,_,_,e=>by cases e
 | n + 1,d1,d2,v,b,r1,r2,e=>by
  have elems:∀ {xs ys:List D} {vs:List V},RDs X.K ρ H xs vs→RDs X.K ρ H ys vs→eqZ (eqN n h) xs ys = some b→b = true:=fun {xs ys vs} q1 q2 z=>by
   obtain ⟨z1,z2⟩:=eqZ_spec z
   have l1:=q1.length
   have l2:=q2.length
   rw [z2,Bool.and_eq_true,List.all_eq_true]
   refine ⟨fun j hj=>?_,by simp; omega⟩
   have hj':j < xs.length:=by simp at hj; omega
   have e1:xs[j]? = some xs[j]:=List.getElem?_eq_getElem hj'
   have e2:ys[j]? = some ys[j]:=List.getElem?_eq_getElem (by omega)
   obtain ⟨w1,a1,a2⟩:=q1.get e1
   obtain ⟨w2,b1,b2⟩:=q2.get e2
   rw [a1] at b1; cases b1
   exact eqN_same I rh n a2 b2 (z1 j _ _ e1 e2)
  unfold eqN at e
  have nl:∀ {a:Addr} {vs ws:List V},SqT X.K H a vs→SqL X.K H a ws→False:=fun {a vs ws} t1 t2=>by
   obtain ⟨its,_,p1,_⟩:=I.tuple t1
   obtain ⟨its2,_,p2,_⟩:=I.list t2
   exact SeqAt.ne_of_list_tuple p2.isList (show s.heap.IsTuple a its.toArray from p1) rfl
  cases e1:vw h d1 with
  | no=>rw [e1] at e; cases e2:vw h d2 <;> rw [e2] at e <;> cases e
  | flat a =>
   rw [e1] at e
   obtain ⟨rfl,f1⟩:=vw_flat e1
   cases e2:vw h d2 with
   | no=>rw [e2] at e; cases e
   | flat c =>
    rw [e2] at e
    obtain ⟨rfl,f2⟩:=vw_flat e2
    cases e
    have:=flV_inj f1 f2 ((flat_V f1 r1).symm.trans (flat_V f2 r2))
    subst this
    exact eqF_self f1
   | tup ys=>obtain ⟨a',vs,rfl,_,_⟩:=vw_tup e2 r2; exact (flat_no f1 r1).elim
   | lst ys=>obtain ⟨a',vs,rfl,_,_⟩:=vw_lst rh e2 r2; exact (flat_no f1 r1).elim
  | tup xs =>
   rw [e1] at e
   obtain ⟨a,vs,rfl,t1,q1⟩:=vw_tup e1 r1
   cases e2:vw h d2 with
   | no=>rw [e2] at e; cases e
   | flat c=>obtain ⟨rfl,f2⟩:=vw_flat e2; exact (flat_no f2 r2).elim
   | tup ys =>
    rw [e2] at e
    obtain ⟨a',ws,ea,t2,q2⟩:=vw_tup e2 r2
    cases ea
    have:=I.tuple_inj t1 t2
    subst this
    exact elems q1 q2 e
   | lst ys =>
    obtain ⟨a',ws,ea,t2,q2⟩:=vw_lst rh e2 r2
    cases ea
    exact (nl t1 t2).elim
  | lst xs =>
   rw [e1] at e
   obtain ⟨a,vs,rfl,t1,q1⟩:=vw_lst rh e1 r1
   cases e2:vw h d2 with
   | no=>rw [e2] at e; cases e
   | flat c=>obtain ⟨rfl,f2⟩:=vw_flat e2; exact (flat_no f2 r2).elim
   | lst ys =>
    rw [e2] at e
    obtain ⟨a',ws,ea,t2,q2⟩:=vw_lst rh e2 r2
    cases ea
    have:=list_inj I t1 t2
    subst this
    exact elems q1 q2 e
   | tup ys =>
    obtain ⟨a',ws,ea,t2,q2⟩:=vw_tup e2 r2
    cases ea
    exact (nl t2 t1).elim
open SeqAt in
theorem mixT {A:Around} {u:Value} {d:D} {v:V} {K:PySem.W.Frag} {a:Addr} {its:Array Value} (f:flatD d = true) (r:RD K ρ H d v) (ru:RelV v u) (p:s.heap.IsTuple a its) (hu:A.units < cLine):EqAt A s u (.ref a) false∧EqAt A s (.ref a) u false∧RcAt A s u (.ref a) false∧RcAt A s (.ref a) u false∧RcNeAt A s u (.ref a) true∧RcNeAt A s (.ref a) u true:=by
 have:=flat_V f r
 subst this
 cases d with
 | non=>cases ru; exact ⟨.none_tuple p hu,.tuple_none p hu,.none_tuple p hu,.tuple_none p hu,.none_tuple p hu,.tuple_none p hu⟩
 | bl b=>cases ru; exact ⟨.bool_tuple b p hu,.tuple_bool b p hu,.bool_tuple b p hu,.tuple_bool b p hu,.bool_tuple b p hu,.tuple_bool b p hu⟩
 | int i=>obtain ⟨t,rfl⟩:=ru; exact ⟨.int_tuple i t p hu,.tuple_int i t p hu,.int_tuple i t p hu,.tuple_int i t p hu,.int_tuple i t p hu,.tuple_int i t p hu⟩
 | str x=>obtain ⟨t,rfl⟩:=ru; exact ⟨.str_tuple x t p hu,.tuple_str x t p hu,.str_tuple x t p hu,.tuple_str x t p hu,.str_tuple x t p hu,.tuple_str x t p hu⟩
 | tup _=>cases f
 | fl _=>cases f
 | ref _=>cases f
open SeqAt in
theorem mixL {A:Around} {u:Value} {d:D} {v:V} {K:PySem.W.Frag} {a:Addr} {its:Array Value} (f:flatD d = true) (r:RD K ρ H d v) (ru:RelV v u) (p:s.heap.IsList a its) (hu:A.units < cLine):EqAt A s u (.ref a) false∧EqAt A s (.ref a) u false∧RcAt A s u (.ref a) false∧RcAt A s (.ref a) u false∧RcNeAt A s u (.ref a) true∧RcNeAt A s (.ref a) u true:=by
 have:=flat_V f r
 subst this
 cases d with
 | non=>cases ru; exact ⟨.none_list p hu,.list_none p hu,.none_list p hu,.list_none p hu,.none_list p hu,.list_none p hu⟩
 | bl b=>cases ru; exact ⟨.bool_list b p hu,.list_bool b p hu,.bool_list b p hu,.list_bool b p hu,.bool_list b p hu,.list_bool b p hu⟩
 | int i=>obtain ⟨t,rfl⟩:=ru; exact ⟨.int_list i t p hu,.list_int i t p hu,.int_list i t p hu,.list_int i t p hu,.int_list i t p hu,.list_int i t p hu⟩
 | str x=>obtain ⟨t,rfl⟩:=ru; exact ⟨.str_list x t p hu,.list_str x t p hu,.str_list x t p hu,.list_str x t p hu,.str_list x t p hu,.list_str x t p hu⟩
 | tup _=>cases f
 | fl _=>cases f
 | ref _=>cases f
open SeqAt in
theorem flat2 {A:Around} {u1 u2:Value}:∀ (d1 d2:D),flatD d1 = true→flatD d2 = true→RelV (flV d1) u1→RelV (flV d2) u2→EqAt A s u1 u2 (eqF d1 d2)∧RcAt A s u1 u2 (eqF d1 d2)∧RcNeAt A s u1 u2 (!(eqF d1 d2))
 | .non,.non,_,_,r1,r2=>by cases r1; cases r2; exact ⟨EqAt.same _,RcAt.none_none,RcNeAt.none_none⟩
 | .non,(.bl b),_,_,r1,r2=>by cases r1; cases r2; exact ⟨EqAt.none_bool b,RcAt.none_bool b,RcNeAt.none_bool b⟩
 | .non,(.int b),_,_,r1,r2=>by cases r1; obtain ⟨t2,rfl⟩:=r2; exact ⟨EqAt.none_int b t2,RcAt.none_int b t2,RcNeAt.none_int b t2⟩
 | .non,(.str b),_,_,r1,r2=>by cases r1; obtain ⟨t2,rfl⟩:=r2; exact ⟨EqAt.none_str b t2,RcAt.none_str b t2,RcNeAt.none_str b t2⟩
 | (.bl a),.non,_,_,r1,r2=>by cases r1; cases r2; exact ⟨EqAt.bool_none a,RcAt.bool_none a,RcNeAt.bool_none a⟩
 | (.bl a),(.bl b),_,_,r1,r2=>by cases r1; cases r2; exact ⟨EqAt.bool_bool a b,RcAt.bool_bool a b,RcNeAt.bool_bool a b⟩
 | (.bl a),(.int b),_,_,r1,r2=>by cases r1; obtain ⟨t2,rfl⟩:=r2; exact ⟨EqAt.bool_int a b t2,RcAt.bool_int a b t2,RcNeAt.bool_int a b t2⟩
 | (.bl a),(.str b),_,_,r1,r2=>by cases r1; obtain ⟨t2,rfl⟩:=r2; exact ⟨EqAt.bool_str a b t2,RcAt.bool_str a b t2,RcNeAt.bool_str a b t2⟩
 | (.int a),.non,_,_,r1,r2=>by obtain ⟨t1,rfl⟩:=r1; cases r2; exact ⟨EqAt.int_none a t1,RcAt.int_none a t1,RcNeAt.int_none a t1⟩
 | (.int a),(.bl b),_,_,r1,r2=>by obtain ⟨t1,rfl⟩:=r1; cases r2; exact ⟨EqAt.int_bool a t1 b,RcAt.int_bool a t1 b,RcNeAt.int_bool a t1 b⟩
 | (.int a),(.int b),_,_,r1,r2=>by obtain ⟨t1,rfl⟩:=r1; obtain ⟨t2,rfl⟩:=r2; exact ⟨EqAt.int_int a t1 b t2,RcAt.int_int a t1 b t2,RcNeAt.int_int a t1 b t2⟩
 | (.int a),(.str b),_,_,r1,r2=>by obtain ⟨t1,rfl⟩:=r1; obtain ⟨t2,rfl⟩:=r2; exact ⟨EqAt.int_str a t1 b t2,RcAt.int_str a t1 b t2,RcNeAt.int_str a t1 b t2⟩
 | (.str a),.non,_,_,r1,r2=>by obtain ⟨t1,rfl⟩:=r1; cases r2; exact ⟨EqAt.str_none a t1,RcAt.str_none a t1,RcNeAt.str_none a t1⟩
 | (.str a),(.bl b),_,_,r1,r2=>by obtain ⟨t1,rfl⟩:=r1; cases r2; exact ⟨EqAt.str_bool a t1 b,RcAt.str_bool a t1 b,RcNeAt.str_bool a t1 b⟩
 | (.str a),(.int b),_,_,r1,r2=>by obtain ⟨t1,rfl⟩:=r1; obtain ⟨t2,rfl⟩:=r2; exact ⟨EqAt.str_int a t1 b t2,RcAt.str_int a t1 b t2,RcNeAt.str_int a t1 b t2⟩
 | (.str a),(.str b),_,_,r1,r2=>by obtain ⟨t1,rfl⟩:=r1; obtain ⟨t2,rfl⟩:=r2; exact ⟨EqAt.str_str a t1 b t2,RcAt.str_str a t1 b t2,RcNeAt.str_str a t1 b t2⟩
 | .tup _,_,f,_,_,_=>by cases f
 | .fl _,_,f,_,_,_=>by cases f
 | .ref _,_,f,_,_,_=>by cases f
 | _,.tup _,_,f,_,_=>by cases f
 | _,.fl _,_,f,_,_=>by cases f
 | _,.ref _,_,f,_,_=>by cases f
open SeqAt in
theorem deq (I:Inv X pins σ H s) (rh:RH X.K ρ h H):∀ (n:Nat) {A:Around} {d1 d2:D} {v1 v2:V} {u1 u2:Value} {b:Bool},A.units + n < cLine→RD X.K ρ H d1 v1→RD X.K ρ H d2 v2→RelV v1 u1→RelV v2 u2→eqN n h d1 d2 = some b→EqAt A s u1 u2 b∧RcAt A s u1 u2 b∧RcNeAt A s u1 u2 (!b)
 | 0,A,d1,d2,v1,v2,u1,u2,b,_,_,_,_,_,e=>by cases e
 | n + 1,A,d1,d2,v1,v2,u1,u2,b,hA,r1,r2,w1,w2,e=>by
  have hu:A.units < cLine:=by omega
  have e0:=e
  unfold eqN at e
  have elems:∀ {xs ys:List D} {vs ws:List V} {its its2:List Value},RDs X.K ρ H xs vs→RDs X.K ρ H ys ws→Vals vs its→Vals ws its2→eqZ (eqN n h) xs ys = some b →
   (∀ j (h1:j < its.toArray.size) (h2:j < its2.toArray.size),EqAt A.in1 s its.toArray[j] its2.toArray[j] (eqE (eqN n h) xs ys j))∧b = ((List.range (min its.toArray.size its2.toArray.size)).all (eqE (eqN n h) xs ys) && its.toArray.size == its2.toArray.size):=fun {xs ys vs ws its its2} q1 q2 a1 a2 z=>by
   obtain ⟨z1,z2⟩:=eqZ_spec z
   have l1:=q1.length
   have l2:=q2.length
   have l3:=a1.length
   have l4:=a2.length
   refine ⟨fun j h1 h2=>?_,by rw [z2,List.size_toArray,List.size_toArray,← l3,← l4,← l1,← l2]⟩
   have j1:j < xs.length:=by rw [List.size_toArray] at h1; omega
   have j2:j < ys.length:=by rw [List.size_toArray] at h2; omega
   have e1:xs[j]? = some xs[j]:=List.getElem?_eq_getElem j1
   have e2:ys[j]? = some ys[j]:=List.getElem?_eq_getElem j2
   obtain ⟨x1,b1,c1⟩:=q1.get e1
   obtain ⟨x2,b2,c2⟩:=q2.get e2
   obtain ⟨y1,b3,c3⟩:=a1.get b1
   obtain ⟨y2,b4,c4⟩:=a2.get b2
   have g1:its.toArray[j] = y1:=by
    have:=List.getElem?_eq_getElem (l:=its) (i:=j) (by simpa using h1)
    rw [b3] at this
    simpa using (Option.some.inj this).symm
   have g2:its2.toArray[j] = y2:=by
    have:=List.getElem?_eq_getElem (l:=its2) (i:=j) (by simpa using h2)
    rw [b4] at this
    simpa using (Option.some.inj this).symm
   rw [g1,g2]
   exact (deq I rh n (A:=A.in1) (show A.units + 1 + n < cLine by omega) c1 c2 c3 c4 (z1 j _ _ e1 e2)).1
  have same:∀ {a a':Addr},v1 = .ref a→v2 = .ref a'→a = a'→b = true:=fun {a a'} x y z=>by
   subst z
   rw [x] at r1
   rw [y] at r2
   exact eqN_same I rh (n + 1) r1 r2 e0
  cases e1:vw h d1 with
  | no=>rw [e1] at e; cases e2:vw h d2 <;> rw [e2] at e <;> cases e
  | flat a =>
   rw [e1] at e
   obtain ⟨rfl,f1⟩:=vw_flat e1
   cases e2:vw h d2 with
   | no=>rw [e2] at e; cases e
   | flat c =>
    rw [e2] at e
    obtain ⟨rfl,f2⟩:=vw_flat e2
    cases e
    rw [flat_V f1 r1] at w1
    rw [flat_V f2 r2] at w2
    exact flat2 a c f1 f2 w1 w2
   | tup ys =>
    rw [e2] at e
    cases e
    obtain ⟨a',vs,rfl,t2,_⟩:=vw_tup e2 r2
    cases w2
    obtain ⟨its,_,p,_⟩:=I.tuple t2
    obtain ⟨m1,_,m3,_,m5,_⟩:=mixT (s:=s) f1 r1 w1 (show s.heap.IsTuple a' its.toArray from p) hu
    exact ⟨m1,m3,m5⟩
   | lst ys =>
    rw [e2] at e
    cases e
    obtain ⟨a',vs,rfl,t2,_⟩:=vw_lst rh e2 r2
    cases w2
    obtain ⟨its,_,p,_⟩:=I.list t2
    obtain ⟨m1,_,m3,_,m5,_⟩:=mixL (s:=s) f1 r1 w1 p.isList hu
    exact ⟨m1,m3,m5⟩
  | tup xs =>
   rw [e1] at e
   obtain ⟨a,vs,rfl,t1,q1⟩:=vw_tup e1 r1
   cases w1
   obtain ⟨its,x1,p1,_⟩:=I.tuple t1
   have p1:s.heap.IsTuple a its.toArray:=p1
   cases e2:vw h d2 with
   | no=>rw [e2] at e; cases e
   | flat c =>
    rw [e2] at e
    cases e
    obtain ⟨rfl,f2⟩:=vw_flat e2
    obtain ⟨_,m2,_,m4,_,m6⟩:=mixT (s:=s) f2 r2 w2 p1 hu
    exact ⟨m2,m4,m6⟩
   | tup ys =>
    rw [e2] at e
    obtain ⟨a',ws,rfl,t2,q2⟩:=vw_tup e2 r2
    cases w2
    obtain ⟨its2,x2,p2,_⟩:=I.tuple t2
    have p2:s.heap.IsTuple a' its2.toArray:=p2
    obtain ⟨g1,g2⟩:=elems q1 q2 x1 x2 e
    have rc:=RcAt.tuples p1 p2 hu g1
    have rn:=RcNeAt.tuples p1 p2 hu g1
    rw [← g2] at rc rn
    refine ⟨?_,rc,rn⟩
    by_cases ea:a = a'
    ·rw [same rfl rfl ea]
     subst ea
     exact EqAt.same _
    ·exact EqAt.of_refs ea rc
   | lst ys =>
    rw [e2] at e
    cases e
    obtain ⟨a',ws,rfl,t2,q2⟩:=vw_lst rh e2 r2
    cases w2
    obtain ⟨its2,x2,p2,_⟩:=I.list t2
    exact ⟨EqAt.tuple_list p1 p2.isList hu,RcAt.tuple_list p1 p2.isList hu,RcNeAt.tuple_list p1 p2.isList hu⟩
  | lst xs =>
   rw [e1] at e
   obtain ⟨a,vs,rfl,t1,q1⟩:=vw_lst rh e1 r1
   cases w1
   obtain ⟨its,x1,p1,_⟩:=I.list t1
   cases e2:vw h d2 with
   | no=>rw [e2] at e; cases e
   | flat c =>
    rw [e2] at e
    cases e
    obtain ⟨rfl,f2⟩:=vw_flat e2
    obtain ⟨_,m2,_,m4,_,m6⟩:=mixL (s:=s) f2 r2 w2 p1.isList hu
    exact ⟨m2,m4,m6⟩
   | tup ys =>
    rw [e2] at e
    cases e
    obtain ⟨a',ws,rfl,t2,q2⟩:=vw_tup e2 r2
    cases w2
    obtain ⟨its2,x2,p2,_⟩:=I.tuple t2
    exact ⟨EqAt.list_tuple p1.isList p2 hu,RcAt.list_tuple p1.isList p2 hu,RcNeAt.list_tuple p1.isList p2 hu⟩
   | lst ys =>
    rw [e2] at e
    obtain ⟨a',ws,rfl,t2,q2⟩:=vw_lst rh e2 r2
    cases w2
    obtain ⟨its2,x2,p2,_⟩:=I.list t2
    obtain ⟨g1,g2⟩:=elems q1 q2 x1 x2 e
    have both:RcAt A s (.ref a) (.ref a') b∧RcNeAt A s (.ref a) (.ref a') (!b):=by
     by_cases hz:its.toArray.size = its2.toArray.size
     ·have:b = (List.range its.toArray.size).all (eqE (eqN n h) xs ys):=by rw [g2,← hz,Nat.min_self]; simp
      rw [this]
      exact ⟨RcAt.lists p1.isList p2.isList hz hu g1,RcNeAt.lists p1.isList p2.isList hz hu g1⟩
     ·have:b = false:=by
       rw [g2,Bool.and_eq_false_iff]
       right
       simpa using hz
      rw [this]
      exact ⟨RcAt.lists_lengths p1.isList p2.isList (by simpa using hz) hu,RcNeAt.lists_lengths p1.isList p2.isList (by simpa using hz) hu⟩
    refine ⟨?_,both⟩
    by_cases ea:a = a'
    ·rw [same rfl rfl ea]
     subst ea
     exact EqAt.same _
    ·exact EqAt.of_refs ea both.1
end
def fEqX (neg:Bool):D→D→M D:=fun x y h=>match eqN 24 h x y with
 | some b=>.ok (.bl (b != neg)) h
 | none=>.bad
def rEqX (K:PySem.W.Frag) (neg:Bool):R2:=fun x y H Q=>∃ ρ h d1 d2 b,RH K ρ h H∧RD K ρ H d1 x∧RD K ρ H d2 y∧eqN 24 h d1 d2 = some b∧Q (.bl (b != neg)) H
section
variable {X:Cx} {EX:XX}
theorem op_eqX (hu:X.A.units + 30 < cLine):OpR X (compareOp .Eq) (rEqX X.K false):=by
 intro pins s σ H x y v u Q I rx ry h
 obtain ⟨ρ,h,d1,d2,b,rh,r1,r2,e,q⟩:=h
 rw [Bool.bne_false] at q
 exact (deq I rh 24 (A:=X.A) (by omega) r1 r2 rx ry e).2.1 X.prog X.w X.xe (EP X pins σ Q) ⟨.bl b,H,I,rfl,q⟩
theorem op_neX (hu:X.A.units + 30 < cLine):OpR X (compareOp .NotEq) (rEqX X.K true):=by
 intro pins s σ H x y v u Q I rx ry h
 obtain ⟨ρ,h,d1,d2,b,rh,r1,r2,e,q⟩:=h
 rw [Bool.bne_true] at q
 exact (deq I rh 24 (A:=X.A) (by omega) r1 r2 rx ry e).2.2 X.prog X.w X.xe (EP X pins σ Q) ⟨.bl (!b),H,I,rfl,q⟩
theorem br_eqX {neg:Bool}:BR X.K EX (rEqX X.K neg) (fEqX neg):=by
 intro ρ h H x y v u Q r rx ry fin
 unfold fEqX at fin
 cases e:eqN 24 h x y with
 | none=>rw [e] at fin; exact fin.elim
 | some b=>rw [e] at fin; exact ⟨ρ,h,x,y,b,r,rx,ry,e,FE.here fin r (by simp [RD])⟩
theorem co_eqX (hu:X.A.units + 30 < cLine):CO X EX .Eq (fEqX false):=⟨_,op_eqX hu,br_eqX⟩
theorem co_neX (hu:X.A.units + 30 < cLine):CO X EX .NotEq (fEqX true):=⟨_,op_neX hu,br_eqX⟩
theorem hu30 {A:Around} {k:Nat} (hr:Room k A):A.units + 30 < cLine:=Nat.lt_of_le_of_lt (Nat.add_le_add_left (by decide:30 ≤ 64) _) hr.units
end
variable {α β:Type}
theorem bindP (a:α) (f:α→M β):((Pure.pure a:M α) >>= f) = f a:=by funext h; rfl
theorem W_eq {m:M α} {v:α} {h:AH} {Q:α→AH→Prop} (e:m = pure v) (q:Q v h):W m h Q:=by rw [e,W_pure]; exact q
theorem W_new {xs:List D} {h:AH} {Q:D→AH→Prop} (hl:xs.length ≤ 1000000) (q:Q (.ref h.length) (h++[.lst xs])):W (newL xs) h Q :=
 ⟨_,_,by unfold newL; rw [if_pos (Nat.le_trans hl (by decide))],q⟩
mutual
theorem refLt_up {m n:Nat} (h:m ≤ n):∀ {d:D},refLt m d = true→refLt n d = true
 | .non,_=>rfl
 | .bl _,_=>rfl
 | .int _,_=>rfl
 | .str _,_=>rfl
 | .tup ds,c=>by simp only [refLt] at c ⊢; exact refLts_up h c
 | .fl ds,c=>by simp only [refLt] at c ⊢; exact refLts_up h c
 | .ref i,c=>by simp only [refLt,decide_eq_true_eq] at c ⊢; omega
theorem refLts_up {m n:Nat} (h:m ≤ n):∀ {d:List D},refLts m d = true→refLts n d = true
 | [],_=>rfl
 | d :: r,c=>by simp only [refLts,Bool.and_eq_true] at c ⊢; exact ⟨refLt_up h c.1,refLts_up h c.2⟩
end
theorem refLts_all {n:Nat}:∀ {xs:List D},(∀ x ∈ xs,refLt n x = true)→refLts n xs = true
 | [],_=>rfl
 | x :: r,h=>by simp only [refLts,Bool.and_eq_true]; exact ⟨h x (by simp),refLts_all fun y hy=>h y (by simp [hy])⟩
theorem refLts_map {n:Nat} {ι:Type} {f:ι→D} {l:List ι} (h:∀ a,refLt n (f a) = true):refLts n (l.map f) = true:=refLts_all fun x hx=>by
 obtain ⟨a,_,rfl⟩:=List.mem_map.mp hx
 exact h a
theorem cln_of {m:M D} {h:AH} {d:D} {j:AH} (e:m h = .ok d (h++j)) (c:refLt h.length d = true):cln m h = .ok d h:=by
 unfold cln
 rw [e]
 dsimp only
 rw [if_pos ⟨by simp,kept_app _ _⟩,if_pos c]
 simp
theorem cln_ref {m:M D} {h:AH} {i:Nat} {xs:List D} {j:AH} (e:m h = .ok (.ref i) (h++j)) (hi:h.length ≤ i) (ei:(h++j)[i]? = some (.lst xs)) (c:refLts h.length xs = true):cln m h = .ok (.ref h.length) (h++[.lst xs]):=by
 unfold cln
 rw [e]
 dsimp only
 rw [if_pos ⟨by simp,kept_app _ _⟩,if_neg (by simp only [refLt,decide_eq_true_eq]; omega),ei]
 dsimp only
 rw [if_pos (show refO h.length (.lst xs) = true from c)]
 simp
theorem cln_pure (d:D):cln (pure d) = pure d:=funext fun h=>by
 unfold cln
 rw [pureM]
 dsimp only
 rw [if_pos ⟨Nat.le_refl _,fun _ _ _ e=>.inl e⟩]
 split
 ·simp
 ·rename_i nd
  split
  ·rename_i i
   simp only [refLt,decide_eq_true_eq] at nd
   rw [List.getElem?_eq_none (by omega)]
  ·rfl
theorem cln_W {m:M D} {v:D} (c:refLt 0 v = true) (z:∀ h,W m h fun a h'=>a = v∧∃ j,h' = h++j):cln m = pure v:=funext fun h=>by
 obtain ⟨a,h',e,rfl,j,rfl⟩:=z h
 exact cln_of e (refLt_up (Nat.zero_le _) c)
theorem clT_of {m:G→M Bool} {γ:G} {h:AH} {d:Bool} {j:AH} (e:m γ h = .ok d (h++j)):clT m γ h = .ok d h:=by
 unfold clT
 rw [e]
 dsimp only
 rw [if_pos ⟨by simp,kept_app _ _⟩]
 simp
theorem comp_eqh {cap:List (Option Nat)} {mi:G→M Src} {g:D→G→M G} {k:G→M Bool} {me:G→M D} {γ:G} {src:Src} {h:AH} (p:D→Bool) (f:D→D) (hi:mi γ h = .ok src h) (hg:∀ j,src.good (h++j)) (hl:src.items.length ≤ 1000000)
 (hd:∀ d ∈ src.items,∃ γ1,g d (capG cap γ) = pure γ1∧k γ1 = pure (p d)∧(p d = true→me γ1 = pure (f d))):eComp cap mi g k me γ h = newL ((src.items.filter p).map f) h:=by
 rw [comp_px p f hi hg hl fun d m=>let ⟨γ1,e1,e2,e3⟩:=hd d m; ⟨γ1,fun h=>by rw [e1]; rfl,fun j=>by rw [e2]; rfl,fun q j=>by rw [e3 q]; rfl⟩]
 unfold newL
 rw [if_pos]
 refine Nat.le_trans ?_ (show 1000000 ≤ sizeLine by decide)
 rw [List.length_map]
 exact Nat.le_trans (List.length_filter_le _ _) hl
theorem runF_rt {n:Nat} {mb:G→M Out} {ds:List D} {d:D} (e:mb (startG n ds) = pure (.rt d)):runF n mb ds = pure d:=by unfold runF; rw [e]; rfl
theorem ix0 {a:D} {r:List D}:fIx (.tup (a :: r)) (.int 0) = pure a:=ix_tup (by simp [atI,ixN])
theorem size2:((2:Nat) ≤ sizeLine) = True:=by simp [sizeLine]
end FT
namespace FT
open PySem PySem.Spec PyProof.Rows L2
structure SQ (st:List (List Nat)):Prop where
 l1:1 ≤ st.length
 l2:st.length ≤ 40
 s2:∀ l ∈ st,∀ x ∈ l,x < st.length
def nx (st:List (List Nat)) (a:Nat):List Nat:=(st[a]?).getD []
inductive Rch (st:List (List Nat)) (x:Nat):Nat→Prop
 | here:Rch st x x
 | step {a b:Nat}:Rch st x a→b ∈ nx st a→Rch st x b
theorem sts_len (st:List (List Nat)):(stsD st).length = st.length:=by unfold stsD; simp
theorem st_row {st:List (List Nat)} {a:Nat} (ha:a < st.length):atI (stsD st) (a:Int) = some (.tup (stD (nx st a))):=by
 refine atI_nat ?_
 unfold stsD nx
 rw [List.getElem?_map,List.getElem?_eq_getElem ha]
 rfl
theorem ix_ma0 {st:List (List Nat)} {mk:List (List Str)}:fIx (maD st mk) (.int 0) = pure (.tup (stsD st)):=ix_tup rfl
theorem ix_row {st:List (List Nat)} {a:Nat} (ha:a < st.length):fIx (.tup (stsD st)) (.int a) = pure (.tup (stD (nx st a))):=ix_tup (st_row ha)
theorem flat_st:∀ l:List Nat,(stD l).all flatD = true
 | []=>rfl
 | _ :: l=>flat_st l
theorem any_st (x:Nat):∀ l:List Nat,((stD l).any fun z=>eqF z (.int x)) = decide (x ∈ l)
 | []=>by simp [stD]
 | b :: l=>by
  rw [show stD (b :: l) = .int b :: stD l from rfl,List.any_cons,any_st x l]
  simp only [eqF]
  rw [Bool.eq_iff_iff]
  simp only [Bool.or_eq_true,beq_iff_eq,decide_eq_true_eq,List.mem_cons]
  constructor
  ·rintro (h | h)
   ·left; omega
   ·exact .inr h
  ·rintro (h | h)
   ·left; omega
   ·exact .inr h
theorem in_st {x:Nat} {l:List Nat} {neg:Bool}:fIn neg (.int x) (.tup (stD l)) = pure (.bl (decide (x ∈ l) != neg)):=by
 unfold fIn seqD
 show (if flatD (.int x) && (stD l).all flatD then _ else _) = _
 rw [flat_st,any_st]
 rfl
def whoTo (st:List (List Nat)) (x:Nat):List Nat:=(List.range st.length).filter fun i=>decide (x ∈ nx st i)
theorem st_len (l:List Nat):(stD l).length = l.length:=by unfold stD; simp
theorem rise_len {l:List Nat} {n:Nat} (hl:l.Pairwise (· < ·)) (hm:∀ x ∈ l,x < n):l.length ≤ n:=by
 have nd:l.Nodup:=List.Pairwise.imp (fun h=>Nat.ne_of_lt h) hl
 have:=nd.length_le_of_subset (l₂:=List.range n) (fun x hx=>List.mem_range.mpr (hm x hx))
 rwa [List.length_range] at this
def zN (l:List Nat):List Int:=l.map fun (i:Nat)=>(i:Int)
def kN (l:List Nat):List Key:=l.map fun (i:Nat)=>.inl (i:Int)
def sortN (l:List Nat):List Nat:=(sortI (zN l)).map Int.toNat
theorem ints_kN:∀ l:List Nat,intsK (kN l) = some (zN l)
 | []=>rfl
 | a :: l=>by
  show (intsK (kN l)).map _ = _
  rw [ints_kN l]
  rfl
theorem nums_stD:∀ l:List Nat,numsD (stD l) = some (zN l)
 | []=>rfl
 | a :: l=>by
  show (numsD (stD l)).map _ = _
  rw [nums_stD l]
  rfl
theorem sortN_int (l:List Nat):(sortI (zN l)).map D.int = stD (sortN l):=by
 unfold sortN stD
 rw [List.map_map]
 refine List.map_congr_left fun a ha=>?_
 have:a ∈ zN l:=(sortI_perm _).mem_iff.mp ha
 obtain ⟨i,_,rfl⟩:=List.mem_map.mp this
 rfl
theorem sortN_perm (l:List Nat):(sortN l).Perm l:=by
 have:=(sortI_perm (zN l)).map Int.toNat
 refine this.trans ?_
 unfold zN
 rw [List.map_map]
 rw [show (Int.toNat ∘ fun (i:Nat)=>(i:Int)) = id from funext fun i=>rfl,List.map_id]
theorem sortN_rise {l:List Nat} (nd:l.Nodup):(sortN l).Pairwise (· < ·):=by
 have s:(sortN l).Pairwise (· ≤ ·):=by
  unfold sortN
  rw [List.pairwise_map]
  exact (sortI_pw _).imp fun {a b} h=>by omega
 have n:(sortN l).Nodup:=(sortN_perm l).nodup_iff.mpr nd
 exact (List.Pairwise.and s n).imp fun {a b} q=>by omega
theorem sortN_mem {l:List Nat} {x:Nat}:x ∈ sortN l ↔ x ∈ l:=(sortN_perm l).mem_iff
theorem sortN_len (l:List Nat):(sortN l).length = l.length:=(sortN_perm l).length_eq
theorem kN_mem {l:List Nat} {x:Nat}:(Sum.inl (x:Int):Key) ∈ kN l ↔ x ∈ l:=by
 unfold kN
 constructor
 ·intro h
  obtain ⟨i,hi,e⟩:=List.mem_map.mp h
  have:i = x:=by have:=Sum.inl.inj e; omega
  exact this ▸ hi
 ·exact fun h=>List.mem_map.mpr ⟨x,h,rfl⟩
theorem kN_len (l:List Nat):(kN l).length = l.length:=by unfold kN; simp
theorem put_kN {l:List Nat} {x:Nat} (h:x ∉ l):putK (kN l) (.inl (x:Int)) = kN (l++[x]):=by
 unfold putK
 rw [if_neg (fun q=>h (kN_mem.mp q))]
 unfold kN
 simp
theorem nodup_len {S:List Nat} {n:Nat} (nd:S.Nodup) (hm:∀ x ∈ S,x < n):S.length ≤ n:=by
 have:=nd.length_le_of_subset (l₂:=List.range n) (fun x hx=>List.mem_range.mpr (hm x hx))
 rwa [List.length_range] at this
theorem nodup_put {S:List Nat} {x:Nat} (nd:S.Nodup) (h:x ∉ S):(S++[x]).Nodup:=by
 rw [List.nodup_append]
 refine ⟨nd,by simp,fun a ha b hb=>?_⟩
 simp at hb
 subst hb
 exact fun e=>h (e ▸ ha)
theorem st_snoc (l:List Nat) (x:Nat):stD l++[.int x] = stD (l++[x]):=by unfold stD; simp
theorem st_get {l:List Nat} {i:Nat} {d:D} (h:(stD l)[i]? = some d):∃ b:Nat,d = .int b∧l[i]? = some b:=by
 unfold stD at h
 rw [List.getElem?_map] at h
 obtain ⟨b,e1,e2⟩:=Option.map_eq_some_iff.mp h
 exact ⟨b,e2.symm,e1⟩
theorem comp_eqg {cap:List (Option Nat)} {mi:G→M Src} {g:D→G→M G} {k:G→M Bool} {me:G→M D} {γ:G} {src:Src} {h h1:AH} (p:D→Bool) (f:D→D) (hi:mi γ h = .ok src h1) (hg:∀ j,src.good (h1++j)) (hl:src.items.length ≤ 1000000)
 (hd:∀ d ∈ src.items,∃ γ1,g d (capG cap γ) = pure γ1∧k γ1 = pure (p d)∧(p d = true→me γ1 = pure (f d))):eComp cap mi g k me γ h = newL ((src.items.filter p).map f) h1:=by
 rw [← comp_eqh (mi:=fun _=>pure src) (cap:=cap) (γ:=γ) p f rfl hg hl hd]
 unfold eComp
 rw [M.bind_ok hi]
 rfl
section
variable {ma:G→M D} {g:D→G→M G} {k:G→M Bool} {ms mr mt:G→M Out} {γ γ':G} {h h1:AH} {d:D} {b:Bool} {Q:Out→AH→Prop}
theorem q_set (d:D) (γ':G) (e:ma γ = pure d) (eg:g d γ = pure γ') (z:W (mt γ') h Q):W (bCons (sAsg ma g) mt γ) h Q:=by
 rw [w_cons]; unfold sAsg; rw [e,bindP,eg,bindP,W_pure]; exact z
theorem q_seth (d:D) (γ':G) (e:ma γ h = .ok d h1) (eg:g d γ = pure γ') (z:W (mt γ') h1 Q):W (bCons (sAsg ma g) mt γ) h Q:=by
 rw [w_cons]; unfold sAsg; rw [W_bind]; refine W.of e ?_; rw [eg,bindP,W_pure]; exact z
theorem q_setw {i:Nat} (z:W (ma γ) h fun d h1=>W (mt (γ.set i (some d))) h1 Q):W (bCons (sAsg ma (gN i)) mt γ) h Q:=by
 rw [w_cons]; unfold sAsg gN; rw [W_bind]; refine z.mono fun d h1 q=>?_; rw [bindP,W_pure]; exact q
theorem q_if (b:Bool) (e:k γ = pure b) (z:W (bCons (if b = true then ms else mr) mt γ) h Q):W (bCons (sIf k ms mr) mt γ) h Q:=by
 rw [w_cons] at z ⊢; unfold sIf; rw [e,bindP]
 cases b <;> exact z
theorem q_ifh (b:Bool) (e:k γ h = .ok b h) (z:W (bCons (if b = true then ms else mr) mt γ) h Q):W (bCons (sIf k ms mr) mt γ) h Q:=by
 rw [w_cons] at z ⊢; unfold sIf; rw [W_bind]; refine W.of e ?_
 cases b <;> exact z
theorem q_ifw (z:W (k γ) h fun b h1=>W (bCons (if b = true then ms else mr) mt γ) h1 Q):W (bCons (sIf k ms mr) mt γ) h Q:=by
 rw [w_cons]; unfold sIf; rw [W_bind]; refine z.mono fun b h1 q=>?_
 rw [w_cons] at q
 cases b <;> exact q
theorem q_ret (d:D) (e:ma γ = pure d) (z:Q (.rt d) h):W (bCons (sRet ma) mt γ) h Q:=by
 rw [w_cons]; unfold sRet; rw [e,bindP,W_pure]; exact z
theorem q_reth (d:D) (e:ma γ h = .ok d h1) (z:Q (.rt d) h1):W (bCons (sRet ma) mt γ) h Q:=by
 rw [w_cons]; unfold sRet; rw [W_bind]; refine W.of e ?_; rw [W_pure]; exact z
theorem q_retw (z:W (ma γ) h fun d h1=>Q (.rt d) h1):W (bCons (sRet ma) mt γ) h Q:=by
 rw [w_cons]; unfold sRet; rw [W_bind]; refine z.mono fun d h1 q=>?_; rw [W_pure]; exact q
theorem q_expr (z:W (ma γ) h fun d h1=>W (mt γ) h1 Q):W (bCons (sExpr ma) mt γ) h Q:=by
 rw [w_cons]; unfold sExpr; rw [W_bind]; refine z.mono fun d h1 q=>?_; rw [W_pure]; exact q
theorem q_nil (z:W (mt γ) h Q):W (bCons bNil mt γ) h Q:=by rw [w_cons,w_nil]; exact z
theorem q_done {Q:Out→AH→Prop} (z:Q (.nx γ) h):W (bNil γ) h Q:=by rw [w_nil]; exact z
theorem candh_t {l:G→M Bool} (e:k γ h = .ok true h):cAnd k l γ h = l γ h:=by unfold cAnd; rw [M.bind_ok e]; rfl
theorem candh_f {l:G→M Bool} (e:k γ h = .ok false h):cAnd k l γ h = .ok false h:=by unfold cAnd; rw [M.bind_ok e]; rfl
theorem corh_f {l:G→M Bool} (e:k γ h = .ok false h):cOr k l γ h = l γ h:=by unfold cOr; rw [M.bind_ok e]; rfl
theorem p_ret (d:D) (e:ma γ = pure d):bCons (sRet ma) mt γ = pure (.rt d):=by
 unfold bCons sRet; rw [e,bindP,bindP]
theorem q_blk {ms1 ms2:G→M Out} (z:W (bCons ms1 (bCons ms2 mt) γ) h Q):W (bCons (bCons ms1 ms2) mt γ) h Q:=by
 rw [w_cons] at z ⊢
 rw [w_cons]
 refine z.mono fun o h1 q=>?_
 cases o with
 | nx γ=>exact w_cons.mp q
 | rt d=>exact q
 | bk d=>exact q
 | ct d=>exact q
end
theorem eqX_nil {mc:G→M D} {γ:G} {h h1:AH} {xs:List D} {neg:Bool} (e:mc γ h = newL xs h1) (hl:xs.length ≤ 1000000):e2 (fEqX neg) mc (eLst aNil) γ h = .ok (.bl (xs.isEmpty != neg)) (h1++[.lst xs]++[.lst []]):=by
 have e':mc γ h = .ok (.ref h1.length) (h1++[.lst xs]):=by rw [e]; unfold newL; rw [if_pos (Nat.le_trans hl (by decide))]
 show (mc γ >>= _) h = _
 rw [M.bind_ok e']
 have e2':eLst aNil γ (h1++[.lst xs]) = .ok (.ref (h1++[O.lst xs]).length) (h1++[.lst xs]++[.lst []]):=by
  unfold eLst aNil newL
  simp
 rw [M.bind_ok e2']
 have v1:vw (h1++[O.lst xs]++[O.lst []]) (.ref h1.length) = .lst xs:=by unfold vw; simp
 have v2:vw (h1++[O.lst xs]++[O.lst []]) (.ref (h1++[O.lst xs]).length) = .lst []:=by unfold vw; simp
 unfold fEqX eqN
 rw [v1,v2]
 cases xs <;> rfl
theorem ctX_nil {mc:G→M D} {γ:G} {h j:AH} {xs:List D} {neg:Bool} (e:mc γ h = newL xs (h++j)) (hl:xs.length ≤ 1000000):clT (fun γ=>do let d ← e2 (fEqX neg) mc (eLst aNil) γ; asB d) γ h = .ok (xs.isEmpty != neg) h :=
 clT_of (j:=j++([.lst xs]++[.lst []])) (by rw [M.bind_ok (eqX_nil e hl)]; simp [asB])
def rp (n:Nat) (l:List Nat):List Nat:=(List.replicate n l).flatten
theorem mod_nn {a b:Nat} (hb:0 < b):fMod (.int (a:Nat)) (.int (b:Nat)) = pure (.int (a % b:Nat)):=by
 rw [mod_ii (show (0:Int) < b by omega),Int.natCast_emod]
def CL (r:AH):Prop:=True
theorem CL.nil:CL []:=trivial
theorem CL.app {r j:AH} (a:CL r) (b:CL j):CL (r++j):=trivial
theorem CL.one {xs:List D} (h:refLts 3 xs = true):CL [.lst xs]:=trivial
theorem CL.put {r:AH} {xs:List D} (a:CL r) (h:refLts 3 xs = true):CL (r++[.lst xs]):=a.app (.one h)
theorem refs_strs {n:Nat} (l:List Str):refLts n (l.map .str) = true:=refLts_map fun _=>rfl
theorem refs_ints {n:Nat} (l:List Int):refLts n (l.map .int) = true:=refLts_map fun _=>rfl
theorem refs_st {n:Nat} (l:List Nat):refLts n (stD l) = true:=refLts_map fun _=>rfl
theorem ref_st {n:Nat} (l:List Nat):refLt n (.tup (stD l)) = true:=by simp only [refLt]; exact refs_st l
theorem take_pool {gr sm:List Int} {s c:Int} {r j:AH}:(Pool gr sm s c (r++j)).take (r.length + 3) = Pool gr sm s c r:=by
 unfold Pool
 simp
theorem pool_kept {gr sm gr' sm':List Int} {s c s' c':Int} {r j:AH}:Kept (Pool gr sm s c r) (Pool gr' sm' s' c' (r++j)):=fun i o li e=>by
 have l3:(Pool gr sm s c r).length = r.length + 3:=rfl
 rw [l3] at li ⊢
 match i,e with
 | 0,e=>cases e; exact .inr (refs_ints _)
 | 1,e=>cases e; exact .inr (refs_ints _)
 | 2,e=>cases e; exact .inr (by simp [refO,refLts,refLt])
 | i + 3,e =>
  left
  have e:(r++j)[i]? = some o:=e
  rw [List.getElem?_append_left (by omega)] at e
  exact e
theorem cln_cond {h h1:AH} {k k':Int} {r j:AH} (p:PS h k r) (q:CL r) (p1:PS h1 k' (r++j)):(h.length ≤ h1.length∧Kept h h1)∧PS (h1.take h.length) k' r:=by
 have l:=p.len
 have l1:=p1.len
 obtain ⟨gr,sm,s,c,rfl,g⟩:=p1
 obtain ⟨gr0,sm0,s0,c0,rfl,g0⟩:=p
 refine ⟨⟨by rw [List.length_append] at l1; omega,pool_kept⟩,?_⟩
 rw [show (Pool gr0 sm0 s0 c0 r).length = r.length + 3 from rfl,take_pool]
 exact ⟨gr,sm,s,c,rfl,g⟩
theorem W_cln {m:M D} {h:AH} {k:Int} {r:AH} {Q:D→AH→Prop} (p:PS h k r) (q:CL r) (z:W m h fun d h1=>∃ k' j,PS h1 k' (r++j)∧refLt 3 d = true∧∀ h2,PS h2 k' r→Q d h2):W (cln m) h Q:=by
 obtain ⟨d,h1,e,k',j,p1,rd,f⟩:=z
 obtain ⟨c1,c2⟩:=cln_cond p q p1
 refine ⟨d,h1.take h.length,?_,f _ c2⟩
 unfold cln
 rw [e]
 dsimp only
 rw [if_pos c1,if_pos (refLt_up (by rw [p.len]; omega) rd)]
theorem W_clnL {m:M D} {h:AH} {k:Int} {r:AH} {Q:D→AH→Prop} (p:PS h k r) (q:CL r) (z:W m h fun d h1=>∃ k' j i xs,d = .ref (i + 3)∧PS h1 k' (r++j)∧r.length ≤ i∧(r++j)[i]? = some (.lst xs)∧refLts 3 xs = true∧∀ h2,PS h2 k' (r++[.lst xs])→Q (.ref (r.length + 3)) h2):W (cln m) h Q:=by
 obtain ⟨d,h1,e,k',j,i,xs,rfl,p1,hi,ei,rd,f⟩:=z
 obtain ⟨c1,c2⟩:=cln_cond p q p1
 have l:=p.len
 refine ⟨.ref (r.length + 3),h1.take h.length++[.lst xs],?_,f _ (c2.app _)⟩
 unfold cln
 rw [e]
 dsimp only
 rw [if_pos c1,if_neg (by simp only [refLt,decide_eq_true_eq]; omega),p1.get,ei]
 dsimp only
 rw [if_pos (show refO h.length (.lst xs) = true from refLts_up (by omega) rd),l]
theorem W_clE {m:G→M D} {γ:G} {h:AH} {k:Int} {r:AH} {Q:D→AH→Prop} (p:PS h k r) (q:CL r) (z:W (m γ) h fun d h1=>∃ k' j,PS h1 k' (r++j)∧refLt 3 d = true∧∀ h2,PS h2 k' r→Q d h2):W (clE m γ) h Q:=W_cln p q z
section
variable {h:AH} {k:Int} {r l:AH} {i:Nat} {xs:List D} {v:D}
theorem at_E:(r++l)[r.length + i]? = l[i]?:=by rw [List.getElem?_append_right (by omega)]; congr 1; omega
theorem set_E {o:O}:(r++l).set (r.length + i) o = r++l.set i o:=by
 rw [List.set_append_right _ _ (by omega)]
 congr 2
 omega
theorem w_getE {Q:List D→AH→Prop} (p:PS h k (r++l)) (e:l[i]? = some (.lst xs)) (q:Q xs h):W (getL (r.length + i + 3)) h Q:=w_getL p (by rw [at_E]; exact e) q
theorem w_appE {Q:D→AH→Prop} (p:PS h k (r++l)) (e:l[i]? = some (.lst xs)) (hl:xs.length < 1000000) (z:∀ h',PS h' k (r++l.set i (.lst (xs++[v])))→Q .non h'):W (fAppend (r.length + i + 3) v) h Q :=
 w_append p (by rw [at_E]; exact e) hl fun h' p'=>z h' (by rw [set_E] at p'; exact p')
theorem w_tupE {Q:D→AH→Prop} (p:PS h k (r++l)) (e:l[i]? = some (.lst xs)) (q:Q (.tup xs) h):W (fTuple [.ref (r.length + i + 3)]) h Q:=by
 have ft:∀ i:Nat,fTuple [.ref i] = (do let x ← getL i; pure (.tup x)):=fun _=>rfl
 rw [ft,W_bind]
 refine w_getE p e ?_
 rw [W_pure]
 exact q
theorem w_asRefE {Q:Nat→AH→Prop} (p:PS h k (r++l)) (e:l[i]? = some (.lst xs)) (q:Q (r.length + i + 3) h):W (asRef (.ref (r.length + i + 3))) h Q:=by
 rw [W_asRef]
 exact w_getE p e q
end
theorem q_setJ {ma:G→M D} {mt:G→M Out} {γ:G} {h:AH} {i:Nat} {Q:Out→AH→Prop} (J:D→AH→Prop) (z:W (ma γ) h J) (f:∀ d h1,J d h1→W (mt (γ.set i (some d))) h1 Q):W (bCons (sAsg ma (gN i)) mt γ) h Q:=q_setw (z.mono f)
theorem q_retJ {ma:G→M D} {mt:G→M Out} {γ:G} {h:AH} {Q:Out→AH→Prop} (J:D→AH→Prop) (z:W (ma γ) h J) (f:∀ d h1,J d h1→Q (.rt d) h1):W (bCons (sRet ma) mt γ) h Q:=q_retw (z.mono f)
theorem q_push {me:G→M D} {mt:G→M Out} {γ:G} {h:AH} {k:Int} {r l:AH} {a i:Nat} {xs:List D} {Q:Out→AH→Prop} (ea:γ[a]? = some (some (.ref (r.length + i + 3)))) (p:PS h k (r++l)) (e:l[i]? = some (.lst xs)) (hl:xs.length < 1000000) (J:D→Int→Prop)
 (z:W (me γ) h fun v h1=>∃ k',PS h1 k' (r++l)∧J v k') (f:∀ v k' h2,J v k'→PS h2 k' (r++l.set i (.lst (xs++[v])))→W (mt γ) h2 Q):W (bCons (sExpr (eM1 fAppend (eVar a) me)) mt γ) h Q:=by
 refine q_expr ?_
 unfold eM1
 rw [W_bind]
 refine W_eq (v:=.ref (r.length + i + 3)) (by unfold eVar; rw [ea]) ?_
 rw [W_bind]
 refine w_asRefE p e ?_
 rw [W_bind]
 refine z.mono fun v h1 ⟨k',p1,j⟩=>?_
 exact w_appE p1 e hl fun h2 p2=>f v k' h2 j p2
theorem comp_E {cap:List (Option Nat)} {mi:G→M Src} {g:D→G→M G} {kk:G→M Bool} {me:G→M D} {γ:G} {h:AH} {r l:AH} {Q:D→AH→Prop} (J:Nat→List D→Int→Prop)
 (hs:W (mi γ) h fun src h1=>∃ k,PS h1 k (r++l)∧J 0 [] k∧(∀ h k xs,PS h k (r++(l++[.lst xs]))→src.good h) ∧
  (∀ i d h k xs,src.items[i]? = some d→J i xs k→PS h k (r++(l++[.lst xs]))→W (g d (capG cap γ)) h fun γ1 h1'=>W (kk γ1) h1' fun t h2=>if t = true then W (me γ1) h2 fun v h3=>∃ k',PS h3 k' (r++(l++[.lst xs]))∧xs.length < 1000000∧J (i + 1) (xs++[v]) k' else ∃ k',PS h2 k' (r++(l++[.lst xs]))∧J (i + 1) xs k') ∧
  ∀ h' xs k,J src.items.length xs k→PS h' k (r++(l++[.lst xs]))→Q (.ref (r.length + l.length + 3)) h'):W (eComp cap mi g kk me γ) h Q:=by
 refine comp_w ?_
 refine hs.mono fun src h1 ⟨k,p1,j0,good,st,fin⟩=>?_
 have l1:h1.length = r.length + l.length + 3:=by rw [p1.len,List.length_append]
 refine ⟨fun i h'=>∃ xs k,J i xs k∧PS h' k (r++(l++[.lst xs])),⟨[],k,j0,by rw [← List.append_assoc]; exact p1.app _⟩,fun i h' ⟨xs,k,_,p⟩=>good h' k xs p,?_,?_⟩
 ·rintro i d h2 hd ⟨xs,k,jx,p2⟩
  refine (st i d h2 k xs hd jx p2).mono fun γ1 h3 w3=>w3.mono fun t h4 w4=>?_
  cases t with
  | false=>rw [if_neg (by decide)] at w4 ⊢; obtain ⟨k',p4,j4⟩:=w4; exact ⟨xs,k',j4,p4⟩
  | true =>
   rw [if_pos rfl] at w4 ⊢
   refine w4.mono fun v h5 ⟨k',p5,lx,j5⟩=>?_
   rw [l1,show r.length + l.length + 3 = r.length + l.length + 3 from rfl]
   refine w_appE (i:=l.length) p5 (by simp) lx fun h6 p6=>?_
   refine ⟨_,k',j5,?_⟩
   rw [List.set_append_right _ _ (Nat.le_refl _),Nat.sub_self] at p6
   exact p6
 ·rintro h2 ⟨xs,k,jx,p2⟩
  rw [l1]
  exact fin h2 xs k jx p2
end FT
namespace L2
open PySem PySem.Spec PyProof.Rows
section
variable {κ:Type} [DecidableEq κ]
def valV (kvs:List (κ × V)) (k:κ):Option V:=(kvs.find? fun kv=>decide (kv.1 = k)).map (·.2)
def putK (kvs:List (κ × V)) (k:κ) (v:V):List (κ × V) :=
 if (kvs.any fun kv=>decide (kv.1 = k)) = true then kvs.map (fun kv=>if kv.1 = k then (kv.1,v) else kv) else kvs++[(k,v)]
theorem valV_pos {p:κ × V} {r:List (κ × V)} {k:κ} (e:p.1 = k):valV (p :: r) k = some p.2:=by simp [valV,List.find?_cons,e]
theorem valV_neg {p:κ × V} {r:List (κ × V)} {k:κ} (e:¬ p.1 = k):valV (p :: r) k = valV r k:=by simp [valV,List.find?_cons,e]
theorem valV_any (k:κ):∀ kvs:List (κ × V),(kvs.any fun kv=>decide (kv.1 = k)) = (valV kvs k).isSome
 | []=>rfl
 | p :: r=>by
  rw [List.any_cons]
  by_cases e:p.1 = k
  ·simp only [valV_pos e,decide_eq_true e,Bool.true_or,Option.isSome_some]
  ·rw [valV_neg e,decide_eq_false e,Bool.false_or]; exact valV_any k r
theorem length_putK (kvs:List (κ × V)) (k:κ) (v:V):(putK kvs k v).length ≤ kvs.length + 1:=by
 unfold putK
 split
 ·rw [List.length_map]; omega
 ·rw [List.length_append,List.length_cons,List.length_nil]; omega
theorem RelO.isSome_eq {o:Option V} {u:Option Value} (r:RelO o u):o.isSome = u.isSome:=by
 cases o with
 | none=>cases u with
  | none=>rfl
  | some _=>exact (show False from r).elim
 | some _=>cases u with
  | none=>exact (show False from r).elim
  | some _=>rfl
theorem KV.val {kvs:List (κ × V)} {vs:List (κ × Value)} (r:KV kvs vs) (k:κ):RelO (valV kvs k) (valueAt vs k):=by
 unfold KV at r
 induction r with
 | nil=>exact True.intro
 | @cons p q ps qs h t ih =>
  obtain ⟨h1,h2⟩:=h
  by_cases e:p.1 = k
  ·have e':q.1 = k:=h1.symm.trans e
   have b:valueAt (q :: qs) k = some q.2:=by simp [valueAt,List.find?_cons,e']
   rw [valV_pos e,b]; exact h2
  ·have e':¬ q.1 = k:=fun z=>e (h1.trans z)
   have b:valueAt (q :: qs) k = valueAt qs k:=by simp [valueAt,List.find?_cons,e']
   rw [valV_neg e,b]; exact ih
theorem KV.any {kvs:List (κ × V)} {vs:List (κ × Value)} (r:KV kvs vs) (k:κ):(kvs.any fun kv=>decide (kv.1 = k)) = vs.any fun kv=>decide (kv.1 = k):=by
 unfold KV at r
 induction r with
 | nil=>rfl
 | cons h t ih=>rw [List.any_cons,List.any_cons,ih,h.1]
theorem KV.repl {kvs:List (κ × V)} {vs:List (κ × Value)} (r:KV kvs vs) (k:κ) {y:V} {u:Value} (ry:RelV y u) :
 KV (kvs.map fun kv=>if kv.1 = k then (kv.1,y) else kv) (vs.map fun kv=>if kv.1 = k then (kv.1,u) else kv):=by
 unfold KV at r ⊢
 induction r with
 | nil=>exact .nil
 | @cons p q ps qs h t ih =>
  rw [List.map_cons,List.map_cons]
  refine .cons ?_ ih
  obtain ⟨h1,h2⟩:=h
  by_cases e:p.1 = k
  ·rw [if_pos e,if_pos (h1.symm.trans e)]; exact ⟨h1,ry⟩
  ·rw [if_neg e,if_neg (fun z=>e (h1.trans z))]; exact ⟨h1,h2⟩
theorem KV.put {kvs:List (κ × V)} {vs:List (κ × Value)} (r:KV kvs vs) (k:κ) {y:V} {u:Value} (ry:RelV y u):KV (putK kvs k y) (stored vs k u):=by
 unfold putK stored
 rw [r.any k]
 by_cases e:(vs.any fun kv=>decide (kv.1 = k)) = true
 ·rw [if_pos e,if_pos e]; exact r.repl k ry
 ·rw [if_neg e,if_neg e]; exact Paired.snoc r ⟨rfl,ry⟩
theorem KV.length {kvs:List (κ × V)} {vs:List (κ × Value)} (r:KV kvs vs):kvs.length = vs.length:=Paired.length r
end
theorem kV_is {P:Program} {w:World} {k:Key} {u:Value} (r:RelV (kV k) u):(mixKind P w).is k u = true:=by
 cases k with
 | inl i=>obtain ⟨t,e⟩:=(show ∃ t,u = Value.int i t from r); subst e; exact mixKind_int P w i t
 | inr x=>obtain ⟨t,e⟩:=(show ∃ t,u = Value.str x t from r); subst e; exact mixKind_str P w x t
theorem items_are {P:Program} {w:World}:∀ {ks:List Key} {us:List Value},Vals (ks.map kV) us→ItemsAre (mixKind P w) ks us
 | [],_,r=>by rw [List.map_nil] at r; cases r; exact .nil
 | k :: ks,_,r=>by
  rw [List.map_cons] at r
  cases r with
  | cons h t=>exact .cons (kV_is h) (items_are t)
abbrev KT (H:Hp):List (List Key × V)→List (List Key × Addr × Value)→Prop:=Paired fun p q=>p.1 = q.1∧H q.2.1 = some (.tup (p.1.map kV))∧RelV p.2 q.2.2
theorem KT.val {H:Hp} {kvs:List (List Key × V)} {xs:List (List Key × Addr × Value)} (r:KT H kvs xs) (k:List Key):RelO (valV kvs k) ((atKey xs k).map (·.2)):=by
 induction r with
 | nil=>exact True.intro
 | @cons p q ps qs h t ih =>
  obtain ⟨h1,_,h2⟩:=h
  by_cases e:p.1 = k
  ·have e':q.1 = k:=h1.symm.trans e
   have b:atKey (q :: qs) k = some q.2:=by simp [atKey,List.find?_cons,e']
   rw [valV_pos e,b]; exact h2
  ·have e':¬ q.1 = k:=fun z=>e (h1.trans z)
   have b:atKey (q :: qs) k = atKey qs k:=by simp [atKey,List.find?_cons,e']
   rw [valV_neg e,b]; exact ih
theorem KT.repl {H:Hp} {kvs:List (List Key × V)} {xs:List (List Key × Addr × Value)} (r:KT H kvs xs) (k:List Key) {y:V} {u:Value} (ry:RelV y u) :
 KT H (kvs.map fun kv=>if kv.1 = k then (kv.1,y) else kv) (xs.map (putAt k u)):=by
 induction r with
 | nil=>exact .nil
 | @cons p q ps qs h t ih =>
  rw [List.map_cons,List.map_cons]
  refine .cons ?_ ih
  obtain ⟨h1,h2,h3⟩:=h
  unfold putAt
  by_cases e:p.1 = k
  ·rw [if_pos e,if_pos (h1.symm.trans e)]; exact ⟨h1,h2,ry⟩
  ·rw [if_neg e,if_neg (fun z=>e (h1.trans z))]; exact ⟨h1,h2,h3⟩
theorem KT.put {H:Hp} {kvs:List (List Key × V)} {xs:List (List Key × Addr × Value)} (r:KT H kvs xs) (k:List Key) {b:Addr} {y:V} {u:Value} (hb:H b = some (.tup (k.map kV))) (ry:RelV y u) :
 KT H (putK kvs k y) (storedH xs k b u):=by
 have e:(kvs.any fun kv=>decide (kv.1 = k)) = (atKey xs k).isSome:=by
  rw [valV_any,(r.val k).isSome_eq,Option.isSome_map]
 unfold putK storedH
 rw [e]
 by_cases q:(atKey xs k).isSome = true
 ·rw [if_pos q,if_pos q]; exact r.repl k ry
 ·rw [if_neg q,if_neg q]; exact Paired.snoc r ⟨rfl,hb,ry⟩
theorem KT.keeps {H H':Hp} {kvs:List (List Key × V)} {xs:List (List Key × Addr × Value)} (r:KT H kvs xs) (ht:∀ b ys,H b = some (.tup ys)→H' b = some (.tup ys)):KT H' kvs xs :=
 Paired.mapP r fun _ _ z=>⟨z.1,ht _ _ z.2.1,z.2.2⟩
section
variable {P:Program} {w:World} {H:Hp} {h:Heap} {a:Addr}
theorem rd_of {u:HO} (ok:HOk P w H h) (e:Rd H a u):ObjOk P w H h a u:=e.ok ok
theorem dk_rd {kvs:List (Key × V)} (ok:HOk P w H h) (e:Rd H a (.dK kvs)):kvs.length ≤ sizeLine∧(a == sysModules) = false∧∃ vs,KV kvs vs∧h.DictOf (mixKind P w) a vs :=
 show ObjOk P w H h a (.dK kvs) from rd_of ok e
theorem dk_of {kvs:List (Key × V)} (ok:HOk P w H h) (e:H a = some (.dK kvs)):kvs.length ≤ sizeLine∧(a == sysModules) = false∧∃ vs,KV kvs vs∧h.DictOf (mixKind P w) a vs:=dk_rd ok (.inl e)
theorem key_of {ks:List Key} (ok:HOk P w H h) (e:H a = some (.tup (ks.map kV))):(tupleKind (mixKind P w)).is h ks a:=by
 obtain ⟨_,its,r,o,h1,h2,n,h3⟩:=(show ObjOk P w H h a (.tup (ks.map kV)) from ok a _ e)
 exact ⟨o,its.toArray,n,h1,h2.1,h3,by simpa using items_are r⟩
theorem dt_rd {kvs:List (List Key × V)} (ok:HOk P w H h) (e:Rd H a (.dT kvs)):kvs.length ≤ sizeLine∧(a == sysModules) = false ∧
 ∃ xs,KT H kvs xs∧h.DictOfH (tupleKind (mixKind P w)) a xs:=by
 obtain ⟨z,y,xs,r,o,es,ep,h1,h2,h3,h4,h5⟩:=(show ObjOk P w H h a (.dT kvs) from rd_of ok e)
 refine ⟨z,y,xs,r,o,es,ep,h1,h2,h3,h4,fun x hx=>?_,h5⟩
 have all:∀ {l:List (List Key × V)} {m:List (List Key × Addr × Value)},KT H l m→∀ x ∈ m,(tupleKind (mixKind P w)).is h x.1 x.2.1:=by
  intro l m q
  induction q with
  | nil=>intro x hx; exact nomatch hx
  | @cons p q ps qs hq t ih =>
   intro x hx
   rcases List.mem_cons.mp hx with e | hx
   ·subst e
    exact key_of ok (by rw [← hq.1]; exact hq.2.1)
   ·exact ih x hx
 exact all r x hx
theorem dt_of {kvs:List (List Key × V)} (ok:HOk P w H h) (e:H a = some (.dT kvs)):kvs.length ≤ sizeLine∧(a == sysModules) = false ∧
 ∃ xs,KT H kvs xs∧h.DictOfH (tupleKind (mixKind P w)) a xs:=dt_rd ok (.inl e)
end
def DGet (H:Hp) (a:Addr) (y:V) (r:Option V):Prop :=
 (∃ kvs k,Rd H a (.dK kvs)∧y = kV k∧r = valV kvs k)∨∃ kvs k b,Rd H a (.dT kvs)∧y = .ref b∧H b = some (.tup (k.map kV))∧r = valV kvs k
def DPut (H:Hp) (a:Addr) (y v:V) (H':Hp):Prop :=
 (∃ kvs k,H a = some (.dK kvs)∧y = kV k∧kvs.length < sizeLine∧H' = upd H a (.dK (putK kvs k v))) ∨
 ∃ kvs k b,H a = some (.dT kvs)∧y = .ref b∧H b = some (.tup (k.map kV))∧kvs.length < sizeLine∧H' = upd H a (.dT (putK kvs k v))
theorem DPut.k {H:Hp} {a:Addr} {kvs:List (Key × V)} {k:Key} {v:V} (e:H a = some (.dK kvs)) (hl:kvs.length < sizeLine):DPut H a (kV k) v (upd H a (.dK (putK kvs k v))):=.inl ⟨kvs,k,e,rfl,hl,rfl⟩
section
variable {X:Cx} {pins:List (Addr × Obj)} {σ:St} {H:Hp} {s:Shared} {a:Addr} {y v:V} {u r:Value} {o:Option V} {A:Around} {E:Value→Shared→Prop}
theorem Inv.big (I:Inv X pins σ H s):sysModules < s.heap.objs.size:=by
 have h:mainGlobals < s.heap.objs.size:=(I.mod.glob.keeps I.bk).lt
 exact Nat.lt_trans (by decide) h
theorem d_getItem {Q:Value→Shared→Prop} (hu:A.units + 1 < cLine) (I:Inv X pins σ H s) (g:DGet H a y (some v)) (ry:RelV y u) (h:∀ w' s',Inv X pins σ H s'→RelV v w'→Q w' s') :
 wpAny (model X.prog X.w) A (getItem (.ref a) u) Q E s:=by
 rcases g with ⟨kvs,k,e,ey,l⟩ | ⟨kvs,k,b,e,ey,eb,l⟩
 ·subst ey
  obtain ⟨z,hd,vs,rel,dd⟩:=dk_rd I.hok e
  obtain ⟨w',hw,rw'⟩:=RelO.some_of (v:=v) (o:=valueAt vs k) (by rw [l]; exact rel.val k)
  exact wpAny_getItem_of (kV_is ry) dd.mapOf hw (h w' _ (I.tok _) rw')
 ·subst ey
  cases (show u = Value.ref b from ry)
  obtain ⟨z,hd,xs,rel,dd⟩:=dt_rd I.hok e
  obtain ⟨w',hw,rw'⟩:=RelO.some_of (v:=v) (o:=(atKey xs k).map (·.2)) (by rw [l]; exact rel.val k)
  obtain ⟨p,hp,hp2⟩:=Option.map_eq_some_iff.mp hw
  refine wpAny_getItem_heap (tupleKind_room_in1 hu) (key_of I.hok eb) dd hp ?_
  rw [hp2]
  exact h w' _ (I.tok _) rw'
theorem d_in {Q:Value→Shared→Prop} (hu:A.units + 1 < cLine) (I:Inv X pins σ H s) (g:DGet H a y o) (ry:RelV y u) (h:∀ s',Inv X pins σ H s'→Q (.bool o.isSome) s') :
 wpAny (model X.prog X.w) A (compareOp .In u (.ref a)) Q E s:=by
 rcases g with ⟨kvs,k,e,ey,l⟩ | ⟨kvs,k,b,e,ey,eb,l⟩
 ·subst ey
  obtain ⟨z,hd,vs,rel,dd⟩:=dk_rd I.hok e
  refine wpAny_in_of (kV_is ry) hd dd.mapOf ?_
  rw [← (rel.val k).isSome_eq,← l]
  exact h _ (I.tok _)
 ·subst ey
  cases (show u = Value.ref b from ry)
  obtain ⟨z,hd,xs,rel,dd⟩:=dt_rd I.hok e
  refine wpAny_in_heap (tupleKind_room_in1 hu) (key_of I.hok eb) hd dd ?_
  have q:=(rel.val k).isSome_eq
  rw [Option.isSome_map] at q
  rw [← q,← l]
  exact h _ (I.tok _)
theorem d_notIn {Q:Value→Shared→Prop} (hu:A.units + 1 < cLine) (I:Inv X pins σ H s) (g:DGet H a y o) (ry:RelV y u) (h:∀ s',Inv X pins σ H s'→Q (.bool (!o.isSome)) s') :
 wpAny (model X.prog X.w) A (compareOp .NotIn u (.ref a)) Q E s:=by
 rcases g with ⟨kvs,k,e,ey,l⟩ | ⟨kvs,k,b,e,ey,eb,l⟩
 ·subst ey
  obtain ⟨z,hd,vs,rel,dd⟩:=dk_rd I.hok e
  refine wpAny_notIn_of (kV_is ry) hd dd.mapOf ?_
  rw [← (rel.val k).isSome_eq,← l]
  exact h _ (I.tok _)
 ·subst ey
  cases (show u = Value.ref b from ry)
  obtain ⟨z,hd,xs,rel,dd⟩:=dt_rd I.hok e
  refine wpAny_notIn_heap (tupleKind_room_in1 hu) (key_of I.hok eb) hd dd ?_
  have q:=(rel.val k).isSome_eq
  rw [Option.isSome_map] at q
  rw [← q,← l]
  exact h _ (I.tok _)
theorem d_write {h':Heap} {t':Nat} {ob:HO} (I:Inv X pins σ H s) (mu:Mut (H a)) (hs:Heap.SameBut a s.heap h') (he:∃ q,h'.get? a = some q) (new:ObjOk X.prog X.w (upd H a ob) h' a ob) :
 Inv X pins σ (upd H a ob) { s with heap:=h',toks:=t' } :=
 I.write (x:=a) (e:=a) mu (.inl rfl) (fun b q hb z=>(hs.2 b hb).trans z) he new
theorem dk_new {P:Program} {w:World} {H':Hp} {h':Heap} {kvs:List (Key × V)} {vs:List (Key × Value)} (z:kvs.length ≤ sizeLine) (hd:(a == sysModules) = false) (rel:KV kvs vs) (dd:h'.DictOf (mixKind P w) a vs) :
 ObjOk P w H' h' a (.dK kvs):=⟨z,hd,vs,rel,dd⟩
theorem d_setItem {H':Hp} {Q:Unit→Shared→Prop} (hu:A.units + 1 < cLine) (I:Inv X pins σ H s) (g:DPut H a y v H') (ry:RelV y u) (rv:RelV v r) (h:∀ s',Inv X pins σ H' s'→Q () s') :
 wpAny (model X.prog X.w) A (setItem (.ref a) u r) Q E s:=by
 rcases g with ⟨kvs,k,e,ey,l,eH⟩ | ⟨kvs,k,b,e,ey,eb,l,eH⟩
 ·subst ey eH
  obtain ⟨z,hd,vs,rel,dd⟩:=dk_of I.hok e
  have hz:vs.length ≤ sizeLine:=by rw [← rel.length]; exact z
  have hl:(putK kvs k v).length ≤ sizeLine:=by have:=length_putK kvs k v; omega
  refine wpAny_setItem_pairs (hsz:=hz) (kV_is ry) dd fun h' dd' hs=>h _ ?_
  have he:∃ q,h'.get? a = some q:=let ⟨q,_,_,hq,_⟩:=dd'; ⟨q,hq⟩
  exact d_write I (by rw [e]; exact True.intro) hs he (dk_new hl hd (rel.put k rv) dd')
 ·subst ey eH
  cases (show u = Value.ref b from ry)
  obtain ⟨z,hd,xs,rel,dd⟩:=dt_of I.hok e
  have hz:xs.length ≤ sizeLine:=by rw [← Paired.length rel]; exact z
  have hl:(putK kvs k v).length ≤ sizeLine:=by have:=length_putK kvs k v; omega
  refine wpAny_setItem_heap (hsz:=hz) (tupleKind_room_in1 hu) (key_of I.hok eb) dd fun h' dd' hs=>h _ ?_
  obtain ⟨q,es,ep,hq,h2,h3,h4,_,h5⟩:=dd'
  refine d_write I (by rw [e]; exact True.intro) hs ⟨q,hq⟩ ⟨hl,hd,_,(rel.put k eb rv).keeps fun c ys ec=>?_,q,es,ep,hq,h2,h3,h4,h5⟩
  rw [upd_ne (ne_of ec e (fun z=>nomatch z))]
  exact ec
end
section
variable {X:Cx} {pins:List (Addr × Obj)} {σ:St} {H:Hp} {s:Shared} {a:Addr} {kvs:List (Key × V)} {k:Key} {u:Value} {A:Around} {E:Value→Shared→Prop}
end
def NoSl (i:Expr):Prop:=∀ ov iv,subscripted i false ov iv = operate [ov,iv] (getItem ov iv)
theorem subD_of {prog:Program} {w:World} {A:Around} {E:Value→Shared→Prop} {s:Shared} {env:Env} {value slice:Expr} {pos:Pos} {T id:String} {Q:Value→Shared→Prop}
 (hl:typeLookup (.type T) "__getitem__" = pure (some (.builtin id))) (hs:NoSl slice)
 (h:wpAny (model prog w) A (eval value env) (fun o s₁=>wpAny (model prog w) A (eval slice env) (fun i s₂=>s₂.TypeIs o T∧wpAny (model prog w) A (getItem o i) Q E s₂) E s₁) E s) :
 wpAny (model prog w) A (eval (.Subscript value slice pos) env) Q E s:=by
 refine Subscript_ (wpAny_mono h (fun o s₁ h₁=>wpAny_mono h₁ (fun i s₂ h₂=>?_) fun _ _ x=>x) fun _ _ x=>x)
 obtain ⟨hT,h₂⟩:=h₂
 unfold subscriptTail
 refine wpAny_bind ?_
 rw [getitemInPython_of_ne hT.not_modules]
 refine wpAny_bind (wpAny_specialOf hT hl ?_)
 have fin:wpAny (model prog w) A (subscripted slice false o i) (fun r s₃=>wpAny (model prog w) A (letTemporaryGo value o r >>= fun _=>pure r) Q E s₃) E s₂:=by
  rw [hs o i]
  exact wpAny_operating (wpAny_mono h₂ (fun r s₃ h₃=>wpAny_bind (wpAny_letTemporaryGo (wpAny_pure h₃))) fun _ _ x=>x)
 first
  | exact wpAny_pure (wpAny_bind fin)
  | exact wpAny_bind (wpAny_pure (wpAny_bind fin))
  | exact wpAny_bind fin
theorem dict_typeIs {X:Cx} {pins:List (Addr × Obj)} {σ:St} {H:Hp} {s:Shared} {a:Addr} {y:V} {o:Option V} (I:Inv X pins σ H s) (g:DGet H a y o):s.TypeIs (.ref a) "dict":=by
 rcases g with ⟨kvs,k,e,_,_⟩ | ⟨kvs,k,b,e,_,_,_⟩
 ·obtain ⟨_,_,vs,_,dd⟩:=dk_rd I.hok e
  exact dd.typeIs
 ·obtain ⟨_,_,xs,_,dd⟩:=dt_rd I.hok e
  exact dd.typeIs
def tDGet (td ty:TE):TE:=fun σ H Q=>td σ H fun x H1=>ty σ H1 fun y H2=>∃ a v,x = .ref a∧DGet H2 a y (some v)∧Q v H2
section
variable {X:Cx} {o i e value:Expr} {pos pos' tpos:Pos} {td ty tv:TE}
theorem pe_dget (hu:X.A.units + 1 < cLine) (ho:PE X o td) (hi:PE X i ty) (hs:NoSl i):PE X (.Subscript o i pos) (tDGet td ty):=by
 intro pins s σ H Q I h
 refine subD_of PySem.F.slot_dict_getitem.lookup hs (thn (ho pins s σ H _ I h) fun u s1 ⟨x,H1,I1,rx,q1⟩=>thn (hi pins s1 σ H1 _ I1 q1) fun iv s2 ⟨y,H2,I2,ry,a,v,ex,g,q2⟩=>?_)
 subst ex
 obtain rfl:u = Value.ref a:=rx
 exact ⟨dict_typeIs I2 g,d_getItem hu I2 g ry fun w' s3 I3 rw'=>⟨v,H2,I3,rw',q2⟩⟩
end
theorem dk_empty {P:Program} {w:World} {H:Hp} (h:Heap) (hb:sysModules < h.objs.size):ObjOk P w H (h.push { cls:=.type "dict",data:=.dict #[] }) h.objs.size (.dK []) :=
 ⟨Nat.zero_le _,beq_eq_false_iff_ne.mpr (Ne.symm (Nat.ne_of_lt hb)),[],.nil,Heap.DictOf.new h⟩
def tDNewK:TE:=fun _ H Q=>∀ p,H p = none→Q (.ref p) (upd H p (.dK []))
section
variable {X:Cx} {pos:Pos}
theorem pe_dnewK:PE X (.Dict [] [] pos) tDNewK:=fun pins s σ H Q I h =>
 wpAny_Dict_empty ⟨.ref s.heap.objs.size,_,I.laid (a:=s.heap.objs.size) (o:=.dK []) (t':=s.toks) (fun _ _ q=>Heap.get?_push_of_some _ q) (Nat.le_refl _) (dk_empty s.heap I.big),rfl,h _ (I.hok.fresh (Nat.le_refl _))⟩
end
section
variable {X:Cx} {pins:List (Addr × Obj)} {σ:St} {H:Hp} {s:Shared} {a:Addr} {y d:V} {u r:Value} {o:Option V} {A:Around} {E:Value→Shared→Prop}
end
section
variable {X:Cx} {o e f:Expr} {apos cpos:Pos} {td ty tx:TE}
end
end L2
namespace FT
open PySem PySem.Spec PyProof.Rows L2
def lkD (kvs:List (Key × D)) (k:Key):Option D:=(kvs.find? fun kv=>decide (kv.1 = k)).map (·.2)
def ptD (kvs:List (Key × D)) (k:Key) (v:D):List (Key × D) :=
 if (kvs.any fun kv=>decide (kv.1 = k)) = true then kvs.map (fun kv=>if kv.1 = k then (kv.1,v) else kv) else kvs++[(k,v)]
section
variable {K:PySem.W.Frag} {ρ:List Addr} {H:Hp}
theorem RK.len:∀ {kvs:List (Key × D)} {vs:List (Key × V)},RK K ρ H kvs vs→kvs.length = vs.length
 | _,_,.nil=>rfl
 | _,_,.cons _ b=>by simp [RK.len b]
theorem RK.lk (k:Key):∀ {kvs:List (Key × D)} {vs:List (Key × V)},RK K ρ H kvs vs→(lkD kvs k = none∧valV vs k = none)∨∃ d v,lkD kvs k = some d∧valV vs k = some v∧RD K ρ H d v
 | _,_,.nil=>.inl ⟨rfl,rfl⟩
 | p :: kvs,q :: vs,.cons a b=>by
  by_cases e:p.1 = k
  ·refine .inr ⟨p.2,q.2,by simp [lkD,List.find?_cons,e],valV_pos (a.1.symm.trans e),a.2⟩
  ·rw [valV_neg (fun z=>e (a.1.trans z))]
   have:lkD (p :: kvs) k = lkD kvs k:=by simp [lkD,List.find?_cons,e]
   rw [this]
   exact RK.lk k b
theorem RK.any (k:Key):∀ {kvs:List (Key × D)} {vs:List (Key × V)},RK K ρ H kvs vs→(kvs.any fun kv=>decide (kv.1 = k)) = vs.any fun kv=>decide (kv.1 = k)
 | _,_,.nil=>rfl
 | _,_,.cons a b=>by rw [List.any_cons,List.any_cons,RK.any k b,a.1]
theorem RK.rep (k:Key) {d:D} {v:V} (r:RD K ρ H d v):∀ {kvs:List (Key × D)} {vs:List (Key × V)},RK K ρ H kvs vs→RK K ρ H (kvs.map (fun kv=>if kv.1 = k then (kv.1,d) else kv)) (vs.map (fun kv=>if kv.1 = k then (kv.1,v) else kv))
 | _,_,.nil=>.nil
 | p :: kvs,q :: vs,.cons a b=>by
  rw [List.map_cons,List.map_cons]
  refine .cons ?_ (RK.rep k r b)
  by_cases e:p.1 = k
  ·rw [if_pos e,if_pos (a.1.symm.trans e)]; exact ⟨a.1,r⟩
  ·rw [if_neg e,if_neg (fun z=>e (a.1.trans z))]; exact a
theorem RK.snoc {k:Key} {d:D} {v:V} (r:RD K ρ H d v):∀ {kvs:List (Key × D)} {vs:List (Key × V)},RK K ρ H kvs vs→RK K ρ H (kvs++[(k,d)]) (vs++[(k,v)])
 | _,_,.nil=>.cons ⟨rfl,r⟩ .nil
 | _,_,.cons a b=>.cons a (RK.snoc r b)
theorem RK.put (k:Key) {d:D} {v:V} (r:RD K ρ H d v) {kvs:List (Key × D)} {vs:List (Key × V)} (q:RK K ρ H kvs vs):RK K ρ H (ptD kvs k d) (L2.putK vs k v):=by
 unfold ptD L2.putK
 rw [q.any k]
 split
 ·exact q.rep k r
 ·exact q.snoc r
theorem key_V {d:D} {k:Key} {v:V} (e:keyD d = some k) (r:RD K ρ H d v):v = kV k:=by
 cases d <;> simp only [keyD] at e <;> first | (cases e; simp only [RD] at r; exact r) | cases e
end
def getK (n:Nat):M (List (Key × D)):=fun h=>match h[n]? with
 | some (.dK kvs)=>.ok kvs h
 | some (.dF kvs)=>.ok kvs h
 | _=>.bad
def newK (kvs:List (Key × D)):M D:=fun h=>if kvs.length ≤ sizeLine then .ok (.ref h.length) (h++[.dK kvs]) else .bad
def dicD:D→M (List (Key × D))
 | .ref n=>getK n
 | _=>bad
def fDget:D→D→M D:=fun x y=>do
 let kvs ← dicD x
 match keyD y with
 | some k=>(match lkD kvs k with
  | some d=>pure d
  | none=>bad)
 | none=>bad
def fInD (neg:Bool):D→D→M D:=fun y x=>do
 let kvs ← dicD x
 match keyD y with
 | some k=>pure (.bl ((lkD kvs k).isSome != neg))
 | none=>bad
def fDset:D→D→D→M Unit:=fun o i v=>match o with
 | .ref n=>(match keyD i with
  | some k=>fun h=>match h[n]? with
   | some (.dK kvs)=>if kvs.length < sizeLine then .ok () (h.set n (.dK (ptD kvs k v))) else .bad
   | _=>.bad
  | none=>bad)
 | _=>bad
def gDx (mo mi:G→M D):D→G→M G:=fun v γ=>do
 let o ← mo γ
 let i ← mi γ
 let _ ← fDset o i v
 pure γ
section
variable {X:Cx} {EX:XX} {a o i e f:Expr} {pos apos cpos:Pos} {mo mi ma mb:G→M D}
theorem dicD_rel {K:PySem.W.Frag} {ρ:List Addr} {h:AH} {H:Hp} {x:D} {u:V} {Z:List (Key × D)→List Addr→AH→Hp→Prop} (r:RH K ρ h H) (rx:RD K ρ H x u) (fin:Fin K EX ρ H Z (dicD x h)):∃ n a kvs vs,x = .ref n∧u = .ref a∧ρ[n]? = some a∧(h[n]? = some (.dK kvs)∨h[n]? = some (.dF kvs))∧Rd H a (.dK vs)∧RK K ρ H kvs vs∧Z kvs ρ h H:=by
 cases x <;> first | exact (show False from fin).elim | skip
 rename_i n
 simp only [RD] at rx
 obtain ⟨a,rfl,hq⟩:=rx
 unfold dicD getK at fin
 dsimp only at fin
 cases e:h[n]? with
 | none=>rw [e] at fin; exact fin.elim
 | some ob =>
  cases ob with
  | lst xs=>rw [e] at fin; exact fin.elim
  | set xs=>rw [e] at fin; exact fin.elim
  | dct=>rw [e] at fin; exact fin.elim
  | exc c=>rw [e] at fin; exact fin.elim
  | dK kvs =>
   rw [e] at fin
   obtain ⟨a1,n1,vs,o1,d1⟩:=r.at e
   rw [hq] at n1; cases n1
   exact ⟨n,a,kvs,vs,rfl,rfl,hq,.inl e,.inl o1,d1,fin ρ H (Pre.refl _) (Ext.refl _ _) r⟩
  | dF kvs =>
   rw [e] at fin
   obtain ⟨a1,n1,ob,vs,o1,d1⟩:=r.at e
   rw [hq] at n1; cases n1
   exact ⟨n,a,kvs,vs,rfl,rfl,hq,.inr e,.inr ⟨ob,o1⟩,d1,fin ρ H (Pre.refl _) (Ext.refl _ _) r⟩
theorem se_dk0:SE X EX (.Dict [] [] pos) (fun _=>newK []) :=
 ⟨PE.imp pe_dnewK fun σ H Q ⟨ρ,γ,h,rel,fin⟩ p hp=>by
  unfold newK at fin
  dsimp only at fin
  rw [if_pos (show ([]:List (Key × D)).length ≤ sizeLine from Nat.zero_le _)] at fin
  refine fin (ρ++[p]) _ (Pre.app _ _) (Ext.upd (.inl hp)) (rel.h.pushO hp ⟨[],upd_same,.nil⟩) _ ?_
  simp only [RD]
  refine ⟨p,rfl,?_⟩
  rw [← rel.h.len]; simp⟩
theorem se_dget (hu:X.A.units + 1 < cLine) (ha:SE X EX o mo) (hb:SE X EX i mi) (hs:NoSl i:=by intro _ _; rfl):SE X EX (.Subscript o i pos) (e2 fDget mo mi) :=
 ⟨PE.imp (pe_dget hu ha.h hb.h hs) fun σ H Q ⟨ρ,γ,h,rel,fin⟩=>⟨ρ,γ,h,rel,(Fin.bind fin).mono fun x ρ1 h1 H1 p1 e1 r1 f1 v rv=>⟨ρ1,γ,h1,⟨rel.g.mono p1 e1,r1⟩,(Fin.bind f1).mono fun y ρ2 h2 H2 p2 e2 r2 f2 w rw'=>by
  obtain ⟨n,ad,kvs,vs,rfl,rfl,hn,hk,hH,rk,f3⟩:=dicD_rel r2 (rv.mono p2 e2) (Fin.bind f2)
  cases ek:keyD y with
  | none=>rw [ek] at f3; exact f3.elim
  | some k =>
   rw [ek] at f3
   have:=key_V ek rw'
   subst this
   rcases rk.lk k with ⟨z1,_⟩ | ⟨d,u,z1,z2,rd⟩
   ·dsimp only at f3; rw [z1] at f3; exact f3.elim
   ·dsimp only at f3
    rw [z1] at f3
    refine ⟨ad,u,rfl,?_,FE.here f3 r2 rd⟩
    rw [← z2]
    exact .inl ⟨vs,k,hH,rfl,rfl⟩⟩⟩⟩
def rInD (neg:Bool):R2:=fun y x H Q=>∃ ad ov,x = .ref ad∧DGet H ad y ov∧Q (.bl (ov.isSome != neg)) H
theorem op_inD (hu:X.A.units + 1 < cLine):OpR X (compareOp .In) (rInD false):=by
 intro pins s σ H x y v u Q I rx ry h
 obtain ⟨ad,ov,rfl,g,q⟩:=h
 cases ry
 rw [Bool.bne_false] at q
 exact d_in hu I g rx fun s' I'=>⟨.bl _,H,I',rfl,q⟩
theorem op_ninD (hu:X.A.units + 1 < cLine):OpR X (compareOp .NotIn) (rInD true):=by
 intro pins s σ H x y v u Q I rx ry h
 obtain ⟨ad,ov,rfl,g,q⟩:=h
 cases ry
 rw [Bool.bne_true] at q
 exact d_notIn hu I g rx fun s' I'=>⟨.bl _,H,I',rfl,q⟩
theorem br_inD {neg:Bool}:BR X.K EX (rInD neg) (fInD neg):=by
 intro ρ h H y x w v Q r ry rx fin
 obtain ⟨n,ad,kvs,vs,rfl,rfl,hn,hk,hH,rk,f3⟩:=dicD_rel r rx (Fin.bind fin)
 cases ek:keyD y with
 | none=>rw [ek] at f3; exact f3.elim
 | some k =>
  rw [ek] at f3
  have:=key_V ek ry
  subst this
  refine ⟨ad,valV vs k,rfl,.inl ⟨vs,k,hH,rfl,rfl⟩,?_⟩
  have:(valV vs k).isSome = (lkD kvs k).isSome:=by
   rcases rk.lk k with ⟨z1,z2⟩ | ⟨d,u,z1,z2,_⟩ <;> rw [z1,z2] <;> rfl
  rw [this]
  exact FE.here f3 r (by simp [RD])
theorem co_inD (hu:X.A.units + 1 < cLine):CO X EX .In (fInD false):=⟨_,op_inD hu,br_inD⟩
theorem co_ninD (hu:X.A.units + 1 < cLine):CO X EX .NotIn (fInD true):=⟨_,op_ninD hu,br_inD⟩
def rSetD:V→V→V→Hp→(Hp→Prop)→Prop:=fun o i v H Q=>∃ ad H',o = .ref ad∧DPut H ad i v H'∧Q H'
theorem set_dict (hu:X.A.units + 1 < cLine):PSet X rSetD:=by
 intro pins s σ H o i v ov iv u Q I ro ri rv h
 obtain ⟨ad,H',rfl,g,q⟩:=h
 cases ro
 exact d_setItem hu I g ri rv fun s' I'=>⟨H',I',q⟩
theorem sg_dx (hu:X.A.units + 1 < cLine) (ho:SE X EX o mo) (hi:SE X EX i mi)
 (ha:∀ v,assign (.Subscript o i pos) X.env v = (do
  let ov ← holding [v] (eval o X.env)
  let iv ← holding [v,ov] (eval i X.env)
  standAt pos
  holding [v,ov,iv] (setItem ov iv v)
  release [v,ov,iv] []):=by intro _; rfl):SG X EX (.Subscript o i pos) (gDx mo mi) :=
 ⟨PG.imp (pg_sub ho.h hi.h (set_dict hu) ha) fun v σ H Q ⟨ρ,γ,h,d,rel,rd,fin⟩=>⟨ρ,γ,h,rel,(Fin.bind fin).mono fun od ρ1 h1 H1 p1 e1 r1 f1 ov ro=>⟨ρ1,γ,h1,⟨rel.g.mono p1 e1,r1⟩,(Fin.bind f1).mono fun id ρ2 h2 H2 p2 e2 r2 f2 iv ri=>by
  have f3:=Fin.bind f2
  cases od <;> first | exact (show False from f3).elim | skip
  rename_i n
  unfold fDset at f3
  dsimp only at f3
  cases ek:keyD id with
  | none=>rw [ek] at f3; exact f3.elim
  | some k =>
   rw [ek] at f3
   have:=key_V ek ri
   subst this
   simp only [RD] at ro
   obtain ⟨q,rfl,hq⟩:=ro
   have hq2:=p2 n q hq
   dsimp only at f3
   cases e4:h2[n]? with
   | none=>rw [e4] at f3; exact f3.elim
   | some ob =>
    cases ob with
    | lst xs=>rw [e4] at f3; exact f3.elim
    | set ks=>rw [e4] at f3; exact f3.elim
    | dct=>rw [e4] at f3; exact f3.elim
    | exc c=>rw [e4] at f3; exact f3.elim
    | dF c=>rw [e4] at f3; exact f3.elim
    | dK kvs =>
     rw [e4] at f3
     dsimp only at f3
     split at f3
     ·rename_i hl
      obtain ⟨a1,n1,vs,o1,d1⟩:=r2.at e4
      rw [hq2] at n1; cases n1
      have rv:=(rd.mono p1 e1).mono p2 e2
      refine ⟨q,_,rfl,DPut.k o1 (by rw [← d1.len]; exact hl),?_⟩
      have ext:Ext X.K H2 (upd H2 q (.dK (L2.putK vs k v))):=Ext.upd (.inr ⟨_,o1,trivial⟩)
      have r3:RH X.K ρ2 (h2.set n (.dK (ptD kvs k d))) (upd H2 q (.dK (L2.putK vs k v))):=r2.setO e4 hq2 ⟨_,upd_same,(d1.put k rv).mono (Pre.refl _) ext⟩
      exact f3 ρ2 _ (Pre.refl _) ext r3 ρ2 _ (Pre.refl _) (Ext.refl _ _) r3 σ (((rel.g.mono p1 e1).mono p2 e2).mono (Pre.refl _) ext)
     ·exact f3.elim⟩⟩⟩
end
def orM {α:Type} (m n:M α):M α:=fun h=>match m h with
 | .bad=>n h
 | r=>r
def orE {α:Type} (m n:G→M α):G→M α:=fun γ=>orM (m γ) (n γ)
section
variable {X:Cx} {EX:XX} {e tg:Expr}
theorem or_cases {α:Type} (m n:M α) (h:AH):orM m n h = m h∨orM m n h = n h:=by
 unfold orM
 cases m h with
 | bad=>exact .inr rfl
 | ok a b=>exact .inl rfl
 | err a b=>exact .inl rfl
theorem si_or {m n:G→M Src} (a:SI X EX tg e m) (b:SI X EX tg e n):SI X EX tg e (orE m n) :=
 ⟨fun pins s σ H Q I ⟨ρ,γ,h,rel,fin⟩=>by
  rcases or_cases (m γ) (n γ) h with z | z <;> rw [show orE m n γ h = orM (m γ) (n γ) h from rfl,z] at fin
  ·exact a.h pins s σ H Q I ⟨ρ,γ,h,rel,fin⟩
  ·exact b.h pins s σ H Q I ⟨ρ,γ,h,rel,fin⟩⟩
end
theorem or_l {α:Type} {m n:G→M α} {γ:G} {h h1:AH} {v:α} (e:m γ h = .ok v h1):orE m n γ h = .ok v h1:=by unfold orE orM; rw [e]
theorem or_r {α:Type} {m n:G→M α} {γ:G} {h:AH} (e:m γ h = .bad):orE m n γ h = n γ h:=by unfold orE orM; rw [e]
theorem W_of {α:Type} {m:M α} {h h1:AH} {v:α} {Q:α→AH→Prop} (e:m h = .ok v h1) (q:Q v h1):W m h Q:=⟨_,_,e,q⟩
def kvN (l:List Nat):List (Key × D):=l.map fun (i:Nat)=>(.inl (i:Int),.bl true)
theorem kvN_len (l:List Nat):(kvN l).length = l.length:=by unfold kvN; simp
theorem kvN_any (l:List Nat) (x:Nat):((kvN l).any fun kv=>decide (kv.1 = .inl (x:Int))) = decide (x ∈ l):=by
 induction l with
 | nil=>rfl
 | cons a l ih =>
  have:kvN (a :: l) = (.inl (a:Int),.bl true) :: kvN l:=rfl
  rw [this,List.any_cons,ih]
  by_cases e:a = x
  ·subst e; simp
  ·have h1:¬ (Sum.inl (a:Int):Key) = .inl (x:Int):=fun z=>e (by injection z with z; exact_mod_cast z)
   simp [h1,show ¬ x = a from fun z=>e z.symm]
theorem kvN_lk (l:List Nat) (x:Nat):(lkD (kvN l) (.inl (x:Int))).isSome = decide (x ∈ l):=by
 unfold lkD
 rw [Option.isSome_map,List.isSome_find?]
 exact kvN_any l x
theorem kvN_put (l:List Nat) {x:Nat} (h:x ∉ l):ptD (kvN l) (.inl (x:Int)) (.bl true) = kvN (l++[x]):=by
 unfold ptD
 rw [kvN_any,decide_eq_false h]
 simp [kvN]
theorem w_inD {h:AH} {n:Nat} {l:List Nat} {x:Nat} {neg:Bool} (e:h[n]? = some (.dK (kvN l))):fInD neg (.int x) (.ref n) h = .ok (.bl (decide (x ∈ l) != neg)) h:=by
 have e1:dicD (.ref n) h = .ok (kvN l) h:=by unfold dicD getK; dsimp only; rw [e]
 unfold fInD
 rw [M.bind_ok e1]
 have:keyD (.int x) = some (.inl (x:Int)):=rfl
 rw [this]
 show Res.ok (D.bl ((lkD (kvN l) (.inl (x:Int))).isSome != neg)) h = _
 rw [kvN_lk]
theorem w_dset {h:AH} {n:Nat} {l:List Nat} {x:Nat} (e:h[n]? = some (.dK (kvN l))) (hx:x ∉ l) (hl:l.length < 1000):fDset (.ref n) (.int x) (.bl true) h = .ok () (h.set n (.dK (kvN (l++[x])))):=by
 have:keyD (.int x) = some (.inl (x:Int)):=rfl
 unfold fDset
 dsimp only
 rw [this]
 dsimp only
 rw [e]
 dsimp only
 rw [if_pos (by rw [kvN_len]; unfold sizeLine; omega),kvN_put l hx]
def putN (acc:List Nat) (k:Nat):List Nat:=if k ∈ acc then acc else acc++[k]
def dedN (l:List Nat):List Nat:=l.foldl putN []
theorem putN_mem {a:List Nat} {k x:Nat}:x ∈ putN a k ↔ x ∈ a∨x = k:=by
 unfold putN
 split
 ·exact ⟨.inl,fun h=>h.elim id fun e=>by subst e; assumption⟩
 ·simp
theorem putN_nd {a:List Nat} {k:Nat} (h:a.Nodup):(putN a k).Nodup:=by
 unfold putN
 split
 ·exact h
 ·exact nodup_put h ‹_›
theorem fold_mem {x:Nat}:∀ {l a:List Nat},x ∈ l.foldl putN a ↔ x ∈ a∨x ∈ l
 | [],a=>by simp
 | k :: l,a=>by rw [List.foldl_cons,fold_mem,putN_mem,List.mem_cons]; exact or_assoc
theorem fold_nd:∀ {l a:List Nat},a.Nodup→(l.foldl putN a).Nodup
 | [],_,h=>h
 | _ :: l,_,h=>fold_nd (l:=l) (putN_nd h)
theorem dedN_mem {l:List Nat} {x:Nat}:x ∈ dedN l ↔ x ∈ l:=by unfold dedN; rw [fold_mem]; simp
theorem dedN_nd (l:List Nat):(dedN l).Nodup:=fold_nd List.nodup_nil
theorem fold_kN:∀ (l a:List Nat),(kN l).foldl putK (kN a) = kN (l.foldl putN a)
 | [],a=>rfl
 | k :: l,a=>by
  have e:putK (kN a) (.inl (k:Int)) = kN (putN a k):=by
   unfold putN
   split
   ·rename_i h
    unfold putK
    rw [if_pos (kN_mem.mpr h)]
   ·exact put_kN ‹_›
  show (kN l).foldl putK (putK (kN a) (.inl (k:Int))) = _
  rw [e]
  exact fold_kN l (putN a k)
theorem ded_kN (l:List Nat):dedK (kN l) = kN (dedN l):=fold_kN l []
theorem dedN_len {l:List Nat} {n:Nat} (h:∀ x ∈ l,x < n):(dedN l).length ≤ n:=nodup_len (dedN_nd l) fun x hx=>h x (dedN_mem.mp hx)
theorem keys_st:∀ l:List Nat,keysD (stD l) = some (kN l)
 | []=>rfl
 | a :: l=>by
  have:keysD (stD (a :: l)) = (match keyD (.int (a:Int)),keysD (stD l) with
   | some k,some ks=>some (k :: ks)
   | _,_=>none):=rfl
  rw [this,keys_st l]; rfl
def setN (l:List Nat):List Nat:=sortN (dedN l)
theorem setN_mem {l:List Nat} {x:Nat}:x ∈ setN l ↔ x ∈ l:=by unfold setN; rw [sortN_mem,dedN_mem]
theorem setN_rise (l:List Nat):(setN l).Pairwise (· < ·):=sortN_rise (dedN_nd l)
theorem rise_nd {l:List Nat} (h:l.Pairwise (· < ·)):l.Nodup:=h.imp fun h=>Nat.ne_of_lt h
theorem rise_ext {l m:List Nat} (a:l.Pairwise (· < ·)) (b:m.Pairwise (· < ·)) (h:∀ x,x ∈ l ↔ x ∈ m):l = m :=
 ((List.perm_ext_iff_of_nodup (rise_nd a) (rise_nd b)).mpr h).eq_of_pairwise (fun _ _ _ _ h1 h2=>absurd h2 (Nat.lt_asymm h1)) a b
theorem setN_ext {l m:List Nat} (h:∀ x,x ∈ l ↔ x ∈ m):setN l = setN m:=rise_ext (setN_rise l) (setN_rise m) fun x=>by rw [setN_mem,setN_mem]; exact h x
theorem setN_len {l:List Nat} {n:Nat} (h:∀ x ∈ l,x < n):(setN l).length ≤ n:=by unfold setN; rw [sortN_len]; exact dedN_len h
inductive RchT (st:List (List Nat)) (T:List Nat) (x:Nat):Nat→Prop
 | here:RchT st T x x
 | step {a b:Nat}:RchT st T x a→b ∈ nx st a→b ∉ T→RchT st T x b
theorem rchT_lt {st:List (List Nat)} {T:List Nat} {x a n:Nat} (q:∀ a,∀ b ∈ nx st a,b < n) (hx:x < n) (h:RchT st T x a):a < n:=by
 induction h with
 | here=>exact hx
 | step _ b _ _=>exact q _ _ b
theorem rchT_in {st:List (List Nat)} {T:List Nat} {x:Nat} {S:List Nat} (hx:x ∈ S) (cl:∀ a ∈ S,∀ b ∈ nx st a,b ∈ S∨b ∈ T) {a:Nat} (h:RchT st T x a):a ∈ S:=by
 induction h with
 | here=>exact hx
 | step _ b c ih=>exact (cl _ ih _ b).resolve_right c
structure FndT (st:List (List Nat)) (T:List Nat) (x:Nat) (S:List Nat):Prop where
 nd:S.Nodup
 rc:∀ a ∈ S,RchT st T x a
 hx:x ∈ S
 nt:∀ a ∈ S,a ∉ T
theorem FndT.put {st:List (List Nat)} {T:List Nat} {x a b:Nat} {S:List Nat} (f:FndT st T x S) (ha:a ∈ S) (hb:b ∈ nx st a) (nb:b ∉ S) (nt:b ∉ T):FndT st T x (S++[b]) :=
 ⟨nodup_put f.nd nb,fun c hc=>by
  rcases List.mem_append.mp hc with q | q
  ·exact f.rc c q
  ·simp at q; subst q; exact .step (f.rc a ha) hb nt,List.mem_append_left _ f.hx,fun c hc=>by
  rcases List.mem_append.mp hc with q | q
  ·exact f.nt c q
  ·simp at q; subst q; exact nt⟩
theorem FndT.one {st:List (List Nat)} {T:List Nat} {x:Nat} (h:x ∉ T):FndT st T x [x]:=⟨by simp,fun a ha=>by simp at ha; subst ha; exact .here,by simp,fun a ha=>by simp at ha; subst ha; exact h⟩
section
variable {ma me:G→M D} {mt:G→M Out} {γ:G} {h:AH} {a b i:Nat} {xs:List D} {v:D} {Q:Out→AH→Prop}
theorem asRef_h (e:h[i]? = some (.lst xs)):asRef (.ref i) h = .ok i h:=by unfold asRef; dsimp only; rw [e]
theorem append_h (e:h[i]? = some (.lst xs)) (hl:xs.length < 1000000):fAppend i v h = .ok .non (h.set i (.lst (xs++[v]))):=by
 unfold fAppend updL
 rw [e]
 dsimp only
 rw [if_pos (by simp [sizeLine]; omega)]
theorem pop_h (e:h[i]? = some (.lst (xs++[v]))) (hl:xs.length < 1000000):fPop i h = .ok v (h.set i (.lst xs)):=by
 unfold fPop updL
 rw [e]
 dsimp only
 rw [show (xs++[v])[(xs++[v]).length - 1]? = some v by simp,Option.map_some]
 dsimp only
 rw [if_pos (by simp [sizeLine]; omega),List.dropLast_concat]
theorem q_append (ea:γ[a]? = some (some (.ref i))) (e:h[i]? = some (.lst xs)) (hl:xs.length < 1000000) (ev:me γ h = .ok v h) (z:W (mt γ) (h.set i (.lst (xs++[v]))) Q):W (bCons (sExpr (eM1 fAppend (eVar a) me)) mt γ) h Q:=by
 refine q_expr ?_
 have e1:eVar a γ = pure (.ref i):=by unfold eVar; rw [ea]
 unfold eM1
 rw [e1,bindP,W_bind]
 refine W_of (asRef_h e) ?_
 rw [W_bind]
 exact W_of ev (W_of (append_h e hl) z)
theorem q_pop (ea:γ[a]? = some (some (.ref i))) (e:h[i]? = some (.lst (xs++[v]))) (hl:xs.length < 1000000) (z:W (mt (γ.set b (some v))) (h.set i (.lst xs)) Q):W (bCons (sAsg (eM0 fPop (eVar a)) (gN b)) mt γ) h Q:=by
 refine q_setw ?_
 have e1:eVar a γ = pure (.ref i):=by unfold eVar; rw [ea]
 unfold eM0
 rw [e1,bindP,W_bind]
 exact W_of (asRef_h e) (W_of (pop_h e hl) z)
theorem q_dset {l:List Nat} {x:Nat} (ea:γ[a]? = some (some (.ref i))) (eb:γ[b]? = some (some (.int x))) (e:h[i]? = some (.dK (kvN l))) (hx:x ∉ l) (hl:l.length < 1000) (z:W (mt γ) (h.set i (.dK (kvN (l++[x])))) Q):W (bCons (sAsg (fun _=>pure (.bl true)) (gDx (eVar a) (eVar b))) mt γ) h Q:=by
 have e1:eVar a γ = pure (.ref i):=by unfold eVar; rw [ea]
 have e2:eVar b γ = pure (.int x):=by unfold eVar; rw [eb]
 rw [w_cons]
 unfold sAsg gDx
 rw [bindP,e1,bindP,e2,bindP]
 rw [W_bind,W_bind]
 refine W_of (w_dset e hx hl) ?_
 rw [W_pure,W_pure]
 exact z
theorem q_new (hl:xs.length ≤ 1000000) (ev:∀ h,me γ h = newL xs h) (z:W (mt (γ.set a (some (.ref h.length)))) (h++[.lst xs]) Q):W (bCons (sAsg me (gN a)) mt γ) h Q:=by
 refine q_setw ?_
 have:me γ = newL xs:=funext ev
 rw [this]
 exact W_new hl z
theorem cval_h (ea:γ[a]? = some (some (.ref i))) (e:h[i]? = some (.lst xs)):cVal (eVar a) γ h = .ok (!xs.isEmpty) h:=by
 have e1:eVar a γ = pure (.ref i):=by unfold eVar; rw [ea]
 unfold cVal
 rw [e1,bindP]
 unfold truD
 dsimp only
 have e2:getL i h = .ok xs h:=by unfold getL; rw [e]
 rw [M.bind_ok e2]
 rfl
theorem call1_h {f:List D→M D} {d:D} {h1:AH} {r:Res D} (e:me γ h = .ok d h1) (e2:f [d] h1 = r):eCall f (aCons me aNil) γ h = r:=by
 have:aCons me aNil γ h = .ok [d] h1:=by
  show (me γ >>= fun x=>(do let r ← aNil γ; pure (x :: r):M (List D))) h = _
  rw [M.bind_ok e]; rfl
 show (aCons me aNil γ >>= f) h = _
 rw [M.bind_ok this]; exact e2
theorem tup_h (e:h[i]? = some (.lst xs)):fTuple [.ref i] h = .ok (.tup xs) h:=by
 have ft:fTuple [.ref i] = (do let x ← getL i; pure (.tup x)):=rfl
 have g:getL i h = .ok xs h:=by unfold getL; rw [e]
 rw [ft,M.bind_ok g]; rfl
theorem len_h (e:h[i]? = some (.lst xs)):fLen [.ref i] h = .ok (.int xs.length) h:=by
 have ft:fLen [.ref i] = (do let x ← getL i; pure (.int x.length)):=rfl
 have g:getL i h = .ok xs h:=by unfold getL; rw [e]
 rw [ft,M.bind_ok g]; rfl
theorem ix_h {t:Int} {d:D} (e:h[i]? = some (.lst xs)) (a:atI xs t = some d):fIx (.ref i) (.int t) h = .ok d h:=by
 have ft:fIx (.ref i) (.int t) = (do let xs ← getL i; match atI xs t with | some d=>pure d | none=>bad):=rfl
 have g:getL i h = .ok xs h:=by unfold getL; rw [e]
 rw [ft,M.bind_ok g,a]; rfl
theorem sortS_h {ss:List Str} (e:h[i]? = some (.lst (ss.map .str))) (hl:ss.length < 64):fSorted [.ref i] h = .ok (.ref h.length) (h++[.lst ((sortS ss).map .str)]):=by
 have fs:fSorted [.ref i] = (do
  let xs ← getL i
  if xs.length < 64 then (match strsD xs with
   | some ss=>newL ((sortS ss).map .str)
   | none=>(match numsD xs with
    | some ns=>newL ((sortI ns).map .int)
    | none=>bad)) else bad):=rfl
 have g:getL i h = .ok (ss.map .str) h:=by unfold getL; rw [e]
 rw [fs,M.bind_ok g,if_pos (by simpa using hl),strs_map]
 dsimp only
 unfold newL
 rw [if_pos (by rw [List.length_map,sortS_len]; unfold sizeLine; omega)]
theorem clTup_h (e:me γ h = .ok (.ref h.length) (h++[.lst xs])) (c:refLts 0 xs = true):clE (eCall fTuple (aCons me aNil)) γ h = .ok (.tup xs) h :=
 cln_of (j:=[.lst xs]) (call1_h e (tup_h (by simp))) (by simp only [refLt]; exact refLts_up (Nat.zero_le _) c)
theorem cb_h {b:Bool} {h1:AH} (e:me γ h = .ok (.bl b) h1):(fun γ=>(do let d ← me γ; asB d:M Bool)) γ h = .ok b h1:=by
 dsimp only
 rw [M.bind_ok e]; rfl
theorem run_h {n:Nat} {mb:G→M Out} {ds:List D} {d:D} {h1:AH} (z:W (mb (startG n ds)) h (runW fun a h'=>a = d∧h' = h1)):runF n mb ds h = .ok d h1:=by
 obtain ⟨_,_,a,rfl,rfl⟩:=w_run z
 exact a
end
theorem eqZ_map {f:D→D→Option Bool} {ι:Type} [DecidableEq ι] {enc:ι→D} (e:∀ a b,f (enc a) (enc b) = some (decide (a = b))):∀ l m:List ι,eqZ f (l.map enc) (m.map enc) = some (decide (l = m))
 | [],[]=>by simp [eqZ]
 | [],b :: m=>by simp [eqZ]
 | a :: l,[]=>by simp [eqZ]
 | a :: l,b :: m=>by
  rw [List.map_cons,List.map_cons]
  unfold eqZ
  rw [e a b,eqZ_map e l m]
  dsimp only
  congr 1
  rw [Bool.eq_iff_iff]
  simp
theorem eqN_int {n:Nat} {h:AH} (a b:Nat):eqN (n + 1) h (.int a) (.int b) = some (decide (a = b)):=by
 show some ((a:Int) == (b:Int)) = _
 congr 1
 rw [Bool.eq_iff_iff,beq_iff_eq,decide_eq_true_eq]
 exact Int.ofNat_inj
theorem eqN_tup {ι:Type} [DecidableEq ι] {enc:ι→D} {n:Nat} {h:AH} (e:∀ a b,eqN n h (enc a) (enc b) = some (decide (a = b))) (l m:List ι):eqN (n + 1) h (.tup (l.map enc)) (.tup (m.map enc)) = some (decide (l = m)):=eqZ_map e l m
theorem eqN_ref {ι:Type} [DecidableEq ι] {enc:ι→D} {n:Nat} {h:AH} (e:∀ a b,eqN n h (enc a) (enc b) = some (decide (a = b))) {l m:List ι} {i j:Nat} (hi:h[i]? = some (.lst (l.map enc))) (hj:h[j]? = some (.lst (m.map enc))):eqN (n + 1) h (.ref i) (.ref j) = some (decide (l = m)):=by
 have v1:vw h (.ref i) = .lst (l.map enc):=by unfold vw; dsimp only; rw [hi]
 have v2:vw h (.ref j) = .lst (m.map enc):=by unfold vw; dsimp only; rw [hj]
 unfold eqN
 rw [v1,v2]
 exact eqZ_map e l m
theorem eqX_of {neg:Bool} {h:AH} {x y:D} {b:Bool} (e:eqN 24 h x y = some b):fEqX neg x y h = .ok (.bl (b != neg)) h:=by
 unfold fEqX; rw [e]
theorem eqX_lst {l m:List Nat} {neg:Bool} {h:AH} {i j:Nat} (hi:h[i]? = some (.lst (stD l))) (hj:h[j]? = some (.lst (stD m))):fEqX neg (.ref i) (.ref j) h = .ok (.bl (decide (l = m) != neg)) h:=eqX_of (eqN_ref (enc:=fun (i:Nat)=>.int i) eqN_int hi hj)
section
variable {ma mb:G→M D} {γ:G} {h h1 h2:AH}
theorem e2_h {f:D→D→M D} {x y:D} {r:Res D} (e1:ma γ h = .ok x h1) (e2':mb γ h1 = .ok y h2) (e3:f x y h2 = r):e2 f ma mb γ h = r:=by
 show (ma γ >>= fun x=>(mb γ >>= fun y=>f x y)) h = _
 rw [M.bind_ok e1,M.bind_ok e2',e3]
theorem fn_h {n:Nat} {f:List D→M D} {mr:G→M (List D)} {ds:List D} {r:Res D} (e:mr γ h = .ok ds h1) (hn:ds.length = n) (e2:f ds h1 = r):eFn n f mr γ h = r:=by
 show (mr γ >>= fun xs=>if xs.length = n then f xs else bad) h = _
 rw [M.bind_ok e,if_pos hn,e2]
theorem ac_h {mr:G→M (List D)} {d:D} {ds:List D} (e:ma γ h = .ok d h1) (e2:mr γ h1 = .ok ds h2):aCons ma mr γ h = .ok (d :: ds) h2:=by
 show (ma γ >>= fun x=>(mr γ >>= fun r=>(pure (x :: r):M (List D)))) h = _
 rw [M.bind_ok e,M.bind_ok e2]; rfl
end
end FT
set_option maxHeartbeats 1600000
namespace FT
open PySem PySem.Spec PyProof.Rows L2
section
variable {prog:Program} {w:World} {A:Around} {E:Value→Shared→Prop} {s:Shared}
end
section
variable {X:Cx} {EX:XX} {a o:Expr} {pos apos cpos p:Pos} {mo ma:G→M D} {mr:G→M (List D)}
end
end FT
set_option maxHeartbeats 2000000
namespace FT
open PySem PySem.Spec PyProof.Rows L2
theorem in_refh {h:AH} {n:Nat} {l:List Nat} {x:Nat} {neg:Bool} (e:h[n]? = some (.lst (stD l))):fIn neg (.int x) (.ref n) h = .ok (.bl (decide (x ∈ l) != neg)) h:=by
 have g:getL n h = .ok (stD l) h:=by unfold getL; rw [e]
 unfold fIn seqD
 rw [M.bind_ok g,flat_st,any_st]
 rfl
theorem at_nw {h:AH} {o:O}:(h++[o])[h.length]? = some o:=by simp
theorem set_nw {h:AH} {o o':O}:(h++[o]).set h.length o' = h++[o']:=by simp
theorem sortN_h {h:AH} {i:Nat} {S:List Nat} (hl:S.length < 64) (e:h[i]? = some (.lst (stD S))):fSorted [.ref i] h = .ok (.ref h.length) (h++[.lst (stD (sortN S))]):=by
 have fs:fSorted [.ref i] = (do
  let xs ← getL i
  if xs.length < 64 then (match strsD xs with
   | some ss=>newL ((sortS ss).map .str)
   | none=>(match numsD xs with
    | some ns=>newL ((sortI ns).map .int)
    | none=>bad)) else bad):=rfl
 have g:getL i h = .ok (stD S) h:=by unfold getL; rw [e]
 cases S with
 | nil =>
  rw [fs,M.bind_ok g,if_pos (by rw [st_len]; exact hl)]
  have e1:strsD (stD []) = some []:=rfl
  have e2:(sortS []).map D.str = stD (sortN []):=by
   have a:sortS [] = []:=List.length_eq_zero_iff.mp (by rw [sortS_len]; rfl)
   have b:sortN [] = []:=List.length_eq_zero_iff.mp (by rw [sortN_len]; rfl)
   rw [a,b]; rfl
  rw [e1]
  dsimp only
  rw [e2]
  unfold newL
  rw [if_pos (by rw [st_len,sortN_len]; unfold sizeLine; simp)]
 | cons a S =>
  have sn:strsD (stD (a :: S)) = none:=rfl
  rw [fs,M.bind_ok g,if_pos (by rw [st_len]; exact hl),sn,nums_stD]
  dsimp only
  rw [sortN_int]
  unfold newL
  rw [if_pos (by rw [st_len,sortN_len]; unfold sizeLine; omega)]
section
variable {mo ma:G→M D} {γ:G} {h:AH} {i x:Nat} {l:List Nat}
end
section
variable {me ma:G→M D} {kb:G→M Bool} {γ:G} {h h1:AH} {a i:Nat} {b:Bool} {xs:List D}
theorem cv_h (e:me γ h = .ok (.bl b) h1):cVal me γ h = .ok b h1:=by
 unfold cVal
 rw [M.bind_ok e]
 rfl
theorem cn_h (e:kb γ h = .ok b h1):cNot kb γ h = .ok (!b) h1:=by
 unfold cNot
 rw [M.bind_ok e]
 rfl
theorem var_h {d:D} (e:γ[a]? = some (some d)):eVar a γ h = .ok d h:=by unfold eVar; rw [e]; rfl
theorem seqL_h (e:me γ h = .ok (.ref i) h) (q:h[i]? = some (.lst xs)):iSeqL me γ h = .ok (.lst i xs) h:=by
 have g:getL i h = .ok xs h:=by unfold getL; rw [q]
 unfold iSeqL
 rw [M.bind_ok e]
 dsimp only
 rw [M.bind_ok g]
 rfl
theorem seqT_h (e:me γ h = .ok (.tup xs) h1):iSeqT me γ h = .ok (.con xs) h1:=by
 unfold iSeqT
 rw [M.bind_ok e]
 rfl
theorem orL_h (e:me γ h = .ok (.ref i) h) (q:h[i]? = some (.lst xs)):orE (iSeqT me) (iSeqL me) γ h = .ok (.lst i xs) h:=by
 rw [or_r]
 ·exact seqL_h e q
 ·unfold iSeqT
  rw [M.bind_ok e]
  rfl
theorem orT_h (e:me γ h = .ok (.tup xs) h1):orE (iSeqT me) (iSeqL me) γ h = .ok (.con xs) h1:=or_l (seqT_h e)
theorem comp_st {cap:List (Option Nat)} {mi:G→M Src} {g:D→G→M G} {src:Src} {l:List Nat} (p:Nat→Bool) (f:Nat→D) (hi:mi γ h = .ok src h) (hs:src.items = stD l) (hg:∀ j,src.good (h++j)) (hl:l.length ≤ 1000000)
 (hd:∀ x ∈ l,∃ γ1,(∀ h,g (.int x) (capG cap γ) h = .ok γ1 h)∧(∀ j,kb γ1 (h++j) = .ok (p x) (h++j))∧(p x = true→∀ j,me γ1 (h++j) = .ok (f x) (h++j))):eComp cap mi g kb me γ h = .ok (.ref h.length) (h++[.lst ((l.filter p).map f)]):=by
 refine (comp_px (src:=src) (fun d=>match d with | .int t=>p t.toNat | _=>false) (fun d=>match d with | .int t=>f t.toNat | _=>.non) hi hg (by rw [hs,st_len]; exact hl) fun d hd'=>?_).trans ?_
 ·rw [hs] at hd'
  obtain ⟨x,hx,rfl⟩:=List.mem_map.mp hd'
  exact hd x hx
 ·rw [hs]
  unfold stD
  rw [List.filter_map,List.map_map]
  rfl
end
theorem ref_ma {n:Nat} (st:List (List Nat)) (mk:List (List Str)):refLt n (maD st mk) = true:=by
 unfold maD stsD mksD
 simp only [refLt,refLts,Bool.and_true,Bool.and_eq_true]
 exact ⟨refLts_map fun a=>ref_st a,refLts_map fun a=>by simp only [refLt]; exact refs_strs _⟩
theorem tup2_h {ma mb:G→M D} {γ:G} {h h1 h2:AH} {x y:D} (e1:ma γ h = .ok x h1) (e2':mb γ h1 = .ok y h2):eTup (aCons ma (aCons mb aNil)) γ h = .ok (.tup [x,y]) h2:=by
 have e3:aCons ma (aCons mb aNil) γ h = .ok [x,y] h2:=ac_h e1 (ac_h e2' rfl)
 unfold eTup
 rw [M.bind_ok e3]
 rfl
theorem updL_h {f:List D→Option (D × List D)} {n:Nat} {h:AH} {xs ys:List D} {d:D} (e:h[n]? = some (.lst xs)) (ef:f xs = some (d,ys)) (l:ys.length ≤ sizeLine):updL n f h = .ok d (h.set n (.lst ys)):=by
 unfold updL
 rw [e]
 dsimp only
 rw [ef]
 dsimp only
 rw [if_pos l]
theorem q_setg {ma:G→M D} {g:D→G→M G} {mt:G→M Out} {γ:G} {h:AH} {Q:Out→AH→Prop} (J:D→AH→Prop) (z:W (ma γ) h J) (f:∀ d h1,J d h1→∃ γ',g d γ = pure γ'∧W (mt γ') h1 Q):W (bCons (sAsg ma g) mt γ) h Q:=by
 rw [w_cons]
 unfold sAsg
 rw [W_bind]
 refine z.mono fun d h1 q=>?_
 obtain ⟨γ',e,w⟩:=f d h1 q
 rw [e,bindP,W_pure]
 exact w
theorem comp_g {cap:List (Option Nat)} {mi:G→M Src} {g:D→G→M G} {kb:G→M Bool} {me:G→M D} {γ:G} {h h1:AH} {src:Src} {l:List Nat} (f:Nat→D) (hi:mi γ h = .ok src h1) (hs:src.items = stD l) (hg:∀ j,src.good (h1++j)) (hl:l.length < 1000000)
 (hd:∀ x ∈ l,∃ γ1,(∀ h,g (.int x) (capG cap γ) h = .ok γ1 h)∧(∀ h,kb γ1 h = .ok true h)∧∀ j,∃ j',me γ1 (h1++j) = .ok (f x) (h1++j++j')):∃ j,eComp cap mi g kb me γ h = .ok (.ref h1.length) (h1++(.lst (l.map f) :: j)):=by
 have:W (eComp cap mi g kb me γ) h fun d h'=>d = .ref h1.length∧∃ j,h' = h1++(.lst (l.map f) :: j):=by
  refine comp_w ?_
  refine W_of hi ⟨fun i h'=>∃ j,h' = h1++(.lst ((l.take i).map f) :: j),⟨[],by simp⟩,?_,?_,?_⟩
  ·rintro i _ ⟨j,rfl⟩
   exact hg _
  ·rintro i d _ e ⟨j,rfl⟩
   rw [hs] at e
   obtain ⟨x,rfl,ex⟩:=st_get e
   obtain ⟨hi',ex'⟩:=List.getElem?_eq_some_iff.mp ex
   obtain ⟨γ1,e1,e2',e3⟩:=hd x (List.mem_of_getElem? ex)
   refine W_of (e1 _) (W_of (e2' _) ?_)
   rw [if_pos rfl]
   obtain ⟨j',e4⟩:=e3 (.lst ((l.take i).map f) :: j)
   refine W_of e4 ?_
   refine W_of (append_h (i:=h1.length) (xs:=(l.take i).map f) (by simp) (by rw [List.length_map,List.length_take]; omega)) ?_
   refine ⟨j++j',?_⟩
   rw [List.append_assoc,List.set_append_right _ _ (Nat.le_refl _),Nat.sub_self,List.cons_append,List.set_cons_zero,List.take_succ_eq_append_getElem hi',ex',List.map_append]
   rfl
  ·rintro _ ⟨j,rfl⟩
   rw [hs,st_len,List.take_length]
   exact ⟨rfl,j,rfl⟩
 obtain ⟨d,h',e,rfl,j,rfl⟩:=this
 exact ⟨j,e⟩
def rowAt (row:List Nat) (o:Nat):Nat:=(row[o]?).getD 0
theorem nx_get {l:List (List Nat)} {i:Nat} (h:i < l.length):l[i]? = some (nx l i):=by unfold nx; rw [List.getElem?_eq_getElem h]; rfl
def led (st:List (List Nat)) (row:List Nat) (x:Nat):List Nat:=setN ((nx st x).map (rowAt row))
section
variable {raw:List Nat}
end
section
variable {bst st:List (List Nat)} {bmk mk:List (List Str)} {raw:List Nat}
end
section
variable {X:Cx} {EX:XX} {e:Expr} {es:List Expr} {te:TE} {t:TA} {p pos:Pos} {ma:G→M D} {mr:G→M (List D)}
end
end FT
namespace L2
open PySem PySem.Spec PyProof.Rows
section
variable {X:Cx} {tg:Expr}
end
end L2
namespace FT
open PySem PySem.Spec PyProof.Rows L2
section
variable {X:Cx} {EX:XX} {a b c tg:Expr} {p p2 pos pos2:Pos} {ma mb mc:G→M D}
end
end FT
namespace L2
open PySem PySem.Spec PyProof.Rows
section
variable {X:Cx}
end
end L2
namespace FT
open PySem PySem.Spec PyProof.Rows L2
section
variable {X:Cx} {EX:XX} {a b:Expr} {p p2 pos pos2:Pos} {ma mb:G→M D}
end
section
variable {X:Cx} {EX:XX}
end
end FT
namespace L2
open PySem PySem.Spec PyProof.Rows
section
variable {X:Cx} {elt tg iter tg1 iter1:Expr} {ifs1:List Expr} {sc:Scope} {pos:Pos} {N':List Str} {cap:List (Option Nat)} {g g1:TG} {wi1:TI} {ti:TT} {te:TE}
end
end L2
namespace FT
open PySem PySem.Spec PyProof.Rows L2
section
variable {X:Cx} {EX:XX} {elt tg iter tg1 iter1:Expr} {ifs1:List Expr} {sc:Scope} {pos:Pos} {N':List Str} {cap:List (Option Nat)} {own own1:List Nat} {mi mi1:G→M Src} {g g1:D→G→M G} {k:G→M Bool} {me:G→M D}
end
def cnt (st:List (List Nat)):Nat→Nat→Nat
 | 0,_=>1
 | n + 1,x=>((nx st x).map (cnt st n)).sum
def lastN (w:List Nat):Nat:=w.getLast?.getD 0
def ext (st:List (List Nat)) (left:Nat) (w:List Nat):List (List Nat):=((nx st (lastN w)).filter fun y=>decide (0 < cnt st left y)).map fun y=>w++[y]
section
variable {st:List (List Nat)}
end
end FT
namespace L2
open PySem PySem.Spec PyProof.Rows
open PySem.AutoSeq1 (wpAny_loadPart')
section
variable {P:Program} {w:World} {A:Around} {E:Value→Shared→Prop} {s:Shared} {I t:Addr}
end
section
variable {X:Cx} {tg:Expr}
end
end L2
namespace FT
open PySem PySem.Spec PyProof.Rows L2
section
variable {X:Cx} {EX:XX} {a tg:Expr} {p pos:Pos} {ma:G→M D}
end
end FT
namespace L2
open PySem PySem.Spec PyProof.Rows
open PySem.AutoSeq1 (wpAny_loadPart')
theorem extend_tup (l:Addr) (items:Array Value) (n:Nat) (b:Addr) (items2:Array Value) (n2:Nat) (dd:Option Addr) (sl:Array (Option Value)) (h1:¬(!items.isEmpty && Builtin.List.listTooLong (items.size + items2.size)) = true) (h2:items.size ≤ sizeLine) (h3:items.size + items2.size ≤ sizeLine + 1) :
 Meets (Builtin.«list.extend» ⟨[.ref l,.ref b],[]⟩) (fun A R s=>s.heap.get? l = some { cls:=.type "list",data:=.seq items n }∧s.heap.get? b = some { cls:=.type "tuple",dict:=dd,data:=.seq items2 n2,slots:=sl }∧R (.ok (.ret .none)) { s with heap:=s.heap.update l (Obj.mapSeq fun x=>x++items2) }) :=
 .of_wp fun prog w A R s h=>by
  obtain ⟨hp,g,d,tk,os⟩:=s; obtain ⟨hl,hb,h⟩:=h
  have hT:Shared.TypeIs ⟨hp,g,d,tk,os⟩ (.ref b) "tuple":=⟨_,hb,rfl⟩
  have hT2:Shared.TypeIs ⟨hp,g,d,tk,os⟩ (.ref l) "list":=⟨_,hl,rfl⟩
  wp_walk using wpAny_loadPart' hl,wpAny_loadPart' hb,wpAny_typeOf hT,wpAny_typeOf hT2
  have e:(Obj.mapSeq (fun x=>x++items2) { cls:=Value.type "list",data:=Data.seq items n }).data.pastItsLine = none:=by
   unfold Data.pastItsLine Obj.mapSeq
   simp
   omega
  rw [e]
  exact wpAny_pure (wpAny_pure ⟨_,rfl,h⟩)
section
variable {X:Cx}
def rExtT (K:PySem.W.Frag):V→List V→Hp→VK→Prop:=fun x vs H Q=>∃ l b xs zs,x = .ref l∧vs = [.ref b]∧H l = some (.lst xs)∧SqT K H b zs∧xs.length + zs.length ≤ sizeLine∧Q .non (upd H l (.lst (xs++zs)))
theorem mt_extT:MtM X "list.extend" (fun x vs H Q=>rExtend x vs H Q∨rExtT X.K x vs H Q):=by
 intro pins s σ H x vs v us Q I rx rv h
 rcases h with h | h
 ·exact mt_extend pins s σ H x vs v us Q I rx rv h
 obtain ⟨l,b,xs,zs,rfl,rfl,hH,hB,hz,q⟩:=h
 cases rx
 obtain ⟨u,rfl,ru⟩:=rv.one
 cases ru
 obtain ⟨z,its,n,r,hl,e⟩:=I.lstM hH
 obtain ⟨its2,r2,p2,z2⟩:=I.tuple hB
 have hl2:=r2.length
 obtain ⟨⟨oc,od,odt,osl⟩,ho,hc,n2,hd⟩:=p2
 dsimp only at hc hd
 subst hc hd
 have hsz:its.toArray.size + its2.toArray.size ≤ sizeLine:=by rw [List.size_toArray,List.size_toArray]; omega
 have hlong:¬ (!its.toArray.isEmpty && Builtin.List.listTooLong (its.toArray.size + its2.toArray.size)) = true:=by
  rw [notLongL hsz,Bool.and_false]
  exact Bool.false_ne_true
 refine call_meets F.slot_list_extend ⟨_,e,rfl⟩ F.entry_list_extend (F.args_list_extend_2 _ _)
  (extend_tup l its.toArray n b its2.toArray n2 _ _ hlong (by rw [List.size_toArray]; omega) (by omega)) ⟨e,ho,?_⟩
 refine ⟨.non,_,I.lset (its':=its++its2) hH e (by simp) (r.append r2) ?_,rfl,q⟩
 rw [List.length_append]
 omega
end
end L2
namespace FT
open PySem PySem.Spec PyProof.Rows L2
def fExtend (n:Nat) (y:D):M D:=match y with
 | .tup ys=>updL n fun xs=>some (.non,xs++ys)
 | .ref m=>do
  let ys ← getL m
  updL n fun xs=>some (.non,xs++ys)
 | _=>bad
section
variable {X:Cx} {EX:XX} {a o:Expr} {cpos apos:Pos} {ma mo:G→M D}
theorem se_extend (ho:SE X EX o mo) (ha:SE X EX a ma)
 (hbase:attributeBase o "extend" X.env (eval o X.env) = eval o X.env:=by rfl)
 (hfew:((backTo cpos (starEach [a] X.env)).all (fun x=>!x.1) && (backToKw cpos (keywordEach [] X.env)).all (fun x=>x.1.isSome)
  && decide (([a]:List Expr).length + ([]:List Keyword).length + (if ([]:List Keyword).isEmpty then 0 else 1) < 30)) = true:=by rfl)
 (hline:(apos.endLine == cpos.line) = true:=by rfl) (hs:starEach [a] X.env = [(false,eval a X.env)]:=by rfl) :
 SE X EX (.Call (.Attribute o "extend" apos) [a] [] cpos) (eM1 fExtend mo ma) :=
 ⟨PE.imp (pe_bm PySem.F.plainAttrs_list PySem.F.slot_list_extend PySem.F.type_list_extend mt_extT ho.h (pa_cons ha.h pa_nil hs) hbase hfew hline hs rfl) (meth1 fun ρ h H n q y u Q r hq ru fin=>by
  cases y <;> first | exact (show False from fin).elim | skip
  ·rename_i zs
   obtain ⟨xs,d,ys,vs,g1,g2,g3,g4,g5⟩:=updL_rel r hq (show FE X.K EX ρ H Q (updL n (fun xs=>some (.non,xs++zs)) h) from fin)
   cases g1
   simp only [RD] at ru
   obtain ⟨b,us,rfl,k2,k3⟩:=ru
   have hl:=g4.length
   have hl2:=k3.length
   rw [List.length_append] at g2
   exact .inr ⟨q,b,vs,us,rfl,rfl,g3,k2,by omega,g5 _ _ (by simp [RD]) (g4.append k3)⟩
  ·rename_i m
   simp only [RD] at ru
   obtain ⟨b,rfl,hb⟩:=ru
   have f2:Fin X.K EX ρ H _ _:=Fin.bind (show Fin X.K EX ρ H (fun d ρ' _ H'=>∀ v,RD X.K ρ' H' d v→Q v H') ((getL m >>= fun ys=>updL n fun xs=>some (.non,xs++ys)) h) from fin)
   cases e3:getL m h with
   | bad=>rw [e3] at f2; exact f2.elim
   | err z hz=>exact (getL_no e3).elim
   | ok zs h3 =>
    obtain ⟨rfl,q1⟩:=getL_ok e3
    rw [e3] at f2
    obtain ⟨a1,n1,us,o1,d1⟩:=r.at q1
    rw [hb] at n1; cases n1
    obtain ⟨xs,d,ys,vs,g1,g2,g3,g4,g5⟩:=updL_rel r hq (f2 ρ H (Pre.refl _) (Ext.refl _ _) r)
    cases g1
    have hl:=g4.length
    have hl2:=d1.length
    rw [List.length_append] at g2
    exact .inl ⟨q,_,vs,us,rfl,rfl,g3,o1,by omega,g5 _ _ (by simp [RD]) (g4.append d1)⟩)⟩
end
theorem W_clnR {m:M D} {h:AH} {Q:D→AH→Prop} (z:W m h fun d h1=>∃ i o,d = .ref i∧h.length ≤ i∧h1[i]? = some o∧refO h.length o = false∧Q d h1):W (cln m) h Q:=by
 obtain ⟨d,h1,e,i,o,rfl,hi,ei,ro,q⟩:=z
 refine ⟨.ref i,h1,?_,q⟩
 unfold cln
 rw [e]
 dsimp only
 split
 ·rw [if_neg (by simp only [refLt,decide_eq_true_eq]; omega),ei]
  dsimp only
  rw [if_neg (by rw [ro]; decide)]
 ·rfl
theorem q_appG {me:G→M D} {mt:G→M Out} {γ:G} {h h1:AH} {a i:Nat} {xs:List D} {v:D} {Q:Out→AH→Prop} (ea:γ[a]? = some (some (.ref i))) (e:h[i]? = some (.lst xs)) (ev:me γ h = .ok v h1) (e1:h1[i]? = some (.lst xs)) (hl:xs.length < 1000000) (z:W (mt γ) (h1.set i (.lst (xs++[v]))) Q):W (bCons (sExpr (eM1 fAppend (eVar a) me)) mt γ) h Q:=by
 refine q_expr ?_
 have e2':eVar a γ = pure (.ref i):=by unfold eVar; rw [ea]
 unfold eM1
 rw [e2',bindP,W_bind]
 refine W_of (asRef_h e) ?_
 rw [W_bind]
 exact W_of ev (W_of (append_h e1 hl) z)
section
variable {ka kb:G→M Bool} {γ:G} {h:AH} {r:Res Bool}
end
theorem new_h {xs:List D} {h:AH} (hl:xs.length ≤ 1000000):newL xs h = .ok (.ref h.length) (h++[.lst xs]):=by
 unfold newL
 rw [if_pos (Nat.le_trans hl (by decide))]
theorem ext_h {h:AH} {i:Nat} {xs ys:List D} {y:D} (e:h[i]? = some (.lst xs)) (hy:y = .tup ys∨∃ j,y = .ref j∧h[j]? = some (.lst ys)) (hl:xs.length + ys.length ≤ 1000000):fExtend i y h = .ok .non (h.set i (.lst (xs++ys))):=by
 have l:(xs++ys).length ≤ sizeLine:=Nat.le_trans (by rw [List.length_append]; exact hl) (show 1000000 ≤ sizeLine by decide)
 rcases hy with rfl | ⟨j,rfl,ej⟩
 ·unfold fExtend
  exact updL_h e rfl l
 ·have g:getL j h = .ok ys h:=by unfold getL; rw [ej]
  unfold fExtend
  dsimp only
  rw [M.bind_ok g]
  exact updL_h e rfl l
theorem q_ext {me:G→M D} {mt:G→M Out} {γ:G} {h h1:AH} {a i:Nat} {xs ys:List D} {y:D} {Q:Out→AH→Prop} (ea:γ[a]? = some (some (.ref i))) (e:h[i]? = some (.lst xs)) (ev:me γ h = .ok y h1) (e1:h1[i]? = some (.lst xs)) (hy:y = .tup ys∨∃ j,y = .ref j∧h1[j]? = some (.lst ys)) (hl:xs.length + ys.length ≤ 1000000) (z:W (mt γ) (h1.set i (.lst (xs++ys))) Q):W (bCons (sExpr (eM1 fExtend (eVar a) me)) mt γ) h Q:=by
 refine q_expr ?_
 have e2:eVar a γ = pure (.ref i):=by unfold eVar; rw [ea]
 unfold eM1
 rw [e2,bindP,W_bind]
 refine W_of (asRef_h e) ?_
 rw [W_bind]
 exact W_of ev (W_of (ext_h e1 hy hl) z)
theorem while_q {k:G→M Bool} {body:G→M Out} {mt:G→M Out} {n m:Nat} {γ:G} {h:AH} {Q:Out→AH→Prop} (I:Nat→G→AH→Prop) (hm:m < n) (i0:I m γ h)
 (z:∀ m γ h,I m γ h→∃ b,k γ h = .ok b h∧if b = true then ∃ m',m = m' + 1∧W (body γ) h (forW (fun γ h=>∃ i,i ≤ m'∧I i γ h) fun _ _=>False) else W (mt γ) h Q):W (bCons (whileR k body n) mt γ) h Q:=by
 rw [w_cons]
 refine (while_inv I (fun γ h=>W (mt γ) h Q) (fun _ _=>False) (fun m γ h q=>?_) n m γ h hm i0).mono fun o h1 q=>?_
 ·obtain ⟨b,e,q1⟩:=z m γ h q
  exact W_of e q1
 ·cases o with
  | nx γ=>exact q
  | rt d=>exact q.elim
  | bk d=>exact q.elim
  | ct d=>exact q.elim
end FT
namespace L2
open PySem PySem.Spec PyProof.Rows
theorem comp_loopD {prog:Program} {w:World} {A:Around} {R:Result→Shared→Prop} {s:Shared} {elt val target iter:Expr}
 {ifs:List Expr} {scope:Scope} {pos:Pos} {it:Value} {D:Addr} {env:Env} (I:Nat→Shared→Prop)
 (turn:∀ n s,I n s→wpAny (model prog w) A (pyNext it) (fun r s1=>match r with
  | none=>R (.ok .next) s1
  | some v=>wpAny (model prog w) A (letOwnedTupleGo target it v) (fun _ s2 =>
   wpAny (model prog w) A (assign target env v) (fun _ s3 =>
    wpAny (model prog w) A (testsM ifs env) (fun ok s4 =>
     if ok = true then wpAny (model prog w) A (eval elt env) (fun x s5 =>
      wpAny (model prog w) A (eval val env) (fun y s6=>wpAny (model prog w) A (dictSet D x y) (fun _ s7=>∃ m,m < n∧I m s7)
       (notedBy (model prog w) A env fun e s'=>R (.error e) s') s6)
       (notedBy (model prog w) A env fun e s'=>R (.error e) s') s5)
       (notedBy (model prog w) A env fun e s'=>R (.error e) s') s4
     else ∃ m,m < n∧I m s4)
     (notedBy (model prog w) A env fun e s'=>R (.error e) s') s3)
    (notedBy (model prog w) A env fun e s'=>R (.error e) s') s2)
   (notedBy (model prog w) A env fun e s'=>R (.error e) s') s1)
  (notedBy (model prog w) A env fun e s'=>R (.error e) s') s)
 (n:Nat) (h:I n s) :
 codeAny (model prog w) A (.compLoop (.DictComp elt val [⟨target,iter,ifs,0⟩] scope pos) 0 it (.ref D) env) R s:=by
 refine codeAny_loop rfl I (fun n s hI=>?_) n h
 show wpAny _ A ((compTurn (.DictComp elt val [⟨target,iter,ifs,0⟩] scope pos) 0 it (.ref D) env).onRaise
  (fun x=>do noteFrame x env; theTreesLotGoes x)) _ _ s
 refine wpAny_noted ?_
 rw [compTurn_dict]
 refine wpAny_bind (wpAny_standAt (wpAny_bind (wpAny_mono (turn n s hI) (fun r s1 h1=>?_) fun _ _ z=>z)))
 cases r with
 | none=>exact wpAny_pure h1
 | some v =>
  refine wpAny_bind (wpAny_mono h1 (fun _ s2 h2=>?_) fun _ _ z=>z)
  refine wpAny_bind (wpAny_mono h2 (fun _ s3 h3=>wpAny_bind (wpAny_mono h3 (fun ok s4 h4=>?_) fun _ _ z=>z)) fun _ _ z=>z)
  cases ok with
  | false=>exact wpAny_pure ⟨rfl,h4⟩
  | true =>
   exact wpAny_bind (wpAny_bind (wpAny_mono h4 (fun x s5 h5=>wpAny_bind (wpAny_holding (wpAny_mono h5 (fun y s6 h6=>wpAny_bind (wpAny_standAt (wpAny_holding (wpAny_mono h6 (fun _ s7 h7=>wpAny_pure ⟨rfl,h7⟩) fun _ _ z=>z)))) fun _ _ z=>z))) fun _ _ z=>z))
theorem d_dictSet {X:Cx} {pins:List (Addr × Obj)} {σ:St} {H:Hp} {s:Shared} {a:Addr} {kvs:List (Key × V)} {k:Key} {v:V} {u r:Value} {A:Around} {E:Value→Shared→Prop} {Q:Unit→Shared→Prop}
 (I:Inv X pins σ H s) (e:H a = some (.dK kvs)) (l:kvs.length < sizeLine) (ry:RelV (kV k) u) (rv:RelV v r) (h:∀ s',Inv X pins σ (upd H a (.dK (putK kvs k v))) s'→Q () s') :
 wpAny (model X.prog X.w) A (dictSet a u r) Q E s:=by
 obtain ⟨z,hd,vs,rel,dd⟩:=dk_of I.hok e
 have hz:vs.length ≤ sizeLine:=by rw [← rel.length]; exact z
 have hl:(putK kvs k v).length ≤ sizeLine:=by have:=length_putK kvs k v; omega
 refine wpAny_dictSet_pairs (hsz:=hz) (kV_is ry) dd fun h' dd' hs=>h _ ?_
 have he:∃ q,h'.get? a = some q:=let ⟨q,_,_,hq,_⟩:=dd'; ⟨q,hq⟩
 exact d_write I (by rw [e]; exact True.intro) hs he (dk_new hl hd (rel.put k rv) dd')
def compRunD (cap:List (Option Nat)) (g:TG) (ti:TT) (te tv:TE) (σ:St) (J:It) (D:Addr) (Q:Hp→Prop) (H:Hp):Prop :=
 ∃ W:Nat→Nat→Hp→Prop,(∃ m,W 0 m H)∧∀ i m H,W i m H →
  (J.stop i H∧Q H)∨(J.go i H∧∀ x H1,J.yld i H x H1→g x (capSt cap σ) H1 fun σ2 H2=>(∀ (j:Nat) v,(capSt cap σ)[j]? = some (some v)→σ2[j]? = some (some v)) ∧
   ti σ2 H2 fun ok H3=>if ok = true then te σ2 H3 fun y H4=>tv σ2 H4 fun v H5=>∃ k kvs,y = kV k∧H5 D = some (.dK kvs)∧kvs.length < sizeLine∧∃ m',m' < m∧W (i + 1) m' (upd H5 D (.dK (putK kvs k v)))
    else ∃ m',m' < m∧W (i + 1) m' H3)
section
variable {X:Cx} {elt val tg iter:Expr} {ifs:List Expr} {sc:Scope} {pos:Pos} {N':List Str} {cap:List (Option Nat)} {g:TG} {ti:TT} {te tv:TE}
theorem comp_coreD {pins:List (Addr × Obj)} {σ:St} {H2:Hp} {s2:Shared} {it:Addr} {fp:List Addr} {tn:Nat→Heap→Prop} {J:It} {E:Value→Shared→Prop} {RR:Value→Addr→Result→Shared→Prop} {Q:Addr→Hp→Prop}
 (hc:X.calm = true) (S:CS X sc N' cap) (hg:∀ s H fp xe,PG (X.comp N' sc s H fp xe) tg g) (ht:∀ s H fp xe,PTs (X.comp N' sc s H fp xe) ifs ti) (he:∀ s H fp xe,PE (X.comp N' sc s H fp xe) elt te) (hv:∀ s H fp xe,PE (X.comp N' sc s H fp xe) val tv)
 (I2:Inv X pins σ H2 s2) (T:Turn X.prog X.w X.K tg J fp it tn) (st2:tn 0 s2.heap) (f2:∀ b ∈ fp,FpOk X pins H2 b)
 (hq:∀ D,H2 D = none→compRunD cap g ti te tv σ J D (Q D) (upd H2 D (.dK [])))
 (hRR:∀ (D:Addr) (s3:Shared) (H3:Hp) (xe:Value→Shared→Prop) (H':Hp) (pins':List (Addr × Obj)) (σ':St) (s':Shared),Inv X pins σ H3 s3→(∀ b ∈ fp,FpOk X pins H3 b)→Inv (X.comp N' sc s3 H3 fp xe) pins' σ' H' s'→Q D H'→RR (.ref D) s3.heap.objs.size (.ok .next) s') :
 wpAny (model X.prog X.w) X.A newDict (fun acc s3=>wpAny (model X.prog X.w) X.A (newFunctionEnv sc X.env.globals (capCells X.env sc.names []) [] X.env.qual none .none (some X.env)) (fun cenv s4 =>
  codeAny (model X.prog X.w) X.A (.compStart (.DictComp elt val [⟨tg,iter,ifs,0⟩] sc pos) 0 (.ref it) acc { cenv with scope:=relabel sc X.env }) (RR acc cenv.locals) s4) E s3) E s2:=by
 refine wpAny_newObj_type ?_
 have I3:=I2.laid (a:=s2.heap.objs.size) (o:=.dK []) (t':=s2.toks) (h':=s2.heap.push { cls:=.type "dict",dict:=none,data:=.dict #[] }) (fun _ _ q=>Heap.get?_push_of_some _ q) (Nat.le_refl _) (dk_empty s2.heap I2.big)
 have hfr:H2 s2.heap.objs.size = none:=I2.fresh
 have lt2:∀ b ∈ fp,b < s2.heap.objs.size:=fun b hb=>by
  obtain ⟨o,e,_⟩:=T.obj _ _ st2 b hb
  exact Heap.lt_size e
 generalize hD:s2.heap.objs.size = D at I3 hfr lt2 ⊢
 have r0:=hq D hfr
 generalize hs3:({ s2 with heap:=s2.heap.push { cls:=.type "dict",dict:=none,data:=.dict #[] },toks:=s2.toks }:Shared) = s3 at I3 ⊢
 have f3:∀ b ∈ fp,FpOk X pins (upd H2 D (.dK [])) b:=fun b hb=>⟨by rw [upd_ne (Nat.ne_of_lt (lt2 b hb))]; exact (f2 b hb).1,(f2 b hb).2⟩
 have kp3:∀ b o,s2.heap.get? b = some o→s3.heap.get? b = some o:=fun b o e=>by rw [← hs3]; exact Heap.get?_push_of_some _ e
 have st3:tn 0 s3.heap:=T.keep _ _ _ st2 fun b hb o e=>kp3 b o e
 have lt3:∀ b ∈ fp,b < s3.heap.objs.size:=fun b hb=>by
  obtain ⟨o,e,_⟩:=T.obj _ _ st3 b hb
  exact Heap.lt_size e
 generalize upd H2 D (.dK []) = H3 at I3 r0 f3
 refine wpAny_newFunctionEnv S.nocell (fun x hx=>absurd hx (by simp)) (fun h1 hns hsb=>?_) S.kind
 have kp4:∀ b o,s3.heap.get? b = some o→h1.get? b = some o:=fun b o e=>by
  rw [hsb.2 b (Nat.ne_of_lt (Heap.lt_size e))]
  exact Heap.get?_push_of_some _ e
 have hns':h1.Ns s3.heap.objs.size fun _=>none:=hns
 have st4:tn 0 h1:=T.keep _ _ _ st3 fun b hb o e=>kp4 b o e
 have frees:∀ b ∈ fp,H3 b = none:=fun b hb=>(f3 b hb).1
 have loop:codeAny (model X.prog X.w) X.A (.compLoop (.DictComp elt val [⟨tg,iter,ifs,0⟩] sc pos) 0 (.ref it) (.ref D) (compEnvC sc (capCells X.env sc.names []) s3.heap.objs.size X.env))
  (RR (.ref D) s3.heap.objs.size) { s3 with heap:=h1,toks:=s3.toks + ([]:List (Str × Value)).length }:=by
  let xe:Value→Shared→Prop:=notedBy (model X.prog X.w) X.A (compEnvC sc (capCells X.env sc.names []) s3.heap.objs.size X.env) fun e s'=>RR (.ref D) s3.heap.objs.size (.error e) s'
  have I4:Inv (X.comp N' sc s3 H3 fp xe) [] (capSt cap σ) H3 { s3 with heap:=h1,toks:=s3.toks + ([]:List (Str × Value)).length }:=I3.compIn S f3 lt3 hns' kp4
  have stat:∀ {H':Hp},(∀ b ∈ fp,H' b = none)→∀ b ∈ fp,FpOk (X.comp N' sc s3 H3 fp xe) [] H' b:=fun hn b hb=>by
   obtain ⟨q1,q2⟩:=I4.ok.exf b hb
   exact ⟨hn b hb,q1,I4.ok.exfs b hb,.inl hb,q2,fun p hp=>absurd (show p ∈ ([]:List (Addr × Obj)) from hp) (by simp)⟩
  obtain ⟨W,⟨m0,w0⟩,turn⟩:=r0
  refine comp_loopD (fun n s'=>∃ i H',Inv (X.comp N' sc s3 H3 fp xe) [] (capSt cap σ) H' s'∧tn i s'.heap∧(∀ b ∈ fp,H' b = none)∧W i n H') ?_ m0 ⟨0,H3,I4,st4,frees,w0⟩
  rintro n s5 ⟨i,H5,I5,st5,fr5,w5⟩
  rcases turn i n H5 w5 with ⟨stop,qn⟩ | ⟨go,step⟩
  ·refine thn (T.done (X.comp N' sc s3 H3 fp xe) rfl rfl rfl hc i [] s5 _ H5 xe I5 (stat fr5) st5 stop) fun r s6 ⟨hr,I6⟩=>?_
   subst hr
   exact hRR D s3 H3 xe H5 [] _ s6 I3 f3 I6 qn
  ·refine thn (T.item (X.comp N' sc s3 H3 fp xe) rfl rfl rfl hc i [] s5 _ H5 xe I5 (stat fr5) st5 go) fun r s6 ⟨u,hr,h6⟩=>?_
   subst hr
   refine thn h6 fun _ s7 ⟨x,H7,I7,r7,y7,st7,fr7⟩=>?_
   have I7':=I7.pinned (stat fr7) (T.obj _ _ st7)
   refine thn (hg s3 H3 fp xe _ s7 _ H7 x u _ I7' r7 (step x H7 y7)) fun _ s8 ⟨σ8,H8,I8,k8,q8⟩=>?_
   refine thn (ht s3 H3 fp xe _ s8 σ8 H8 _ I8 q8) fun ok s9 ⟨H9,I9,q9⟩=>?_
   have again:∀ {σa:St} {Ha:Hp} {sa:Shared},Inv (X.comp N' sc s3 H3 fp xe) ([]++pinsAt fp s7.heap) σa Ha sa→(∀ (j:Nat) v,(capSt cap σ)[j]? = some (some v)→σa[j]? = some (some v)) →
    Inv (X.comp N' sc s3 H3 fp xe) [] (capSt cap σ) Ha sa∧tn (i + 1) sa.heap∧∀ b ∈ fp,Ha b = none:=fun {σa Ha sa} Ia ka=>by
    refine ⟨Ia.unpinned.weak (I5.len.trans Ia.len.symm) ka,T.keep _ _ _ st7 fun b hb o e=>(Ia.pin (b,o) (List.mem_append_right _ (List.mem_append_right _ (mem_pinsAt hb e)))).1,fun b hb=>?_⟩
    obtain ⟨o,e,d⟩:=T.obj _ _ st7 b hb
    exact (Ia.pin (b,o) (List.mem_append_right _ (List.mem_append_right _ (mem_pinsAt hb e)))).2.1
   cases ok with
   | false =>
    have q9':∃ m',m' < n∧W (i + 1) m' H9:=by simpa using q9
    obtain ⟨m',hm,w9⟩:=q9'
    obtain ⟨a1,a2,a3⟩:=again I9 k8
    exact ⟨m',hm,i + 1,H9,a1,a2,a3,w9⟩
   | true =>
    rw [if_pos rfl] at q9
    refine thn (he s3 H3 fp xe _ s9 σ8 H9 _ I9 q9) fun kv sa ⟨y,Ha,Ia,ra,qa⟩=>?_
    refine thn (hv s3 H3 fp xe _ sa σ8 Ha _ Ia qa) fun vv sb ⟨z,Hb,Ib,rb,kk,kvs,ey,eb,zb,m',hm,wb⟩=>?_
    subst ey
    refine d_dictSet (X:=X.comp N' sc s3 H3 fp xe) Ib eb zb ra rb fun s' I'=>?_
    obtain ⟨a1,a2,a3⟩:=again I' k8
    exact ⟨m',hm,i + 1,_,a1,a2,a3,wb⟩
 exact codeAny_compStart_dict loop (T.self _ 0 _ _ _ st4 loop)
def tDComp (cap:List (Option Nat)) (wi:TI) (g:TG) (ti:TT) (te tv:TE):TE:=fun σ H Q=>wi σ H fun J H1=>∀ D,H1 D = none→compRunD cap g ti te tv σ J D (fun H'=>Q (.ref D) H') (upd H1 D (.dK []))
theorem pe_dcomp {wi:TI} (hc:X.calm = true) (S:CS X sc N' cap) (hi:PI X tg iter wi) (hg:∀ s H fp xe,PG (X.comp N' sc s H fp xe) tg g) (ht:∀ s H fp xe,PTs (X.comp N' sc s H fp xe) ifs ti)
 (he:∀ s H fp xe,PE (X.comp N' sc s H fp xe) elt te) (hv:∀ s H fp xe,PE (X.comp N' sc s H fp xe) val tv) (hs:∀ x,foldedSetIterable iter X.env x = pure x:=by intro _; rfl):PE X (.DictComp elt val [⟨tg,iter,ifs,0⟩] sc pos) (tDComp cap wi g ti te tv):=by
 intro pins s σ H Q I h
 rw [arm_eval_DictComp]
 refine wpAny_comprehension_free (use:=none) rfl hs (closureFor_eq (S.cells I)) S.kind S.loc (thn (hi pins s σ H _ I h) fun v s1 h1=>thn h1 fun itv s2 h2=>?_)
 obtain ⟨it,fp,tn,J,H2,e,I2,T,st2,f2,rq⟩:=h2
 subst e
 refine comp_coreD (RR:=fun acc C=>compPost (model X.prog X.w) X.A X.xe none (EP X pins σ Q) acc C) (Q:=fun D H'=>Q (.ref D) H') hc S hg ht he hv I2 T st2 f2 rq ?_
 intro D s3 H3 xe H' pins' σ' s' I3 f3 J3 q
 obtain ⟨m,hn,_⟩:=id J3.loc
 exact ⟨m,hn,fun h' hs=>⟨.ref D,H',I3.compOut f3 J3 hs,rfl,q⟩⟩
def sDComp (cap:List (Option Nat)) (wi:TI) (g:TG) (ti:TT) (te tv:TE) (i:Nat):TS:=fun D σ H=>wi σ H fun J H1=>∀ d,H1 d = none→compRunD cap g ti te tv σ J d (fun H'=>D.nx (σ.set i (some (.ref d))) H') (upd H1 d (.dK []))
theorem ps_dcomp {wi:TI} {y:Str} {py spos:Pos} {i:Nat} (hc:X.calm = true) (S:CS X sc N' cap) (hi:PI X tg iter wi) (hg:∀ s H fp xe,PG (X.comp N' sc s H fp xe) tg g) (ht:∀ s H fp xe,PTs (X.comp N' sc s H fp xe) ifs ti)
 (he:∀ s H fp xe,PE (X.comp N' sc s H fp xe) elt te) (hv:∀ s H fp xe,PE (X.comp N' sc s H fp xe) val tv) (hN:X.N.Nodup) (hy:X.N[i]? = some y) (hl:X.env.scope.names.lookup y = some .local)
 (hsw:swapsWith (.DictComp elt val [⟨tg,iter,ifs,0⟩] sc pos) (some (.Name y py)) spos.line X.env = pure true:=by rfl) (hs:∀ x,foldedSetIterable iter X.env x = pure x:=by intro _; rfl) :
 PS X (.Assign [.Name y py] (.DictComp elt val [⟨tg,iter,ifs,0⟩] sc pos) spos) (sDComp cap wi g ti te tv i):=by
 intro pins s σ H D I h
 rw [exec_Assign_Name_used _ _ _ _ hsw]
 refine wpAny_bind (wpAny_standAt (wpAny_bind ?_))
 show wpAny _ X.A (do let _ ← comprehension (.DictComp elt val [⟨tg,iter,ifs,0⟩] sc pos) sc X.env _ newDict false (eval iter X.env) (some (assign (.Name y py) X.env))) _ _ s
 refine wpAny_bind (wpAny_mono (wpAny_comprehension_free (use:=some (assign (.Name y py) X.env)) (Q:=fun _ s'=>SP X pins D .next s') rfl hs (closureFor_eq (S.cells I)) S.kind S.loc
  (thn (hi pins s σ H _ I h) fun v s1 h1=>thn h1 fun itv s2 h2=>?_)) (fun _ s' hq=>wpAny_pure (wpAny_pure hq)) fun _ _ z=>z)
 obtain ⟨it,fp,tn,J,H2,e,I2,T,st2,f2,rq⟩:=h2
 subst e
 refine comp_coreD (RR:=fun acc C=>compPost (model X.prog X.w) X.A X.xe (some (assign (.Name y py) X.env)) (fun _ s'=>SP X pins D .next s') acc C) (Q:=fun d H'=>D.nx (σ.set i (some (.ref d))) H') hc S hg ht he hv I2 T st2 f2 rq ?_
 intro d s3 H3 xe H' pins' σ' s' I3 f3 J3 q
 obtain ⟨m,hn,_⟩:=id J3.loc
 have Is:Inv X pins σ H' s':=I3.compOut (h':=s'.heap) f3 J3 (Heap.SameBut.refl _ _)
 obtain ⟨oC,es,ep,hoC,hdC,hrC⟩:=id hn
 have hC:H' s3.heap.objs.size = none:=J3.free
 have neL:s3.heap.objs.size ≠ X.env.locals:=Nat.ne_of_gt I3.lt
 have nfs:s3.heap.objs.size ∉ X.fs:=I3.nofs (Nat.le_refl _)
 have Ip:Inv X (pins++[(s3.heap.objs.size,oC)]) σ H' s':=Is.pins_of fun p hp=>by
  rcases List.mem_append.mp hp with z | z
  ·exact Is.pin p (List.mem_append_right _ z)
  ·obtain rfl:p = (s3.heap.objs.size,oC):=by simpa using z
   exact ⟨hoC,hC,neL,nfs,fun v hv=>by have hdC':oC.data = _:=hdC; rw [hdC'] at hv; cases hv⟩
 show wpAny _ X.A (assign (.Name y py) X.env (.ref d)) _ _ s'
 refine thn (pg_name (X:=X) (i:=i) hN hy (.inl hl) (.inr hl) _ s' σ H' (.ref d) (.ref d) (fun σ2 H2=>D.nx σ2 H2) Ip rfl q) fun _ s4 ⟨σ4,H4,I4,q4⟩=>?_
 have pn:=I4.pin (s3.heap.objs.size,oC) (List.mem_append_right _ (List.mem_append_right _ (by simp)))
 refine ⟨m,⟨oC,es,ep,pn.1,hdC,hrC⟩,fun h' hs=>⟨σ4,H4,?_,q4⟩⟩
 have I4u:Inv X pins σ4 H4 s4:=I4.unpinned
 have st:=I4u.step (g':=s4.gens) (t':=s4.toks) (d':=s4.drawn) (h':=h') (H':=H4) (ch:=[s3.heap.objs.size]) (fun b hb=>?_) (fun b o _ _ hc e _=>(hs.2 b (by simpa using hc)).trans e)
  (fun b o _ _ hc e _=>⟨o.slots,(hs.2 b (by simpa using hc)).trans e⟩) (fun _ _ _ _ n=>n) (fun b o hc e=>⟨o,(hs.2 b (by simpa using hc)).trans e⟩) (fun _ _ e=>e) (fun _ _ _ e=>e) (fun b ps e=>⟨#[],by rw [e]; simp⟩) (fun m hm=>?_) (fun b u e=>?_) I4u.bare
 ·exact st
 ·have e:b = s3.heap.objs.size:=by simpa using hb
  subst e
  refine ⟨.inr I3.sz,neL,fun x c e2 z=>?_,fun p hp z=>?_⟩
  ·obtain ⟨v,q2⟩:=I3.cell x c e2
   exact absurd q2.lt (by rw [z]; exact Nat.lt_irrefl _)
  ·have e3:=(I3.pin p hp).1
   exact absurd (Heap.lt_size e3) (by rw [z]; exact Nat.lt_irrefl _)
 ·obtain ⟨o,es',ep',ho',r'⟩:=hm
  exact ⟨o,es',ep',(hs.2 _ (Ne.symm neL)).trans ho',r'⟩
 ·refine (I4u.hok b u e).stay (fun c v hc q=>?_) (fun _ q=>q) fun _ _ q=>q
  have n4:H4 s3.heap.objs.size = none:=pn.2.1
  have ne:c ≠ s3.heap.objs.size:=by
   rintro rfl
   rcases hc with z | z
   ·rw [← z,n4] at e; cases e
   ·rw [n4] at z; cases z
  exact (hs.2 c ne).trans q
end
end L2
namespace FT
open PySem PySem.Spec PyProof.Rows L2
def fDput (n:Nat) (i v:D):M Unit:=fDset (.ref n) i v
noncomputable def compRD (src:Src) (g:D→G→M G) (k:G→M Bool) (me mv:G→M D) (n0:Nat) (γ:G):List D→M Unit
 | []=>do
  let _ ← src.chk
  pure ()
 | d :: r=>do
  let _ ← src.chk
  let γ1 ← g d γ
  let t ← k γ1
  if t then do
   let y ← me γ1
   let v ← mv γ1
   let _ ← fDput n0 y v
   compRD src g k me mv n0 γ r
  else compRD src g k me mv n0 γ r
noncomputable def eDComp (cap:List (Option Nat)) (mi:G→M Src) (g:D→G→M G) (k:G→M Bool) (me mv:G→M D):G→M D:=fun γ=>do
 let src ← mi γ
 let n0 ← (fun h=>.ok h.length (h++[.dK []]):M Nat)
 let _ ← compRD src g k me mv n0 (capG cap γ) src.items
 pure (.ref n0)
section
variable {X:Cx} {EX:XX} {elt val tg iter c:Expr} {ifs:List Expr} {sc:Scope} {pos:Pos} {N':List Str} {cap:List (Option Nat)} {own:List Nat} {mi:G→M Src} {g:D→G→M G} {k kr:G→M Bool} {me mv:G→M D}
theorem comp_runD {σ:L2.St} {H0:Hp} {ρ0:List Addr} {h0:AH} {γ:G} {src:Src} {J:It} {Dd:Addr} {P:Hp→Prop} (r0:RH X.K ρ0 h0 H0) (rg:RG X.K ρ0 H0 γ σ) (hJ:JOK X.K src ρ0 H0 J) (hD:H0 Dd = none) (hown:∀ j ∈ own,cap[j]? = some none)
 (fin:Fin X.K EX (ρ0++[Dd]) (upd H0 Dd (.dK [])) (fun _ ρ' h' H'=>ρ'[h0.length]? = some Dd→RH X.K ρ' h' H'→Ext X.K (upd H0 Dd (.dK [])) H'→Pre (ρ0++[Dd]) ρ'→P H') (compRD src g k me mv h0.length (capG cap γ) src.items (h0++[.dK []]))) :
 compRunD cap (tGk X.K EX own g) (tT X.K EX k) (tE X.K EX me) (tE X.K EX mv) σ J Dd P (upd H0 Dd (.dK [])):=by
 have rP:RH X.K (ρ0++[Dd]) (h0++[.dK []]) (upd H0 Dd (.dK [])):=r0.pushO hD ⟨[],upd_same,.nil⟩
 have eP:Ext X.K H0 (upd H0 Dd (.dK [])):=Ext.upd (.inl hD)
 have at0:(ρ0++[Dd])[h0.length]? = some Dd:=by rw [← r0.len]; simp
 refine ⟨fun i m H=>m + i = src.items.length∧∃ ρ h,Pre (ρ0++[Dd]) ρ∧Ext X.K (upd H0 Dd (.dK [])) H∧RH X.K ρ h H ∧
  Fin X.K EX ρ H (fun _ ρ' h' H'=>ρ'[h0.length]? = some Dd→RH X.K ρ' h' H'→Ext X.K (upd H0 Dd (.dK [])) H'→Pre (ρ0++[Dd]) ρ'→P H') (compRD src g k me mv h0.length (capG cap γ) (src.items.drop i) h),
  ⟨src.items.length,rfl,_,_,Pre.refl _,Ext.refl _ _,rP,fin⟩,?_⟩
 rintro i m H1 ⟨hm,ρ1,h1,p1,e1,r1,f1⟩
 have p01:Pre ρ0 ρ1:=(Pre.app _ _).trans p1
 have e01:Ext X.K H0 H1:=eP.trans e1
 by_cases hi:i < src.items.length
 ·have hd:src.items.drop i = src.items[i] :: src.items.drop (i + 1):=List.drop_eq_getElem_cons hi
  rw [hd] at f1
  unfold compRD at f1
  obtain ⟨good,f2⟩:=chk_ok f1 r1
  obtain ⟨j1,j2⟩:=hJ i ρ1 h1 H1 p01 e01 r1 good
  obtain ⟨go,yld⟩:=j1 src.items[i] (List.getElem?_eq_getElem hi)
  refine .inr ⟨go,fun x H2 y=>?_⟩
  obtain ⟨rd,rh,ext⟩:=yld x H2 y
  have rgc:RG X.K ρ1 H2 (capG cap γ) (capSt cap σ):=(cap_rel cap rg).mono p01 (e01.trans ext)
  refine ⟨ρ1,_,h1,_,⟨rgc,rh⟩,rd,(Fin.bind (Fin.up (Pre.refl _) ext f2)).mono fun γ2 ρ3 h3 H3 p3 e3 r3 f3 σ3 g3 k3=>⟨fun j v hv=>?_,ρ3,γ2,h3,⟨g3,r3⟩,(Fin.bind f3).mono fun t ρ4 h4 H4 p4 e4 r4 f4=>?_⟩⟩
  ·rw [k3 j fun hj=>?_]
   ·exact hv
   ·have z:=hown j hj
    unfold capSt at hv
    rw [List.getElem?_map,z] at hv
    simp at hv
  ·have pp:Pre (ρ0++[Dd]) ρ4:=(p1.trans p3).trans p4
   have ee:Ext X.K (upd H0 Dd (.dK [])) H4:=((e1.trans ext).trans e3).trans e4
   cases t with
   | false =>
    rw [if_neg (by decide)] at f4
    dsimp only
    rw [if_neg (by decide)]
    exact ⟨m - 1,by omega,by omega,ρ4,h4,pp,ee,r4,f4⟩
   | true =>
    rw [if_pos rfl] at f4
    dsimp only
    rw [if_pos rfl]
    refine ⟨ρ4,γ2,h4,⟨g3.mono p4 e4,r4⟩,(Fin.bind f4).mono fun yd ρ5 h5 H5 p5 e5 r5 f5 y ry=>⟨ρ5,γ2,h5,⟨(g3.mono p4 e4).mono p5 e5,r5⟩,(Fin.bind f5).mono fun d ρ6 h6 H6 p6 e6 r6 f6 v rv=>?_⟩⟩
    have hq:ρ6[h0.length]? = some Dd:=((pp.trans p5).trans p6) _ _ at0
    have f7:=Fin.bind f6
    unfold fDput fDset at f7
    dsimp only at f7
    cases ek:keyD yd with
    | none=>rw [ek] at f7; exact f7.elim
    | some kk =>
     rw [ek] at f7
     dsimp only at f7
     have hy:=key_V ek ry
     cases e7:h6[h0.length]? with
     | none=>rw [e7] at f7; exact f7.elim
     | some ob =>
      cases ob with
      | set ks=>rw [e7] at f7; exact f7.elim
      | dct=>rw [e7] at f7; exact f7.elim
      | lst xs=>rw [e7] at f7; exact f7.elim
      | exc c=>rw [e7] at f7; exact f7.elim
      | dF c=>rw [e7] at f7; exact f7.elim
      | dK kvs =>
       rw [e7] at f7
       dsimp only at f7
       split at f7
       ·rename_i hl
        obtain ⟨a1,n1,vs,o1,d1⟩:=r6.at e7
        rw [hq] at n1; cases n1
        have ext2:Ext X.K H6 (upd H6 Dd (.dK (L2.putK vs kk v))):=Ext.upd (.inr (r6.tracked hq e7))
        have r7:RH X.K ρ6 (h6.set h0.length (.dK (ptD kvs kk d))) (upd H6 Dd (.dK (L2.putK vs kk v))):=r6.setO e7 hq ⟨_,upd_same,(d1.put kk rv).mono (Pre.refl _) ext2⟩
        have hl2:=d1.len
        exact ⟨kk,vs,hy,o1,by omega,m - 1,by omega,by omega,ρ6,_,(pp.trans p5).trans p6,((ee.trans e5).trans e6).trans ext2,r7,f7 ρ6 _ (Pre.refl _) ext2 r7⟩
       ·exact f7.elim
 ·have hd:src.items.drop i = []:=List.drop_eq_nil_of_le (by omega)
  rw [hd] at f1
  unfold compRD at f1
  obtain ⟨good,f2⟩:=chk_ok f1 r1
  obtain ⟨j1,j2⟩:=hJ i ρ1 h1 H1 p01 e01 r1 good
  exact .inl ⟨j2 (by omega),f2 ρ1 H1 (Pre.refl _) (Ext.refl _ _) r1 (p1 _ _ at0) r1 e1 p1⟩
theorem se_dcomp (hc:X.calm = true) (S:CS X sc N' cap) (hi:SI X EX tg iter mi) (hg:∀ s H fp xe,SGk (X.comp N' sc s H fp xe) EX tg own g) (ht:∀ s H fp xe,SCs (X.comp N' sc s H fp xe) EX ifs k)
 (he:∀ s H fp xe,SE (X.comp N' sc s H fp xe) EX elt me) (hv:∀ s H fp xe,SE (X.comp N' sc s H fp xe) EX val mv) (hown:∀ j ∈ own,cap[j]? = some none:=by decide) (hs:∀ x,foldedSetIterable iter X.env x = pure x:=by intro _; rfl):SE X EX (.DictComp elt val [⟨tg,iter,ifs,0⟩] sc pos) (eDComp cap mi g k me mv) :=
 ⟨PE.imp (pe_dcomp (g:=tGk X.K EX own g) (ti:=tT X.K EX k) (te:=tE X.K EX me) (tv:=tE X.K EX mv) hc S hi.h (fun s H fp xe=>(hg s H fp xe).h) (fun s H fp xe=>(ht s H fp xe).h) (fun s H fp xe=>(he s H fp xe).h) (fun s H fp xe=>(hv s H fp xe).h) hs) fun σ H Q ⟨ρ,γ,h,rel,fin⟩=>⟨ρ,γ,h,rel,(Fin.bind fin).mono fun src ρ0 h0 H0 p0 e0 r0 f0 J hJ Dd hD=>by
  have rP:RH X.K (ρ0++[Dd]) (h0++[.dK []]) (upd H0 Dd (.dK [])):=r0.pushO hD ⟨[],upd_same,.nil⟩
  have eP:Ext X.K H0 (upd H0 Dd (.dK [])):=Ext.upd (.inl hD)
  have f1:=Fin.bind f0
  have f2:=f1 (ρ0++[Dd]) _ (Pre.app _ _) eP rP
  refine comp_runD r0 (rel.g.mono p0 e0) hJ hD hown ((Fin.bind f2).mono fun _ ρ5 h5 H5 p5 e5 r5 f5 hat rr ee pp=>?_)
  refine FE.here (d:=.ref h0.length) (h:=h5) f5 rr ?_
  simp only [RD]
  exact ⟨Dd,rfl,hat⟩⟩⟩
noncomputable def sDComp' (i:Nat) (cap:List (Option Nat)) (mi:G→M Src) (g:D→G→M G) (k:G→M Bool) (me mv:G→M D):G→M Out:=sAsg (eDComp cap mi g k me mv) (gN i)
theorem s_dcomp (i:Nat) {y:Str} {py spos:Pos} (hc:X.calm = true) (S:CS X sc N' cap) (hi:SI X EX tg iter mi) (hg:∀ s H fp xe,SGk (X.comp N' sc s H fp xe) EX tg own g) (ht:∀ s H fp xe,SCs (X.comp N' sc s H fp xe) EX ifs k)
 (he:∀ s H fp xe,SE (X.comp N' sc s H fp xe) EX elt me) (hv:∀ s H fp xe,SE (X.comp N' sc s H fp xe) EX val mv) (hN:X.N.Nodup) (hy:X.N[i]? = some y:=by rfl) (hl:X.env.scope.names.lookup y = some .local:=by rfl) (hown:∀ j ∈ own,cap[j]? = some none:=by decide)
 (hsw:swapsWith (.DictComp elt val [⟨tg,iter,ifs,0⟩] sc pos) (some (.Name y py)) spos.line X.env = pure true:=by rfl) (hs:∀ x,foldedSetIterable iter X.env x = pure x:=by intro _; rfl) :
 S1 X EX (.Assign [.Name y py] (.DictComp elt val [⟨tg,iter,ifs,0⟩] sc pos) spos) (sDComp' i cap mi g k me mv) :=
 ⟨PS.imp (ps_dcomp (g:=tGk X.K EX own g) (ti:=tT X.K EX k) (te:=tE X.K EX me) (tv:=tE X.K EX mv) hc S hi.h (fun s H fp xe=>(hg s H fp xe).h) (fun s H fp xe=>(ht s H fp xe).h) (fun s H fp xe=>(he s H fp xe).h) (fun s H fp xe=>(hv s H fp xe).h) hN hy hl hsw hs) fun σ H D ⟨ρ,γ,h,rel,fin⟩=>⟨ρ,γ,h,rel,(Fin.bind (Fin.bind fin)).mono fun src ρ0 h0 H0 p0 e0 r0 f0 J hJ Dd hD=>by
  have rP:RH X.K (ρ0++[Dd]) (h0++[.dK []]) (upd H0 Dd (.dK [])):=r0.pushO hD ⟨[],upd_same,.nil⟩
  have eP:Ext X.K H0 (upd H0 Dd (.dK [])):=Ext.upd (.inl hD)
  have f1:=Fin.bind f0
  have f2:=f1 (ρ0++[Dd]) _ (Pre.app _ _) eP rP
  refine comp_runD r0 (rel.g.mono p0 e0) hJ hD hown ((Fin.bind f2).mono fun _ ρ5 h5 H5 p5 e5 r5 f5 hat rr ee pp=>?_)
  have f6:=f5 ρ5 H5 (Pre.refl _) (Ext.refl _ _) rr
  have f7:=f6 ρ5 H5 (Pre.refl _) (Ext.refl _ _) rr
  refine f7 _ (RG.set (((rel.g.mono p0 e0).mono (Pre.app _ _) eP).mono pp ee) i ?_)
  simp only [RD]
  exact ⟨Dd,rfl,hat⟩⟩⟩
end
end FT
namespace L2
open PySem PySem.Spec PyProof.Rows
theorem is_kV {k:Key} {u:Value} (h:keyIs k u = true):RelV (kV k) u:=by
 rcases keyIs_shape h with ⟨i,t,rfl,rfl⟩ | ⟨x,t,rfl,rfl⟩
 ·exact ⟨t,rfl⟩
 ·exact ⟨t,rfl⟩
theorem KV.get:∀ {kvs:List (Key × V)} {vs:List (Key × Value)},KV kvs vs→∀ {i:Nat} {k:Key} {x:V},kvs[i]? = some (k,x)→∃ u,vs[i]? = some (k,u)
 | _,_,.nil,i,k,x,e=>by simp at e
 | p :: _,q :: _,.cons a b,0,k,x,e=>by
  have e':p = (k,x):=by simpa using e
  subst e'
  obtain ⟨a1,_⟩:=a
  refine ⟨q.2,?_⟩
  show some q = _
  rw [show k = q.1 from a1]
 | _ :: _,_ :: _,.cons a b,i + 1,k,x,e=>KV.get b (by simpa using e)
def Itk (a:Addr) (ob:Obj) (n:Nat):It :=
 ⟨fun i H=>∃ vs k x,H a = some (.frz ob (.dK vs))∧vs.length = n∧vs[i]? = some (k,x),fun i H y H'=>H' = H∧∀ vs,H a = some (.frz ob (.dK vs))→∃ k x,vs[i]? = some (k,x)∧y = kV k,fun i H=>i = n∧∃ vs,H a = some (.frz ob (.dK vs))∧vs.length = n⟩
theorem frz_at {X:Cx} {pins:List (Addr × Obj)} {σ:St} {H:Hp} {s:Shared} {a:Addr} {ob:Obj} {vs:List (Key × V)} {es:Array DictEntry} {ep:Nat} (I:Inv X pins σ H s) (e:H a = some (.frz ob (.dK vs))) (hob:ob.data = .dict es ep) :
 vs.length ≤ sizeLine∧∃ us,KV vs us∧s.heap.DictAt (mixKind X.prog X.w) a us ep:=by
 obtain ⟨go,z,hd,us,rel,o,es',ep',ho,r⟩:=(show ObjOk X.prog X.w H s.heap a (.frz ob (.dK vs)) from I.hok a _ e)
 rw [go] at ho
 cases ho
 obtain ⟨r1,r2,r3⟩:=r
 have:ep' = ep:=by rw [hob] at r2; cases r2; rfl
 subst this
 exact ⟨z,us,rel,ob,es',go,r1,r2,r3⟩
theorem turn_dict {P:Program} {w:World} {K:PySem.W.Frag} {tg:Expr} (a it:Addr) (ob:Obj) (n ep:Nat) {es:Array DictEntry} (hob:ob.data = .dict es ep):Turn P w K tg (Itk a ob n) [it] it (fun i h=>h.IsKeyIter it a i n ep) where
 mem:=by simp
 obj:=fun i h st b hb=>by
  have e:b = it:=by simpa using hb
  subst e
  obtain ⟨o,e,c,d⟩:=st
  exact ⟨o,e,fun v z=>by rw [d] at z; cases z⟩
 keep:=fun i h h' st k=>st.at fun o e=>k it (by simp) o e
 item:=by
  intro X hP hw hK hc i pins s σ H E I hf st hg
  subst hP hw hK
  obtain ⟨vs,k,x,hq,hl,hx⟩:=hg
  obtain ⟨z,us,rel,dat⟩:=frz_at I hq hob
  obtain ⟨u,hu⟩:=rel.get hx
  have le:=rel.length
  have st':s.heap.IsKeyIter it a i us.length ep:=by rw [← le,hl]; exact st
  obtain ⟨f0,f1,f2,f3,f4,f5⟩:=hf it (by simp)
  refine wpAny_pyNext_dict_item st' dat hu fun key h' hkey hit' sb=>?_
  have I1:Inv X pins σ H { s with heap:=h' }:=I.turned (t':=s.toks) (fun b o hb e=>(sb.2 b hb).trans e) f0 f1 f3 f4 f5
  have hit2:h'.IsKeyIter it a (i + 1) n ep:=by rw [← hl,le]; exact hit'
  obtain ⟨o,e,c,d⟩:=id hit2
  exact ⟨key,rfl,go_of (s:={ s with heap:=h' }) e c d (by decide) ⟨kV k,H,I1,is_kV hkey,⟨rfl,fun ys hy=>by rw [hq] at hy; cases hy; exact ⟨k,x,hx,rfl⟩⟩,hit2,fun b hb=>(hf b hb).1⟩⟩
 done:=by
  intro X hP hw hK hc i pins s σ H E I hf st hg
  subst hP hw hK
  obtain ⟨hi,vs,hq,hl⟩:=hg
  obtain ⟨z,us,rel,dat⟩:=frz_at I hq hob
  have le:=rel.length
  have st':s.heap.IsKeyIter it a i us.length ep:=by rw [← le,hl]; exact st
  obtain ⟨f0,f1,f2,f3,f4,f5⟩:=hf it (by simp)
  exact wpAny_pyNext_dict_end (I.ok.hd hc) st' dat (List.getElem?_eq_none (by omega)) fun h' eb=>⟨rfl,I.turned (t':=s.toks) (fun b o hb e=>eb b o hb e) f0 f1 f3 f4 f5⟩
 self:=fun _ _ _ _ _ st h=>wpAny_pyIter_keyiter st h
section
variable {X:Cx} {tg:Expr}
def iDictT (tl:TE):TI:=fun σ H R=>tl σ H fun x H1=>∃ a,x = .ref a∧((∃ vs,H1 a = some (.dK vs)∧∀ ob,R (Itk a ob vs.length) (upd H1 a (.frz ob (.dK vs))))∨∃ ob vs,H1 a = some (.frz ob (.dK vs))∧R (Itk a ob vs.length) H1)
theorem pi_dict {l:Expr} {tl:TE} (hl:PE X l tl):PI X tg l (iDictT tl):=by
 intro pins s σ H R I h
 refine thn (hl pins s σ H _ I h) fun v s1 ⟨x,H1,I1,r1,q1⟩=>?_
 obtain ⟨a,e,q1⟩:=q1
 subst e
 cases r1
 rcases q1 with ⟨vs,hH,q⟩ | ⟨ob,vs,hH,q⟩
 ·obtain ⟨z,hd,us,rel,dd⟩:=dk_of I1.hok hH
  obtain ⟨ob,es,ep,ho,r1,r2,r3⟩:=id dd
  have dat:s1.heap.DictAt (mixKind X.prog X.w) a us ep:=⟨ob,es,ho,r1,r2,r3⟩
  refine wpAny_pyIter_dict hd dat ?_
  have le:=rel.length
  generalize hp:({ cls:=.type "dict_keyiterator",data:=.fields #[.ref a,.int 0 0,.int us.length 0,.int ep 0] }:Obj) = itO
  have I2:Inv X pins σ H1 { s1 with heap:=s1.heap.push itO }:=I1.kept (t':=s1.toks) fun b o e=>Heap.get?_push_of_some _ e
  have ho2:(s1.heap.push itO).get? a = some ob:=Heap.get?_push_of_some _ ho
  have I3:Inv X pins σ (upd H1 a (.frz ob (.dK vs))) { s1 with heap:=s1.heap.push itO }:=d_write (s:={ s1 with heap:=s1.heap.push itO }) (h':=s1.heap.push itO) (t':=s1.toks) I2 (by rw [hH]; exact True.intro) (Heap.SameBut.refl _ _) ⟨_,ho2⟩ ⟨ho2,z,hd,us,rel,ob,es,ep,ho2,r1,r2,r3⟩
  refine ⟨s1.heap.objs.size,[s1.heap.objs.size],_,_,_,rfl,I3,turn_dict a _ ob vs.length ep r2,?_,fun b hb=>?_,q ob⟩
  ·refine ⟨itO,?_,by rw [← hp],by rw [← hp,le]; rfl⟩
   exact Heap.get?_push_size _ (by rw [← hp]; rfl)
  ·have e:b = s1.heap.objs.size:=by simpa using hb
   subst e
   refine I1.fpOk (Nat.le_refl _) ?_
   rw [upd_ne (Nat.ne_of_gt (Heap.lt_size ho))]
   exact I1.hok.fresh (Nat.le_refl _)
 ·obtain ⟨go,z,hd,us,rel,dd⟩:=(show ObjOk X.prog X.w H1 s1.heap a (.frz ob (.dK vs)) from I1.hok a _ hH)
  obtain ⟨ob',es,ep,ho,r1,r2,r3⟩:=id dd
  rw [go] at ho
  cases ho
  have dat:s1.heap.DictAt (mixKind X.prog X.w) a us ep:=⟨ob,es,go,r1,r2,r3⟩
  refine wpAny_pyIter_dict hd dat ?_
  have le:=rel.length
  generalize hp:({ cls:=.type "dict_keyiterator",data:=.fields #[.ref a,.int 0 0,.int us.length 0,.int ep 0] }:Obj) = itO
  have I2:Inv X pins σ H1 { s1 with heap:=s1.heap.push itO }:=I1.kept (t':=s1.toks) fun b o e=>Heap.get?_push_of_some _ e
  refine ⟨s1.heap.objs.size,[s1.heap.objs.size],_,_,_,rfl,I2,turn_dict a _ ob vs.length ep r2,?_,fun b hb=>?_,q⟩
  ·refine ⟨itO,?_,by rw [← hp],by rw [← hp,le]; rfl⟩
   exact Heap.get?_push_size _ (by rw [← hp]; rfl)
  ·have e:b = s1.heap.objs.size:=by simpa using hb
   subst e
   exact I1.fpOk (Nat.le_refl _) (I1.hok.fresh (Nat.le_refl _))
end
end L2
namespace FT
open PySem PySem.Spec PyProof.Rows L2
def kD:Key→D
 | .inl i=>.int i
 | .inr x=>.str x
theorem kD_rel {K:PySem.W.Frag} {ρ:List Addr} {H:Hp} (k:Key):RD K ρ H (kD k) (kV k):=by cases k <;> simp [kD,kV,RD]
def keysK (kvs:List (Key × D)):List D:=kvs.map fun kv=>kD kv.1
def iDic (ma:G→M D):G→M Src:=fun γ=>do
 let x ← ma γ
 match x with
 | .ref n=>fun h=>match h[n]? with
  | some (.dK kvs)=>.ok (.con (keysK kvs)) (h.set n (.dF kvs))
  | some (.dF kvs)=>.ok (.con (keysK kvs)) h
  | _=>.bad
 | _=>bad
theorem RK.get {K:PySem.W.Frag} {ρ:List Addr} {H:Hp}:∀ {kvs:List (Key × D)} {vs:List (Key × V)},RK K ρ H kvs vs→∀ {i:Nat} {d:D},(keysK kvs)[i]? = some d→∃ k x,d = kD k∧vs[i]? = some (k,x)
 | _,_,.nil,i,d,e=>by simp [keysK] at e
 | p :: _,q :: _,.cons a b,0,d,e=>by
  have e':kD p.1 = d:=by simpa [keysK] using e
  subst e'
  exact ⟨q.1,q.2,by rw [a.1],rfl⟩
 | _ :: _,_ :: _,.cons a b,i + 1,d,e=>RK.get b (by simpa [keysK] using e)
theorem jok_dict {K:PySem.W.Frag} {ρ:List Addr} {H:Hp} {a:Addr} {ob:Obj} {kvs:List (Key × D)} {vs:List (Key × V)} (e:H a = some (.frz ob (.dK vs))) (rk:RK K ρ H kvs vs):JOK K (.con (keysK kvs)) ρ H (Itk a ob vs.length):=fun i ρ2 h2 H2 p2 e2 r2 _=>by
 have hq:=e2.d _ _ _ e
 refine ⟨fun d hd=>?_,fun hi=>?_⟩
 ·obtain ⟨k,x,rfl,g⟩:=RK.get rk hd
  refine ⟨⟨vs,k,x,hq,rfl,g⟩,fun y H3 ⟨z1,z2⟩=>?_⟩
  subst z1
  obtain ⟨k',x',g',rfl⟩:=z2 vs hq
  rw [g] at g'
  cases g'
  exact ⟨kD_rel k,r2,Ext.refl _ _⟩
 ·refine ⟨?_,vs,hq,rfl⟩
  have:(keysK kvs).length = i:=hi
  unfold keysK at this
  rw [List.length_map,RK.len rk] at this
  exact this.symm
section
variable {X:Cx} {EX:XX} {a tg:Expr} {ma:G→M D}
theorem si_dic (ha:SE X EX a ma):SI X EX tg a (iDic ma) :=
 ⟨PI.imp (pi_dict ha.h) fun σ H R ⟨ρ,γ,h,rel,fin⟩=>⟨ρ,γ,h,rel,(Fin.bind fin).mono fun x ρ1 h1 H1 p1 e1 r1 f1 v rv=>by
  cases x <;> first | exact (show False from f1).elim | skip
  rename_i n
  simp only [RD] at rv
  obtain ⟨q,rfl,hq⟩:=rv
  refine ⟨q,rfl,?_⟩
  dsimp only at f1
  cases e:h1[n]? with
  | none=>rw [e] at f1; exact f1.elim
  | some ob =>
   cases ob with
   | lst xs=>rw [e] at f1; exact f1.elim
   | set xs=>rw [e] at f1; exact f1.elim
   | dct=>rw [e] at f1; exact f1.elim
   | exc c=>rw [e] at f1; exact f1.elim
   | dK kvs =>
    rw [e] at f1
    dsimp only at f1
    obtain ⟨a1,n1,vs,o1,d1⟩:=r1.at e
    rw [hq] at n1; cases n1
    refine .inl ⟨vs,o1,fun ob=>?_⟩
    have ext:Ext X.K H1 (upd H1 q (.frz ob (.dK vs))):=Ext.upd (.inr ⟨_,o1,trivial⟩)
    have r2:RH X.K ρ1 (h1.set n (.dF kvs)) (upd H1 q (.frz ob (.dK vs))):=r1.setO e hq ⟨ob,vs,upd_same,d1.mono (Pre.refl _) ext⟩
    exact f1 ρ1 _ (Pre.refl _) ext r2 _ (jok_dict upd_same (d1.mono (Pre.refl _) ext))
   | dF kvs =>
    rw [e] at f1
    dsimp only at f1
    obtain ⟨a1,n1,ob,vs,o1,d1⟩:=r1.at e
    rw [hq] at n1; cases n1
    exact .inr ⟨ob,vs,o1,f1 ρ1 _ (Pre.refl _) (Ext.refl _ _) r1 _ (jok_dict o1 d1)⟩⟩⟩
end
end FT
namespace L2
open PySem PySem.Spec PyProof.Rows
def Itw (K:PySem.W.Frag) (a:Addr) (n:Nat):It :=
 ⟨fun i H=>∃ xs x,SqL K H a xs∧xs.length = n∧i < n∧xs[n - 1 - i]? = some x,fun i H x H'=>H' = H∧∀ xs,SqL K H a xs→xs[n - 1 - i]? = some x,fun i H=>i = n⟩
theorem turn_rvL {P:Program} {w:World} {K:PySem.W.Frag} {tg:Expr} (a it:Addr) (n:Nat):Turn P w K tg (Itw K a n) [it] it (fun i h=>h.IsRevIter it a ((n:Int) - 1 - i)) where
 mem:=by simp
 obj:=fun i h st b hb=>by
  have e:b = it:=by simpa using hb
  subst e
  obtain ⟨o,e,c,d⟩:=st
  exact ⟨o,e,fun v z=>by rw [d] at z; cases z⟩
 keep:=fun i h h' st k=>st.at fun o e=>k it (by simp) o e
 item:=by
  intro X hP hw hK hc i pins s σ H E I hf st hg
  subst hP hw hK
  obtain ⟨xs,x,hq,hl,hi,hx⟩:=hg
  obtain ⟨its,rv,p,hz⟩:=I.list hq
  obtain ⟨u,hu,ru⟩:=rv.get hx
  have le:=rv.length
  obtain ⟨f0,f1,f2,f3,f4,f5⟩:=hf it (by simp)
  have st':s.heap.IsRevIter it a ((n - 1 - i:Nat):Int):=by
   have e:((n - 1 - i:Nat):Int) = (n:Int) - 1 - i:=by omega
   rw [e]; exact st
  refine wpAny_pyNext_rev_item st' p.isList (x:=u) (by simpa using hu) fun h' e' sb=>?_
  have I1:Inv X pins σ H { s with heap:=h' }:=I.turned (t':=s.toks) (fun b o hb e=>(sb.2 b hb).trans e) f0 f1 f3 f4 f5
  have e2:h'.IsRevIter it a ((n:Int) - 1 - (i + 1:Nat)):=by
   have e:((n - 1 - i:Nat):Int) - 1 = (n:Int) - 1 - (i + 1:Nat):=by omega
   rw [← e]; exact e'
  obtain ⟨o,eo,c,d⟩:=id e2
  exact ⟨u,rfl,go_of (s:={ s with heap:=h' }) eo c d (by decide) ⟨x,H,I1,ru,⟨rfl,fun ys hy=>by rw [I.list_inj hy hq]; exact hx⟩,e2,fun b hb=>(hf b hb).1⟩⟩
 done:=by
  intro X hP hw hK hc i pins s σ H E I hf st hg
  subst hP hw hK
  have hg:i = n:=hg
  subst hg
  obtain ⟨f0,f1,f2,f3,f4,f5⟩:=hf it (by simp)
  have st':s.heap.IsRevIter it a (-1):=by
   have e:(i:Int) - 1 - i = -1:=by omega
   rw [← e]; exact st
  exact wpAny_pyNext_rev_end (I.ok.hd hc) st' fun h' eb=>⟨rfl,I.turned (t':=s.toks) (fun b o hb e=>eb b o hb e) f0 f1 f3 f4 f5⟩
 self:=fun _ _ _ _ _ st h=>wpAny_pyIter_revIter st h
section
variable {X:Cx} {tg:Expr}
def iRvL (K:PySem.W.Frag) (ta:TA):TI:=fun σ H R=>ta σ H fun vs H1=>∃ a xs,vs = [.ref a]∧SqL K H1 a xs∧R (Itw K a xs.length) H1
theorem pi_rvL {e:Expr} {ta:TA} {p pos:Pos} (hg:Gl X "reversed") (hm:X.mg "reversed" = none) (ha:PA X [e] ta) (hs:starEach [e] X.env = [(false,eval e X.env)]:=by rfl):PI X tg (.Call (.Name "reversed" p) [e] [] pos) (iRvL X.K ta):=by
 intro pins s σ H R I h
 refine Call_ (ld_blt I hg hm boot_reversed (PyProof.Rows.callWith_type1 (thn (ha pos pins s σ H _ I h) fun us s1 ⟨vs,H1,I1,r1,q1⟩=>?_) hs rfl))
 obtain ⟨a,xs,e,hq,q⟩:=q1
 subst e
 obtain ⟨u,rfl,ru⟩:=vals1 r1
 cases ru
 obtain ⟨its,rv,pl,hz⟩:=I1.list hq
 have le:=rv.length
 refine call_reversed_list pl.isList ?_
 have I2:Inv X pins σ H1 { s1 with heap:=s1.heap.push (revObj a ((its.toArray.size:Int) - 1)) }:=I1.kept (t':=s1.toks) fun b o e=>Heap.get?_push_of_some _ e
 have gt:(s1.heap.push (revObj a ((its.toArray.size:Int) - 1))).IsRevIter s1.heap.objs.size a ((xs.length:Int) - 1 - (0:Nat)):=by
  refine ⟨_,Heap.get?_push_size _ rfl,rfl,?_⟩
  have e:((its.toArray.size:Nat):Int) - 1 = (xs.length:Int) - 1 - (0:Nat):=by rw [List.size_toArray,le]; omega
  rw [← e]
  rfl
 have T:=turn_rvL (P:=X.prog) (w:=X.w) (K:=X.K) (tg:=tg) a s1.heap.objs.size xs.length
 refine T.self X.A 0 _ _ _ gt ?_
 refine ⟨s1.heap.objs.size,[s1.heap.objs.size],_,_,H1,rfl,I2,T,gt,fun b hb=>?_,q⟩
 have e:b = s1.heap.objs.size:=by simpa using hb
 subst e
 exact I1.fpOk (Nat.le_refl _) (I1.hok.fresh (Nat.le_refl _))
end
end L2
namespace FT
open PySem PySem.Spec PyProof.Rows L2
def iRevL (ma:G→M D):G→M Src:=fun γ=>do
 let x ← ma γ
 match x with
 | .ref n=>do
  let xs ← getL n
  pure (.obj n (.lst xs) xs.reverse)
 | _=>bad
section
variable {X:Cx} {EX:XX} {a tg:Expr} {p pos:Pos} {ma:G→M D}
theorem si_revL (hg:Gl X "reversed") (hm:X.mg "reversed" = none) (ha:SE X EX a ma) (hs:starEach [a] X.env = [(false,eval a X.env)]:=by rfl):SI X EX tg (.Call (.Name "reversed" p) [a] [] pos) (iRevL ma) :=
 ⟨PI.imp (pi_rvL hg hm (pa_cons ha.h pa_nil hs) hs) fun σ H R ⟨ρ,γ,h,rel,fin⟩=>⟨ρ,γ,h,rel,(Fin.bind fin).mono fun x ρ1 h1 H1 p1 e1 r1 f1 v rv=>by
  cases x <;> first | exact (show False from f1).elim | skip
  rename_i n
  simp only [RD] at rv
  obtain ⟨q,rfl,hq⟩:=rv
  have f2:=Fin.bind (show Fin X.K EX ρ1 H1 (fun src ρ' _ H'=>∀ J,JOK X.K src ρ' H' J→R J H') ((getL n >>= fun xs=>(pure (.obj n (.lst xs) xs.reverse):M Src)) h1) from f1)
  cases e3:getL n h1 with
  | bad=>rw [e3] at f2; exact f2.elim
  | err z hz=>exact (getL_no e3).elim
  | ok xs h3 =>
   obtain ⟨rfl,q1⟩:=getL_ok e3
   rw [e3] at f2
   obtain ⟨a1,n1,vs,o1,d1⟩:=r1.at q1
   rw [hq] at n1; cases n1
   have f3:=f2 ρ1 H1 (Pre.refl _) (Ext.refl _ _) r1
   have f4:=f3 ρ1 H1 (Pre.refl _) (Ext.refl _ _) r1
   have hl:=d1.length
   refine ⟨q,vs,rfl,SqL.of o1,f4 _ fun i ρ2 h4 H2 p2 e2 r2 good=>?_⟩
   have good:h4[n]? = some (.lst xs):=good
   obtain ⟨a2,n2,us,o2,d2⟩:=r2.at good
   rw [p2 _ _ hq] at n2; cases n2
   have hl2:=d2.length
   refine ⟨fun d hd=>?_,fun hi=>?_⟩
   ·have hd':xs.reverse[i]? = some d:=hd
    have hi:=(List.getElem?_eq_some_iff.mp hd').1
    rw [List.length_reverse] at hi
    rw [List.getElem?_reverse hi] at hd'
    obtain ⟨x,g1,g2⟩:=d2.get hd'
    refine ⟨⟨us,x,SqL.of o2,by omega,by omega,by rw [← hl]; exact g1⟩,fun y H3 ⟨z1,z2⟩=>?_⟩
    subst z1
    have:=z2 us (SqL.of o2)
    rw [← hl,g1] at this; cases this
    exact ⟨g2,r2,Ext.refl _ _⟩
   ·have hi':xs.reverse.length = i:=hi
    rw [List.length_reverse] at hi'
    show i = vs.length
    omega⟩⟩
end
def fClear (n:Nat):M D:=updL n fun _=>some (.non,[])
theorem se_clear {X:Cx} {EX:XX} {o:Expr} {mo:G→M D} {apos cpos:Pos} (ho:SE X EX o mo) (hbase:attributeBase o "clear" X.env (eval o X.env) = eval o X.env:=by rfl) (hline:(apos.endLine == cpos.line) = true:=by rfl) :
 SE X EX (.Call (.Attribute o "clear" apos) [] [] cpos) (eM0 fClear mo) :=
 ⟨PE.imp (pe_bm0 PySem.F.plainAttrs_list PySem.F.slot_list_clear PySem.F.type_list_clear mt_clear ho.h hbase hline) (meth0 fun ρ h H n q Q r hq fin=>by
  obtain ⟨xs,d,ys,vs,g1,g2,g3,g4,g5⟩:=updL_rel r hq fin
  cases g1
  exact ⟨q,vs,rfl,rfl,g3,g5 _ _ (by simp [RD]) RDs.nil⟩)⟩
end FT
set_option maxHeartbeats 4000000
namespace FT
open PySem PySem.Spec PyProof.Rows L2
section
variable {P:Program} {w:World} {A:Around} {E:Value→Shared→Prop} {s:Shared}
theorem newCode0 {Q:Value→Shared→Prop} (h:Q (.ref s.heap.objs.size) { s with heap:=s.heap.push (freshS w) }) :
 codeAny (model P w) A (.call (.builtin "set.__new__") ⟨[.type "set"],[]⟩) (wants Q E) s:=by
 refine codeAny_of_tree (show wpAny _ A.in1 (do checkBuiltinCall "set.__new__" ⟨[.type "set"],[]⟩; again (.builtin "set.__new__" ⟨[.type "set"],[]⟩)) _ _ s from ?_)
 refine wpAny_bind (wpAny_of_eq F.newCall_set_0 (wpAny_pure ⟨plainId_quiet F.plain_set_new _,codeAny_builtin F.entry_set_new ?_⟩))
 rw [Around.under_plainId F.plain_set_new _]
 unfold Builtin.«set.__new__» Builtin.Frozenset.newClass
 have hz:=sub_set_self
 obtain ⟨hp,g,d,tk,os⟩:=s
 dsimp only
 wp_walk
 refine wpAny_askSetting (wpAny_pure ?_)
 dsimp only
 simp only [newObj]
 refine wpAny_bind (wpAny_alloc (wpAny_pure ?_))
 exact wpAny_pure h
theorem call_set0 {Q:Value→Shared→Prop} (h:Q (.ref s.heap.objs.size) { s with heap:=s.heap.push (freshS w) }):wpAny (model P w) A (call (.type "set") []) Q E s:=by
 obtain ⟨c,tl,hmro⟩:=F.called_set.mro
 have hmade:=F.called_set.made
 have hsub:=F.called_set.sub
 refine wpAny_call (codeAny_of_tree ?_)
 show wpAny _ _ (callAny (.type "set") _) _ _ _
 refine wpAny_pure ⟨Code.quiet_builtin _ (by decide +kernel),codeAny_builtin F.entry_type_call ?_⟩
 rw [Around.under_plain (weight_type_call_type "set" [] []) rfl]
 have h1:=F.called_set.notType
 have h2:=F.called_set.canCreate
 have hct:=F.typeCall_set_0
 repeat (any_goals (first | assumption | wp_step))
 refine codeAny_mono (newCode0 (E:=E) (Q:=fun obj s₁=>obj = .ref s.heap.objs.size∧s₁ = { s with heap:=s.heap.push (freshS w) }) ⟨rfl,rfl⟩) fun r s₁ hr=>?_
 cases r with
 | error e=>exact hr
 | ok fl =>
  cases fl with
  | next=>exact hr.elim
  | brk=>exact hr.elim
  | cont=>exact hr.elim
  | ret obj =>
   obtain ⟨rfl,rfl⟩:=hr
   have gS:(s.heap.push (freshS w)).get? s.heap.objs.size = some (freshS w):=Heap.get?_push_size _ rfl
   have tS:Shared.TypeIs { s with heap:=s.heap.push (freshS w) } (.ref s.heap.objs.size) "set":=⟨_,gS,rfl⟩
   have y1:=F.called_set.init.lookup
   have y2:=F.called_set.init.bind (.ref s.heap.objs.size)
   repeat (any_goals (first | assumption | wp_step))
   refine codeAny_mono (codeAny_call_builtin (R:=wants (fun r s₂=>r = .none∧Q (.ref s.heap.objs.size) s₂) E) F.called_set.init.plain F.entry_set_init (check_set_init tS ?_)) fun r₂ s₂ hr₂=>?_
   ·unfold Builtin.«set.__init__» noKeywords
    wp_walk
    exact ⟨rfl,h⟩
   ·cases r₂ with
    | error e=>exact hr₂
    | ok fl₂ =>
     cases fl₂ with
     | ret r =>
      obtain ⟨rfl,hq⟩:=hr₂
      repeat (any_goals (first | assumption | wp_step))
     | _=>exact hr₂.elim
end
section
variable {X:Cx} {EX:XX} {p pos:Pos}
def tSet0:TE:=fun _ H Q=>∀ q,H q = none→Q (.ref q) (upd H q (.set []))
theorem pe_set0 (hg:Gl X "set") (hm:X.mg "set" = none):PE X (.Call (.Name "set" p) [] [] pos) tSet0:=by
 intro pins s σ H Q I h
 refine Call_ (ld_blt I hg hm (by decide +kernel) (PyProof.Rows.callWith_type0 (call_set0 ?_)))
 exact ⟨.ref s.heap.objs.size,_,I.laid (t':=s.toks) (o:=.set []) (fun _ _ e=>Heap.get?_push_of_some _ e) (Nat.le_refl _) fresh_at,rfl,h _ I.fresh⟩
theorem se_set0 (hg:Gl X "set") (hm:X.mg "set" = none):SE X EX (.Call (.Name "set" p) [] [] pos) (fun _=>newSet []) :=
 ⟨PE.imp (pe_set0 hg hm) fun σ H Q ⟨ρ,γ,h,rel,fin⟩ q hq=>newSet_rel rel.h hq fin⟩
end
end FT
set_option maxHeartbeats 2000000
namespace FT
open PySem PySem.Spec PyProof.Rows L2
def Mut2 (st:List (List Nat)) (x y:Nat):Prop:=Rch st x y∧Rch st y x
section
variable {st:List (List Nat)} {x y z:Nat}
theorem Rch.trans (a:Rch st x y) (b:Rch st y z):Rch st x z:=by
 induction b with
 | here=>exact a
 | step _ h ih=>exact ih.step h
theorem Mut2.refl:Mut2 st x x:=⟨.here,.here⟩
theorem Mut2.symm (a:Mut2 st x y):Mut2 st y x:=⟨a.2,a.1⟩
theorem Mut2.trans (a:Mut2 st x y) (b:Mut2 st y z):Mut2 st x z:=⟨a.1.trans b.1,b.2.trans a.2⟩
theorem Rch.leaves {F:List Nat} (h:Rch st x y) (hx:x ∈ F) (hy:y ∉ F):∃ a b,a ∈ F∧b ∉ F∧b ∈ nx st a∧Rch st x a∧Rch st b y:=by
 induction h with
 | here=>exact (hy hx).elim
 | @step a b h1 h2 ih =>
  by_cases ha:a ∈ F
  ·exact ⟨a,b,ha,hy,h2,h1,.here⟩
  ·obtain ⟨c,d,q1,q2,q3,q4,q5⟩:=ih ha
   exact ⟨c,d,q1,q2,q3,q4,q5.step h2⟩
end
structure KS where
 seen:List Nat
 ord:List Nat
 wt:List (Nat × Bool)
def kStep (L:Nat→List Nat) (s:KS):KS :=
 match s.wt.getLast? with
 | none=>s
 | some (x,true)=>⟨s.seen,s.ord++[x],s.wt.dropLast⟩
 | some (x,false)=>if x ∈ s.seen then ⟨s.seen,s.ord,s.wt.dropLast⟩ else ⟨s.seen++[x],s.ord,s.wt.dropLast++[(x,true)]++(L x).map fun y=>(y,false)⟩
def opens (wt:List (Nat × Bool)):List Nat:=(wt.filter fun p=>p.2).map (·.1)
structure KI (st:List (List Nat)) (V:List Nat) (s:KS):Prop where
 nd:s.seen.Nodup
 sub:∀ x ∈ s.seen,x ∈ V
 wv:∀ p ∈ s.wt,p.1 ∈ V
 so:∀ x,x ∈ s.seen ↔ x ∈ s.ord∨x ∈ opens s.wt
 on:(s.ord++opens s.wt).Nodup
 root:∀ x ∈ V,x ∈ s.seen∨(x,false) ∈ s.wt
 nxo:∀ l r x,s.wt = l++(x,true) :: r→∀ y ∈ nx st x,y ∈ s.seen∨(y,false) ∈ r
 nxf:∀ x ∈ s.ord,∀ y ∈ nx st x,y ∈ s.seen
 ch:∀ l r x,s.wt = l++(x,true) :: r→∀ p ∈ r,Rch st x p.1
 q:∀ y ∈ s.ord,∀ v,v ∉ s.ord→Rch st y v→∃ z,z ∉ s.ord∧Mut2 st z y
 k:∀ l x r,s.ord = l++x :: r→∀ y ∈ l,Rch st y x→∃ z,z ∉ l∧Mut2 st z y
theorem opens_app (a b:List (Nat × Bool)):opens (a++b) = opens a++opens b:=by unfold opens; rw [List.filter_append,List.map_append]
theorem opens_f (l:List Nat):opens (l.map fun y=>(y,false)) = []:=by
 induction l with
 | nil=>rfl
 | cons a l ih=>exact ih
theorem mem_opens {wt:List (Nat × Bool)} {x:Nat}:x ∈ opens wt ↔ (x,true) ∈ wt:=by
 unfold opens
 rw [List.mem_map]
 constructor
 ·rintro ⟨⟨a,b⟩,h,rfl⟩
  obtain ⟨h1,h2⟩:=List.mem_filter.mp h
  have:b = true:=h2
  subst this
  exact h1
 ·exact fun h=>⟨(x,true),List.mem_filter.mpr ⟨h,rfl⟩,rfl⟩
theorem snoc_cut {α:Type} {w:List α} {p a:α} {l r:List α} (e:w++[p] = l++a :: r):(r = []∧l = w∧a = p)∨∃ r',r = r'++[p]∧w = l++a :: r':=by
 rcases List.eq_nil_or_concat r with rfl | ⟨r',q,rfl⟩
 ·have e2:=List.append_inj' e rfl
  exact .inl ⟨rfl,e2.1.symm,by have:=e2.2; simpa using this.symm⟩
 ·rw [List.concat_eq_append] at e ⊢
  rw [← List.cons_append,← List.append_assoc] at e
  have e2:=List.append_inj' e rfl
  exact .inr ⟨r',by have:=e2.2; simp at this; rw [this],e2.1⟩
theorem cutF {w l:List (Nat × Bool)} {x a:Nat}:∀ (n:Nat) (N:List Nat),N.length = n→∀ r,w++[(x,true)]++N.map (fun y=>(y,false)) = l++(a,true) :: r→(a = x∧r = N.map fun y=>(y,false))∨∃ r',w = l++(a,true) :: r'∧r = r'++[(x,true)]++N.map fun y=>(y,false)
 | 0,N,hn,r,e2=>by
  have:N = []:=List.length_eq_zero_iff.mp hn
  subst this
  rw [List.map_nil,List.append_nil] at e2
  rcases snoc_cut e2 with ⟨rfl,rfl,h⟩ | ⟨r',rfl,e3⟩
  ·exact .inl ⟨by injection h,rfl⟩
  ·exact .inr ⟨r',e3,by simp⟩
 | n + 1,N,hn,r,e2=>by
  rcases List.eq_nil_or_concat N with rfl | ⟨N,y,rfl⟩
  ·simp at hn
  ·rw [List.concat_eq_append] at *
   rw [List.map_append,List.map_cons,List.map_nil,← List.append_assoc] at e2
   rcases snoc_cut e2 with ⟨_,_,h⟩ | ⟨r',rfl,e3⟩
   ·injection h with _ h; cases h
   ·rcases cutF n N (by simpa using hn) r' e3 with ⟨q1,q2⟩ | ⟨r2,q1,q2⟩
    ·exact .inl ⟨q1,by rw [q2]; simp⟩
    ·exact .inr ⟨r2,q1,by rw [q2]; simp⟩
section
variable {st:List (List Nat)} {V:List Nat} {s:KS}
theorem ki_end {w:List (Nat × Bool)} {x:Nat} (i:KI st V s) (e:s.wt = w++[(x,true)]):KI st V ⟨s.seen,s.ord++[x],w⟩:=by
 have eo:opens s.wt = opens w++[x]:=by rw [e,opens_app]; rfl
 have nxx:∀ y ∈ nx st x,y ∈ s.seen:=fun y hy=>by
  rcases i.nxo w [] x (by rw [e]) y hy with z | z
  ·exact z
  ·cases z
 have xn:x ∉ s.ord:=fun q=>by
  have:=i.on
  rw [eo] at this
  exact (List.nodup_append.mp this).2.2 x q x (by simp) rfl
 have so':∀ a,a ∈ s.seen ↔ a ∈ s.ord++[x]∨a ∈ opens w:=fun a=>by
  rw [i.so a,eo]
  simp only [List.mem_append,List.mem_singleton]
  constructor
  ·rintro (q | q | q)
   ·exact .inl (.inl q)
   ·exact .inr q
   ·exact .inl (.inr q)
  ·rintro ((q | q) | q)
   ·exact .inl q
   ·exact .inr (.inr q)
   ·exact .inr (.inl q)
 have below:∀ b ∈ opens w,Rch st b x:=fun b hb=>by
  obtain ⟨l,r,e2⟩:=List.append_of_mem (mem_opens.mp hb)
  exact i.ch l (r++[(x,true)]) b (by rw [e,e2]; simp) (x,true) (by simp)
 have qx:∀ v,v ∉ s.ord++[x]→Rch st x v→∃ z,z ∉ s.ord++[x]∧Mut2 st z x:=fun v hv h=>by
  obtain ⟨a,b,q1,q2,q3,q4,_⟩:=h.leaves (F:=s.ord++[x]) (by simp) hv
  have bs:b ∈ s.seen:=by
   rcases List.mem_append.mp q1 with z | z
   ·exact i.nxf a z b q3
   ·simp at z; subst z; exact nxx b q3
  rcases (so' b).mp bs with z | z
  ·exact (q2 z).elim
  ·exact ⟨b,q2,below b z,q4.step q3⟩
 refine ⟨i.nd,i.sub,fun p hp=>i.wv p (by rw [e]; exact List.mem_append_left _ hp),so',?_,fun a ha=>?_,fun l r a e2 y hy=>?_,fun a ha y hy=>?_,fun l r a e2 p hp=>?_,fun y hy v hv h=>?_,fun l a r e2 y hy h=>?_⟩
 ·have:=i.on
  rw [eo] at this
  show (s.ord++[x]++opens w).Nodup
  refine (List.Perm.nodup_iff ?_).mp this
  rw [List.append_assoc]
  exact List.Perm.append_left _ List.perm_append_comm
 ·rcases i.root a ha with z | z
  ·exact .inl z
  ·rw [e] at z
   rcases List.mem_append.mp z with z | z
   ·exact .inr z
   ·simp at z
 ·have e2:w = l++(a,true) :: r:=e2
  rcases i.nxo l (r++[(x,true)]) a (by rw [e,e2]; simp) y hy with z | z
  ·exact .inl z
  ·rcases List.mem_append.mp z with z | z
   ·exact .inr z
   ·simp at z
 ·rcases List.mem_append.mp ha with z | z
  ·exact i.nxf a z y hy
  ·simp at z; subst z; exact nxx y hy
 ·have e2:w = l++(a,true) :: r:=e2
  exact i.ch l (r++[(x,true)]) a (by rw [e,e2]; simp) p (List.mem_append_left _ hp)
 ·rcases List.mem_append.mp hy with z | z
  ·obtain ⟨u,u1,u2⟩:=i.q y z v (fun t=>hv (List.mem_append_left _ t)) h
   by_cases ux:u = x
   ·subst ux
    obtain ⟨t,t1,t2⟩:=qx v hv (u2.1.trans h)
    exact ⟨t,t1,t2.trans u2⟩
   ·exact ⟨u,fun t=>by rcases List.mem_append.mp t with t | t; exact u1 t; simp at t; exact ux t,u2⟩
  ·simp at z; subst z; exact qx v hv h
 ·have e2:s.ord++[x] = l++a :: r:=e2
  rcases snoc_cut e2 with ⟨rfl,rfl,rfl⟩ | ⟨r',rfl,e3⟩
  ·exact i.q y hy a xn h
  ·exact i.k l a r' e3 y hy h
theorem ki_skip {w:List (Nat × Bool)} {x:Nat} (i:KI st V s) (e:s.wt = w++[(x,false)]) (hx:x ∈ s.seen):KI st V ⟨s.seen,s.ord,w⟩:=by
 have eo:opens s.wt = opens w:=by rw [e,opens_app]; simp [opens]
 refine ⟨i.nd,i.sub,fun p hp=>i.wv p (by rw [e]; exact List.mem_append_left _ hp),fun a=>by rw [i.so a,eo],by have:=i.on; rw [eo] at this; exact this,fun a ha=>?_,fun l r a e2 y hy=>?_,i.nxf,fun l r a e2 p hp=>?_,i.q,i.k⟩
 ·rcases i.root a ha with z | z
  ·exact .inl z
  ·rw [e] at z
   rcases List.mem_append.mp z with z | z
   ·exact .inr z
   ·simp at z; subst z; exact .inl hx
 ·have e2:w = l++(a,true) :: r:=e2
  rcases i.nxo l (r++[(x,false)]) a (by rw [e,e2]; simp) y hy with z | z
  ·exact .inl z
  ·rcases List.mem_append.mp z with z | z
   ·exact .inr z
   ·simp at z; subst z; exact .inl hx
 ·have e2:w = l++(a,true) :: r:=e2
  exact i.ch l (r++[(x,false)]) a (by rw [e,e2]; simp) p (List.mem_append_left _ hp)
theorem ki_open {w:List (Nat × Bool)} {x:Nat} (i:KI st V s) (nv:∀ y ∈ nx st x,y ∈ V) (e:s.wt = w++[(x,false)]) (hx:x ∉ s.seen):KI st V ⟨s.seen++[x],s.ord,w++[(x,true)]++(nx st x).map fun y=>(y,false)⟩:=by
 have eo:opens s.wt = opens w:=by rw [e,opens_app]; simp [opens]
 have en:opens (w++[(x,true)]++(nx st x).map fun y=>(y,false)) = opens w++[x]:=by rw [opens_app,opens_app,opens_f,List.append_nil]; rfl
 have xo:x ∉ s.ord++opens w:=fun q=>hx ((i.so x).mpr (by rw [eo]; exact List.mem_append.mp q))
 have xv:x ∈ V:=i.wv (x,false) (by rw [e]; simp)
 have cut:∀ {l r:List (Nat × Bool)} {a:Nat},w++[(x,true)]++(nx st x).map (fun y=>(y,false)) = l++(a,true) :: r→(a = x∧r = (nx st x).map fun y=>(y,false))∨∃ r',w = l++(a,true) :: r'∧r = r'++[(x,true)]++(nx st x).map fun y=>(y,false):=fun {l r a} e2=>cutF _ _ rfl r e2
 refine ⟨?_,fun a ha=>?_,fun p hp=>?_,fun a=>?_,?_,fun a ha=>?_,fun l r a e2 y hy=>?_,fun a ha y hy=>List.mem_append_left _ (i.nxf a ha y hy),fun l r a e2 p hp=>?_,i.q,i.k⟩
 ·rw [List.nodup_append]
  exact ⟨i.nd,by simp,fun a ha b hb h=>hx (by simp at hb; subst hb; exact h ▸ ha)⟩
 ·rcases List.mem_append.mp ha with z | z
  ·exact i.sub a z
  ·simp at z; subst z; exact xv
 ·have hp:p ∈ w++[(x,true)]++(nx st x).map fun y=>(y,false):=hp
  rcases List.mem_append.mp hp with z | z
  ·rcases List.mem_append.mp z with z | z
   ·exact i.wv p (by rw [e]; exact List.mem_append_left _ z)
   ·simp at z; subst z; exact xv
  ·obtain ⟨y,hy,rfl⟩:=List.mem_map.mp z
   exact nv y hy
 ·show a ∈ s.seen++[x] ↔ a ∈ s.ord∨a ∈ opens (w++[(x,true)]++(nx st x).map fun y=>(y,false))
  rw [en,List.mem_append,i.so a,eo,List.mem_append,or_assoc]
 ·show (s.ord++opens (w++[(x,true)]++(nx st x).map fun y=>(y,false))).Nodup
  rw [en,← List.append_assoc,List.nodup_append]
  have:=i.on
  rw [eo] at this
  exact ⟨this,by simp,fun a ha b hb h=>by simp at hb; subst hb; exact xo (h ▸ ha)⟩
 ·show a ∈ s.seen++[x]∨(a,false) ∈ w++[(x,true)]++(nx st x).map fun y=>(y,false)
  rcases i.root a ha with z | z
  ·exact .inl (List.mem_append_left _ z)
  ·rw [e] at z
   rcases List.mem_append.mp z with z | z
   ·exact .inr (List.mem_append_left _ (List.mem_append_left _ z))
   ·simp at z; subst z; exact .inl (by simp)
 ·rcases cut e2 with ⟨rfl,rfl⟩ | ⟨r',e3,rfl⟩
  ·exact .inr (List.mem_map.mpr ⟨y,hy,rfl⟩)
  ·rcases i.nxo l (r'++[(x,false)]) a (by rw [e,e3]; simp) y hy with z | z
   ·exact .inl (List.mem_append_left _ z)
   ·rcases List.mem_append.mp z with z | z
    ·exact .inr (List.mem_append_left _ (List.mem_append_left _ z))
    ·simp at z; subst z; exact .inl (by simp)
 ·rcases cut e2 with ⟨rfl,rfl⟩ | ⟨r',e3,rfl⟩
  ·obtain ⟨y,hy,rfl⟩:=List.mem_map.mp hp
   exact Rch.here.step hy
  ·have ax:Rch st a x:=i.ch l (r'++[(x,false)]) a (by rw [e,e3]; simp) (x,false) (by simp)
   rcases List.mem_append.mp hp with z | z
   ·rcases List.mem_append.mp z with z | z
    ·exact i.ch l (r'++[(x,false)]) a (by rw [e,e3]; simp) p (List.mem_append_left _ z)
    ·simp at z; subst z; exact ax
   ·obtain ⟨y,hy,rfl⟩:=List.mem_map.mp z
    exact ax.step hy
end
section
variable {st:List (List Nat)} {V:List Nat} {s:KS}
theorem ki_step (hv:∀ x ∈ V,∀ y ∈ nx st x,y ∈ V) (i:KI st V s):KI st V (kStep (nx st) s):=by
 unfold kStep
 rcases List.eq_nil_or_concat s.wt with e | ⟨w,⟨x,b⟩,e⟩
 ·rw [e]; exact i
 ·rw [List.concat_eq_append] at e
  rw [e,List.getLast?_append]
  cases b with
  | true =>
   show KI st V ⟨s.seen,s.ord++[x],(w++[(x,true)]).dropLast⟩
   rw [List.dropLast_concat]
   exact ki_end i e
  | false =>
   show KI st V (if x ∈ s.seen then ⟨s.seen,s.ord,(w++[(x,false)]).dropLast⟩ else ⟨s.seen++[x],s.ord,(w++[(x,false)]).dropLast++[(x,true)]++(nx st x).map fun y=>(y,false)⟩)
   rw [List.dropLast_concat]
   split
   ·rename_i h
    exact ki_skip i e h
   ·rename_i h
    exact ki_open i (hv x (i.wv (x,false) (by rw [e]; simp))) e h
def kInit (V:List Nat):KS:=⟨[],[],V.map fun x=>(x,false)⟩
theorem no_true {V:List Nat} {l r:List (Nat × Bool)} {x:Nat} (e:V.map (fun x=>(x,false)) = l++(x,true) :: r):False:=by
 have:(x,true) ∈ V.map fun x=>(x,false):=by rw [e]; simp
 obtain ⟨_,_,h⟩:=List.mem_map.mp this
 injection h with _ h
 cases h
theorem ki_init:KI st V (kInit V) where
 nd:=List.nodup_nil
 sub:=fun x hx=>by cases hx
 wv:=fun p hp=>by
  obtain ⟨x,hx,rfl⟩:=List.mem_map.mp hp
  exact hx
 so:=fun x=>by
  show x ∈ [] ↔ x ∈ []∨x ∈ opens (V.map fun x=>(x,false))
  rw [opens_f]; simp
 on:=by
  show ([]++opens (V.map fun x=>(x,false))).Nodup
  rw [opens_f]; exact List.nodup_nil
 root:=fun x hx=>.inr (List.mem_map.mpr ⟨x,hx,rfl⟩)
 nxo:=fun l r x e=>(no_true e).elim
 nxf:=fun x hx=>by cases hx
 ch:=fun l r x e=>(no_true e).elim
 q:=fun x hx=>by cases hx
 k:=fun l x r e=>by
  have e:([]:List Nat) = l++x :: r:=e
  cases l <;> cases e
def kRun (st:List (List Nat)) (V:List Nat):Nat→KS
 | 0=>kInit V
 | n + 1=>kStep (nx st) (kRun st V n)
theorem ki_run (hv:∀ x ∈ V,∀ y ∈ nx st x,y ∈ V):∀ n,KI st V (kRun st V n)
 | 0=>ki_init
 | n + 1=>ki_step hv (ki_run hv n)
theorem kRun_stop {n:Nat} (h:(kRun st V n).wt = []):∀ m,kRun st V (n + m) = kRun st V n
 | 0=>rfl
 | m + 1=>by
  show kStep (nx st) (kRun st V (n + m)) = _
  rw [kRun_stop h m]
  unfold kStep
  rw [h]
  rfl
def kMu (V:List Nat) (s:KS):Nat:=s.wt.length + 41 * (V.length - s.seen.length)
def kEnd (st:List (List Nat)) (V:List Nat):List Nat:=(kRun st V 3000).ord
theorem kEnd_of {n:Nat} (h:(kRun st V n).wt = []) (hn:n ≤ 3000):kEnd st V = (kRun st V n).ord:=by
 have:=kRun_stop h (3000 - n)
 unfold kEnd
 rw [← this,show n + (3000 - n) = 3000 by omega]
structure KEnd (st:List (List Nat)) (V O:List Nat):Prop where
 nd:O.Nodup
 mem:∀ x,x ∈ O ↔ x ∈ V
 k:∀ l x r,O = l++x :: r→∀ y ∈ l,Rch st y x→∃ z,z ∉ l∧Mut2 st z y
theorem ke_of (i:KI st V s) (h:s.wt = []):KEnd st V s.ord:=by
 have so:∀ x,x ∈ s.seen ↔ x ∈ s.ord:=fun x=>by rw [i.so x,h]; simp [opens]
 refine ⟨(List.nodup_append.mp i.on).1,fun x=>⟨fun q=>i.sub x ((so x).mpr q),fun q=>?_⟩,i.k⟩
 rcases i.root x q with z | z
 ·exact (so x).mp z
 ·rw [h] at z; cases z
end
open Classical in
noncomputable def scc (st:List (List Nat)) (V:List Nat) (x:Nat):List Nat:=V.filter fun a=>decide (Mut2 st x a)
theorem scc_mem {st:List (List Nat)} {V:List Nat} {x a:Nat}:a ∈ scc st V x ↔ a ∈ V∧Mut2 st x a:=by unfold scc; simp
noncomputable def addP (st:List (List Nat)) (V:List Nat) (P:List (List Nat)) (x:Nat):List (List Nat):=if x ∈ P.flatten then P else P++[scc st V x]
noncomputable def partsOf (st:List (List Nat)) (V R:List Nat):List (List Nat):=R.foldl (addP st V) []
theorem parts_snoc {st:List (List Nat)} {V R:List Nat} {x:Nat}:partsOf st V (R++[x]) = addP st V (partsOf st V R) x:=by unfold partsOf; rw [List.foldl_append]; rfl
def Trn (s1 s2:List (List Nat)):Prop:=∀ x y,y ∈ nx s2 x ↔ x ∈ nx s1 y
section
variable {s1 s2:List (List Nat)} {V:List Nat}
theorem Rch.turn (t:Trn s1 s2) {x y:Nat} (h:Rch s2 x y):Rch s1 y x:=by
 induction h with
 | here=>exact .here
 | step _ h2 ih=>exact (Rch.here.step ((t _ _).mp h2)).trans ih
theorem Rch.back (t:Trn s1 s2) {x y:Nat} (h:Rch s1 x y):Rch s2 y x:=by
 induction h with
 | here=>exact .here
 | step _ h2 ih=>exact (Rch.here.step ((t _ _).mpr h2)).trans ih
theorem Rch.inV {st:List (List Nat)} (hv:∀ x ∈ V,∀ y ∈ nx st x,y ∈ V) {x y:Nat} (h:Rch st x y) (hx:x ∈ V):y ∈ V:=by
 induction h with
 | here=>exact hx
 | step _ h2 ih=>exact hv _ ih _ h2
structure MI (s1:List (List Nat)) (V done T:List Nat):Prop where
 cl:∀ a ∈ T,∀ b ∈ nx s1 a,b ∈ T
 dn:∀ a ∈ done,a ∈ T
 tv:∀ a ∈ T,a ∈ V
theorem MI.rch {done T:List Nat} (m:MI s1 V done T) {a b:Nat} (ha:a ∈ T) (h:Rch s1 a b):b ∈ T:=by
 induction h with
 | here=>exact ha
 | step _ h2 ih=>exact m.cl _ ih _ h2
theorem part_is {O l done T S:List Nat} {x:Nat} (hv:∀ x ∈ V,∀ y ∈ nx s1 x,y ∈ V) (t:Trn s1 s2) (ke:KEnd s2 V O) (e:O = l++x :: done) (m:MI s1 V done T) (hx:x ∉ T) (f:FndT s1 T x S) (c:∀ a ∈ S,∀ b ∈ nx s1 a,b ∈ S∨b ∈ T) (a:Nat):a ∈ S ↔ a ∈ scc s1 V x:=by
 have xV:x ∈ V:=(ke.mem x).mp (by rw [e]; simp)
 have hv2:∀ x ∈ V,∀ y ∈ nx s2 x,Rch s2 x y:=fun x _ y hy=>Rch.here.step hy
 have plain:∀ {b},RchT s1 T x b→Rch s1 x b:=fun h=>by
  induction h with
  | here=>exact .here
  | step _ h2 _ ih=>exact ih.step h2
 rw [scc_mem]
 constructor
 ·intro ha
  have r1:=plain (f.rc a ha)
  have aV:=r1.inV hv xV
  refine ⟨aV,?_⟩
  have aT:=f.nt a ha
  have aO:=(ke.mem a).mpr aV
  rw [e] at aO
  rcases List.mem_append.mp aO with q | q
  ·obtain ⟨z,z1,z2⟩:=ke.k l x done e a q (r1.back t)
   have z3:Rch s1 a z:=z2.1.turn t
   have zV:z ∈ V:=z3.inV hv aV
   have zO:=(ke.mem z).mpr zV
   rw [e] at zO
   rcases List.mem_append.mp zO with u | u
   ·exact (z1 u).elim
   ·rcases List.mem_cons.mp u with u | u
    ·subst u
     exact ⟨r1,z3⟩
    ·exact (aT (m.rch (m.dn z u) (z2.2.turn t))).elim
  ·rcases List.mem_cons.mp q with q | q
   ·subst q; exact Mut2.refl
   ·exact (aT (m.dn a q)).elim
 ·rintro ⟨aV,h⟩
  have aT:a ∉ T:=fun q=>hx (m.rch q h.2)
  have av:∀ {b},Rch s1 x b→b ∉ T→RchT s1 T x b:=fun h=>by
   induction h with
   | here=>exact fun _=>.here
   | step h1 h2 ih=>exact fun q=>(ih fun z=>q (m.cl _ z _ h2)).step h2 q
  exact rchT_in f.hx (fun a ha b hb=>c a ha b hb) (av h.1 aT)
theorem mi_put {O l done T S:List Nat} {x:Nat} (hv:∀ x ∈ V,∀ y ∈ nx s1 x,y ∈ V) (t:Trn s1 s2) (ke:KEnd s2 V O) (e:O = l++x :: done) (m:MI s1 V done T) (hx:x ∉ T) (f:FndT s1 T x S) (c:∀ a ∈ S,∀ b ∈ nx s1 a,b ∈ S∨b ∈ T):MI s1 V (x :: done) (T++S):=by
 refine ⟨fun a ha b hb=>?_,fun a ha=>?_,fun a ha=>?_⟩
 ·rcases List.mem_append.mp ha with q | q
  ·exact List.mem_append_left _ (m.cl a q b hb)
  ·rcases c a q b hb with z | z
   ·exact List.mem_append_right _ z
   ·exact List.mem_append_left _ z
 ·rcases List.mem_cons.mp ha with q | q
  ·subst q; exact List.mem_append_right _ f.hx
  ·exact List.mem_append_left _ (m.dn a q)
 ·rcases List.mem_append.mp ha with q | q
  ·exact m.tv a q
  ·exact (scc_mem.mp ((part_is hv t ke e m hx f c a).mp q)).1
theorem mi_skip {done T:List Nat} {x:Nat} (m:MI s1 V done T) (hx:x ∈ T):MI s1 V (x :: done) T :=
 ⟨m.cl,fun a ha=>by rcases List.mem_cons.mp ha with q | q; subst q; exact hx; exact m.dn a q,m.tv⟩
end
section
variable {st:List (List Nat)} {V:List Nat} {s:KS}
theorem kMu_step (hv:∀ x ∈ V,(nx st x).length ≤ 40∧∀ y ∈ nx st x,y ∈ V) (i:KI st V s) (h:s.wt ≠ []):kMu V (kStep (nx st) s) + 1 ≤ kMu V s:=by
 have sl:s.seen.length ≤ V.length:=List.Nodup.length_le_of_subset i.nd fun x hx=>i.sub x hx
 unfold kStep
 rcases List.eq_nil_or_concat s.wt with e | ⟨w,⟨x,b⟩,e⟩
 ·exact (h e).elim
 ·rw [List.concat_eq_append] at e
  have wl:s.wt.length = w.length + 1:=by rw [e]; simp
  rw [e,List.getLast?_append]
  cases b with
  | true =>
   show kMu V ⟨s.seen,s.ord++[x],(w++[(x,true)]).dropLast⟩ + 1 ≤ _
   rw [List.dropLast_concat]
   unfold kMu
   dsimp only
   omega
  | false =>
   show kMu V (if x ∈ s.seen then ⟨s.seen,s.ord,(w++[(x,false)]).dropLast⟩ else ⟨s.seen++[x],s.ord,(w++[(x,false)]).dropLast++[(x,true)]++(nx st x).map fun y=>(y,false)⟩) + 1 ≤ _
   rw [List.dropLast_concat]
   split
   ·unfold kMu
    dsimp only
    omega
   ·rename_i q
    have xV:x ∈ V:=i.wv (x,false) (by rw [e]; simp)
    have sl2:s.seen.length + 1 ≤ V.length:=by
     have:=List.Nodup.length_le_of_subset (l₁:=s.seen++[x]) (l₂:=V) (nodup_put i.nd q) fun y hy=>by
      rcases List.mem_append.mp hy with z | z
      ·exact i.sub y z
      ·simp at z; subst z; exact xV
     simpa using this
    have:=(hv x xV).1
    unfold kMu
    simp only [List.length_append,List.length_map,List.length_cons,List.length_nil]
    omega
theorem kRun_ends (hv:∀ x ∈ V,(nx st x).length ≤ 40∧∀ y ∈ nx st x,y ∈ V):∀ (m n:Nat),kMu V (kRun st V n) ≤ m→∃ k,k ≤ n + m∧(kRun st V k).wt = []
 | 0,n,h=>by
  refine ⟨n,by omega,?_⟩
  unfold kMu at h
  exact List.length_eq_zero_iff.mp (by omega)
 | m + 1,n,h=>by
  by_cases e:(kRun st V n).wt = []
  ·exact ⟨n,by omega,e⟩
  ·have:=kMu_step hv (ki_run (fun x hx=>(hv x hx).2) n) e
   obtain ⟨k,h1,h2⟩:=kRun_ends hv m (n + 1) (by show kMu V (kStep (nx st) (kRun st V n)) ≤ m; omega)
   exact ⟨k,by omega,h2⟩
theorem kEnd_is (hv:∀ x ∈ V,(nx st x).length ≤ 40∧∀ y ∈ nx st x,y ∈ V) (vl:V.length ≤ 40):KEnd st V (kEnd st V):=by
 obtain ⟨k,h1,h2⟩:=kRun_ends hv (kMu V (kInit V)) 0 (Nat.le_refl _)
 have:kMu V (kInit V) ≤ 3000:=by unfold kMu kInit; simp; omega
 rw [kEnd_of h2 (by omega)]
 exact ke_of (ki_run (fun x hx=>(hv x hx).2) k) h2
theorem addP_len (R:List Nat):∀ P:List (List Nat),(R.foldl (addP st V) P).length ≤ P.length + R.length:=by
 induction R with
 | nil=>intro P; exact Nat.le_refl _
 | cons x R ih =>
  intro P
  rw [List.foldl_cons]
  have h1:=ih (addP st V P x)
  have h2:(addP st V P x).length ≤ P.length + 1:=by unfold addP; split <;> simp
  rw [List.length_cons]
  omega
theorem parts_len (R:List Nat):(partsOf st V R).length ≤ R.length:=by
 have:=addP_len (st:=st) (V:=V) R []
 simpa [partsOf] using this
end
def kvF (c:Nat):List Nat→List (Key × D)
 | []=>[]
 | x :: r=>(.inl (x:Int),.ref c) :: kvF (c + 1) r
theorem kvF_len:∀ (l:List Nat) (c:Nat),(kvF c l).length = l.length
 | [],c=>rfl
 | x :: r,c=>by show (kvF (c + 1) r).length + 1 = _; rw [kvF_len r]; rfl
theorem kvF_snoc (x:Nat):∀ (l:List Nat) (c:Nat),kvF c (l++[x]) = kvF c l++[(.inl (x:Int),.ref (c + l.length))]
 | [],c=>rfl
 | y :: r,c=>by
  show (_,_) :: kvF (c + 1) (r++[x]) = (_,_) :: (kvF (c + 1) r++_)
  rw [kvF_snoc x r,show c + 1 + r.length = c + (y :: r).length by simp; omega]
theorem kvF_any (x:Nat):∀ (l:List Nat) (c:Nat),((kvF c l).any fun kv=>decide (kv.1 = .inl (x:Int))) = decide (x ∈ l)
 | [],c=>rfl
 | y :: r,c=>by
  show (decide (Sum.inl (y:Int) = (Sum.inl (x:Int):Key)) || ((kvF (c + 1) r).any fun kv=>decide (kv.1 = .inl (x:Int)))) = _
  rw [kvF_any x r]
  have:decide (Sum.inl (y:Int) = (Sum.inl (x:Int):Key)) = decide (x = y):=by
   rw [Bool.eq_iff_iff,decide_eq_true_eq,decide_eq_true_eq]
   constructor
   ·intro h; injection h with h; omega
   ·intro h; subst h; rfl
  rw [this]
  simp [List.mem_cons,Bool.decide_or]
theorem kvF_put {l:List Nat} {x c:Nat} (h:x ∉ l):ptD (kvF c l) (.inl (x:Int)) (.ref (c + l.length)) = kvF c (l++[x]):=by
 unfold ptD
 rw [kvF_any,decide_eq_false h,kvF_snoc]
 simp
theorem kvF_lk {x:Nat}:∀ {l:List Nat} {c:Nat},x ∈ l→lkD (kvF c l) (.inl (x:Int)) = some (.ref (c + l.idxOf x))
 | [],c,h=>by cases h
 | y :: r,c,h=>by
  unfold lkD kvF
  rw [List.find?_cons]
  by_cases e:y = x
  ·subst e
   rw [decide_eq_true (show ((Sum.inl (y:Int):Key),D.ref c).1 = Sum.inl (y:Int) from rfl)]
   simp
  ·have n:decide (((Sum.inl (y:Int):Key),D.ref c).1 = Sum.inl (x:Int)) = false:=decide_eq_false fun h=>e (by
    have h:(Sum.inl (y:Int):Key) = Sum.inl (x:Int):=h
    injection h with h; omega)
   rw [n]
   have hr:x ∈ r:=by
    cases h with
    | head=>exact (e rfl).elim
    | tail _ h=>exact h
   have:=kvF_lk (c:=c + 1) hr
   unfold lkD at this
   dsimp only
   rw [this,List.idxOf_cons,show (y == x) = false from beq_eq_false_iff_ne.mpr e]
   simp only [cond_false,Option.some.injEq,D.ref.injEq]
   omega
theorem keysF (l:List Nat):∀ c:Nat,keysK (kvF c l) = stD l:=by
 induction l with
 | nil=>intro c; rfl
 | cons x r ih =>
  intro c
  show D.int x :: keysK (kvF (c + 1) r) = _
  rw [ih]
  rfl
theorem dget_h {h:AH} {n x c:Nat} {l:List Nat} (e:h[n]? = some (.dK (kvF c l))∨h[n]? = some (.dF (kvF c l))) (hx:x ∈ l):fDget (.ref n) (.int (x:Nat)) h = .ok (.ref (c + l.idxOf x)) h:=by
 have e1:dicD (.ref n) h = .ok (kvF c l) h:=by
  unfold dicD getK
  dsimp only
  rcases e with e | e <;> rw [e]
 unfold fDget
 rw [M.bind_ok e1]
 have:keyD (.int (x:Nat)) = some (.inl (x:Int)):=rfl
 rw [this]
 dsimp only
 rw [kvF_lk hx]
 rfl
def rowsH (f:Nat→List Nat) (V:List Nat):AH:=V.map fun x=>.lst (stD (f x))
theorem rowsH_at {f:Nat→List Nat} {V:List Nat} {x:Nat} (hx:x ∈ V):(rowsH f V)[V.idxOf x]? = some (.lst (stD (f x))):=by
 have hi:=List.idxOf_lt_length_of_mem hx
 unfold rowsH
 rw [List.getElem?_map,List.getElem?_eq_getElem hi,List.getElem_idxOf hi]
 rfl
section
variable {cap:List (Option Nat)} {mi:G→M Src} {g:D→G→M G} {kb:G→M Bool} {me mv:G→M D} {γ:G}
theorem dcompR_h {γ':G} (f:Nat→List Nat) (src:Src) (h1:AH) (hg:∀ j,src.good (h1++j)):∀ (rest pre:List Nat),(pre++rest).Nodup→(pre++rest).length ≤ 1000 →
 (∀ x ∈ rest,∃ γ1,(∀ h,g (.int x) γ' h = .ok γ1 h)∧(∀ h,kb γ1 h = .ok true h)∧(∀ h,me γ1 h = .ok (.int x) h)∧∀ j,mv γ1 (h1++j) = .ok (.ref (h1++j).length) (h1++j++[.lst (stD (f x))])) →
 compRD src g kb me mv h1.length γ' (stD rest) (h1++(.dK (kvF (h1.length + 1) pre) :: rowsH f pre)) = .ok () (h1++(.dK (kvF (h1.length + 1) (pre++rest)) :: rowsH f (pre++rest)))
 | [],pre,nd,hl,hd=>by
  unfold stD
  rw [List.map_nil]
  unfold compRD
  rw [List.append_nil]
  have c1:src.chk (h1++(.dK (kvF (h1.length + 1) pre) :: rowsH f pre)) = .ok () (h1++(.dK (kvF (h1.length + 1) pre) :: rowsH f pre)):=by unfold Src.chk; rw [if_pos (hg _)]
  rw [M.bind_ok c1]
  rfl
 | x :: rest,pre,nd,hl,hd=>by
  obtain ⟨γ1,e1,e2,e3,e4⟩:=hd x (by simp)
  have xp:x ∉ pre:=fun q=>(List.nodup_append.mp nd).2.2 x q x (by simp) rfl
  have ih:=dcompR_h (γ':=γ') f src h1 hg rest (pre++[x]) (by rw [List.append_assoc]; exact nd) (by rw [List.append_assoc]; exact hl) fun y hy=>hd y (by simp [hy])
  have c1:src.chk (h1++(.dK (kvF (h1.length + 1) pre) :: rowsH f pre)) = .ok () (h1++(.dK (kvF (h1.length + 1) pre) :: rowsH f pre)):=by unfold Src.chk; rw [if_pos (hg _)]
  have len:(h1++(O.dK (kvF (h1.length + 1) pre) :: rowsH f pre)).length = h1.length + 1 + pre.length:=by simp [rowsH]; omega
  have c5:fDput h1.length (.int x) (.ref (h1.length + 1 + pre.length)) (h1++(.dK (kvF (h1.length + 1) pre) :: rowsH f pre)++[.lst (stD (f x))]) = .ok () (h1++(.dK (kvF (h1.length + 1) (pre++[x])) :: rowsH f (pre++[x]))):=by
   unfold fDput fDset
   dsimp only
   have:keyD (.int (x:Nat)) = some (.inl (x:Int)):=rfl
   rw [this]
   dsimp only
   rw [List.append_assoc,List.cons_append,List.getElem?_append_right (Nat.le_refl _),Nat.sub_self,List.getElem?_cons_zero]
   dsimp only
   rw [if_pos (by rw [kvF_len]; exact Nat.lt_of_le_of_lt (Nat.le_trans (Nat.le_add_right _ _) (by rw [← List.length_append]; exact hl)) (by decide)),kvF_put xp,List.set_append_right _ _ (Nat.le_refl _),Nat.sub_self,List.set_cons_zero]
   unfold rowsH
   rw [List.map_append]
   rfl
  show compRD src g kb me mv h1.length γ' (.int x :: stD rest) _ = _
  unfold compRD
  rw [M.bind_ok c1,M.bind_ok (e1 _),M.bind_ok (e2 _),if_pos rfl,M.bind_ok (e3 _),M.bind_ok (e4 _),len,M.bind_ok c5,ih,List.append_assoc]
  rfl
theorem dcomp_h {h h1:AH} {src:Src} {V:List Nat} (f:Nat→List Nat) (hi:mi γ h = .ok src h1) (hs:src.items = stD V) (hg:∀ j,src.good (h1++j)) (nd:V.Nodup) (hl:V.length ≤ 1000)
 (hd:∀ x ∈ V,∃ γ1,(∀ h,g (.int x) (capG cap γ) h = .ok γ1 h)∧(∀ h,kb γ1 h = .ok true h)∧(∀ h,me γ1 h = .ok (.int x) h)∧∀ j,mv γ1 (h1++j) = .ok (.ref (h1++j).length) (h1++j++[.lst (stD (f x))])) :
 eDComp cap mi g kb me mv γ h = .ok (.ref h1.length) (h1++(.dK (kvF (h1.length + 1) V) :: rowsH f V)):=by
 have r:=dcompR_h (γ':=capG cap γ) (kb:=kb) (me:=me) (mv:=mv) (g:=g) f src h1 hg V [] nd hl hd
 unfold eDComp
 rw [M.bind_ok hi]
 show (compRD src g kb me mv h1.length (capG cap γ) src.items >>= fun _=>(pure (D.ref h1.length):M D)) (h1++[O.dK []]) = _
 rw [hs]
 have r':compRD src g kb me mv h1.length (capG cap γ) (stD V) (h1++[.dK []]) = _:=r
 rw [M.bind_ok r']
 rfl
theorem dcompR_t {γ':G} (src:Src) (h1:AH) (hg:∀ j,src.good (h1++j)):∀ (rest pre:List Nat),(pre++rest).Nodup→(pre++rest).length ≤ 1000 →
 (∀ x ∈ rest,∃ γ1,(∀ h,g (.int x) γ' h = .ok γ1 h)∧(∀ h,kb γ1 h = .ok true h)∧(∀ h,me γ1 h = .ok (.int x) h)∧∀ h,mv γ1 h = .ok (.bl true) h) →
 compRD src g kb me mv h1.length γ' (stD rest) (h1++[.dK (kvN pre)]) = .ok () (h1++[.dK (kvN (pre++rest))])
 | [],pre,nd,hl,hd=>by
  unfold stD
  rw [List.map_nil]
  unfold compRD
  rw [List.append_nil]
  have c1:src.chk (h1++[.dK (kvN pre)]) = .ok () (h1++[.dK (kvN pre)]):=by unfold Src.chk; rw [if_pos (hg _)]
  rw [M.bind_ok c1]
  rfl
 | x :: rest,pre,nd,hl,hd=>by
  obtain ⟨γ1,e1,e2,e3,e4⟩:=hd x (by simp)
  have xp:x ∉ pre:=fun q=>(List.nodup_append.mp nd).2.2 x q x (by simp) rfl
  have ih:=dcompR_t (γ':=γ') src h1 hg rest (pre++[x]) (by rw [List.append_assoc]; exact nd) (by rw [List.append_assoc]; exact hl) fun y hy=>hd y (by simp [hy])
  have c1:src.chk (h1++[.dK (kvN pre)]) = .ok () (h1++[.dK (kvN pre)]):=by unfold Src.chk; rw [if_pos (hg _)]
  have c5:fDput h1.length (.int x) (.bl true) (h1++[.dK (kvN pre)]) = .ok () (h1++[.dK (kvN (pre++[x]))]):=by
   unfold fDput
   rw [w_dset (l:=pre) at_nw xp (by rw [List.length_append,List.length_cons] at hl; omega),set_nw]
  show compRD src g kb me mv h1.length γ' (.int x :: stD rest) _ = _
  unfold compRD
  rw [M.bind_ok c1,M.bind_ok (e1 _),M.bind_ok (e2 _),if_pos rfl,M.bind_ok (e3 _),M.bind_ok (e4 _),M.bind_ok c5,ih,List.append_assoc]
  rfl
theorem dcomp_t {h h1:AH} {src:Src} {V:List Nat} (hi:mi γ h = .ok src h1) (hs:src.items = stD V) (hg:∀ j,src.good (h1++j)) (nd:V.Nodup) (hl:V.length ≤ 1000)
 (hd:∀ x ∈ V,∃ γ1,(∀ h,g (.int x) (capG cap γ) h = .ok γ1 h)∧(∀ h,kb γ1 h = .ok true h)∧(∀ h,me γ1 h = .ok (.int x) h)∧∀ h,mv γ1 h = .ok (.bl true) h) :
 eDComp cap mi g kb me mv γ h = .ok (.ref h1.length) (h1++[.dK (kvN V)]):=by
 have r:=dcompR_t (γ':=capG cap γ) (kb:=kb) (me:=me) (mv:=mv) (g:=g) src h1 hg V [] nd hl hd
 unfold eDComp
 rw [M.bind_ok hi]
 show (compRD src g kb me mv h1.length (capG cap γ) src.items >>= fun _=>(pure (D.ref h1.length):M D)) (h1++[O.dK []]) = _
 rw [hs]
 have r':compRD src g kb me mv h1.length (capG cap γ) (stD V) (h1++[.dK []]) = _:=r
 rw [M.bind_ok r']
 rfl
theorem iDic_k {ma:G→M D} {h h1:AH} {n c:Nat} {V:List Nat} (e:ma γ h = .ok (.ref n) h1) (q:h1[n]? = some (.dK (kvF c V))):iDic ma γ h = .ok (.con (stD V)) (h1.set n (.dF (kvF c V))):=by
 unfold iDic
 rw [M.bind_ok e]
 dsimp only
 rw [q]
 dsimp only
 rw [keysF]
theorem iDic_f {ma:G→M D} {h h1:AH} {n c:Nat} {V:List Nat} (e:ma γ h = .ok (.ref n) h1) (q:h1[n]? = some (.dF (kvF c V))):iDic ma γ h = .ok (.con (stD V)) h1:=by
 unfold iDic
 rw [M.bind_ok e]
 dsimp only
 rw [q]
 dsimp only
 rw [keysF]
end
theorem am0 {h:AH} {o:O} {j:AH}:(h++o :: j)[h.length]? = some o:=by rw [List.getElem?_append_right (Nat.le_refl _),Nat.sub_self]; rfl
theorem sm0 {h:AH} {o o':O} {j:AH}:(h++o :: j).set h.length o' = h++o' :: j:=by rw [List.set_append_right _ _ (Nat.le_refl _),Nat.sub_self]; rfl
theorem am1 {h:AH} {o o':O} {j:AH}:(h++o :: o' :: j)[h.length + 1]? = some o':=by rw [List.getElem?_append_right (by omega),show h.length + 1 - h.length = 1 by omega]; rfl
theorem sm1 {h:AH} {o o' o'':O} {j:AH}:(h++o :: o' :: j).set (h.length + 1) o'' = h++o :: o'' :: j:=by rw [List.set_append_right _ _ (by omega),show h.length + 1 - h.length = 1 by omega]; rfl
end FT
set_option maxHeartbeats 4000000
namespace FT
open PySem PySem.Spec PyProof.Rows L2
def top (i:Nat):Stmt:=PySem.Challenge.pw_fairtrees_k27_whole_strong_parts.main.body.getD i (.Pass ⟨0,0,0,0⟩)
noncomputable def b_set_of:G→M Out :=
 (bCons (sRet (clE (eCall fTuple (aCons (eCall fSortedS (aCons (eCall fSetOf (aCons (eVar 0) aNil)) aNil)) aNil)))) bNil)
noncomputable def m_set_of:List D→M D:=fun ds=>cln (runF 1 b_set_of ds)
theorem sc_set_of:FnScope ["standings"] ["standings"] (defScope (top 1)):=⟨rfl,rfl,rfl,by decide +kernel,rfl,by decide +kernel,by decide +kernel⟩
theorem ok_set_of {P:Program} {w:World} {K:PySem.W.Frag} {mg:Str→Option Value} {base:Heap} (T:DefAt K "set_of" (top 1)) (mx:∀ v,PySem.W.nsIn K mainGlobals "set_of" = some (some v)→mg "set_of" = some v) (z_set:mg "set" = none) (z_sorted:mg "sorted" = none) (z_tuple:mg "tuple" = none):Fn P w K mg base 1 "set_of" 1 m_set_of:=by
 obtain ⟨f,fd,hf,F⟩:=T
 have hb:Binds K fd ["standings"] []:=F.binds fun _ _ _ _ _ _ us hl=>match us,hl with | [_],_=>rfl
 exact Fn.cln <| fn_mkC F sc_set_of hb (mx _ hf) rfl fun cdv A outer s H E hcd hr=>(show SB (cxOf CX0 P w K mg base ["standings"] "set_of" (defScope (top 1)) f cdv A outer s H E).nox EX0 (defBody (top 1)) b_set_of from
  have nd:(["standings"]:List Str).Nodup:=sc_set_of.nd
  (sb_cons (s_ret (se_cln (se_tuple rfl z_tuple (sa_cons (se_sortedS rfl rfl z_sorted (sa_cons (se_setof rfl rfl z_set (sa_cons (se_var 0) sa_nil)) sa_nil)) sa_nil)))) sb_nil))
noncomputable def b_ending_order:G→M Out :=
 (bCons (sAsg (fun _=>newSet []) (gN 1)) (bCons (sAsg (eLst aNil) (gN 2)) (bCons (sComp' 3 [none] (iDic (eVar 0)) (gN 0) (fun _=>pure true) (eTup (aCons (eVar 0) (aCons (fun _=>pure (.bl false)) aNil)))) (bCons (whileR (cVal (eVar 3)) (bCons (sAsg (eM0 fPop (eVar 3)) (gT 2 (gConss (gN 4) (gConss (gN 5) gNils)))) (bCons (sIf (cVal (eVar 5)) (bCons (sExpr (eM1 fAppend (eVar 2) (eVar 4))) bNil) (bCons (sIf (fun γ=>do let d ← e2 (fInS true) (eVar 4) (eVar 1) γ; asB d) (bCons (sExpr (eMS fAddS (eVar 1) (eVar 4))) (bCons (sExpr (eM1 fAppend (eVar 3) (eTup (aCons (eVar 4) (aCons (fun _=>pure (.bl true)) aNil))))) (bCons (sExpr (eM1 fExtend (eVar 3) (eComp [none] (iSeqL (e2 fDget (eVar 0) (eVar 4))) (gN 0) (fun _=>pure true) (eTup (aCons (eVar 0) (aCons (fun _=>pure (.bl false)) aNil)))))) bNil))) bNil) bNil)) bNil)) 1000000) (bCons (sRet (eVar 2)) bNil)))))
noncomputable def m_ending_order:List D→M D:=fun ds=>cln (runF 6 b_ending_order ds)
theorem sc_ending_order:FnScope ["leads","seen","order","waiting","one","done"] ["leads"] (defScope (top 5)):=⟨rfl,rfl,rfl,by decide +kernel,rfl,by decide +kernel,by decide +kernel⟩
theorem ok_ending_order {P:Program} {w:World} {K:PySem.W.Frag} {mg:Str→Option Value} {base:Heap} (T:DefAt K "ending_order" (top 5)) (mx:∀ v,PySem.W.nsIn K mainGlobals "ending_order" = some (some v)→mg "ending_order" = some v) (z_set:mg "set" = none):Fn P w K mg base 1 "ending_order" 1 m_ending_order:=by
 obtain ⟨f,fd,hf,F⟩:=T
 have hb:Binds K fd ["leads"] []:=F.binds fun _ _ _ _ _ _ us hl=>match us,hl with | [_],_=>rfl
 exact Fn.cln <| fn_mkC F sc_ending_order hb (mx _ hf) rfl fun cdv A outer s H E hcd hr=>(show SB (cxOf CX0 P w K mg base ["leads","seen","order","waiting","one","done"] "ending_order" (defScope (top 5)) f cdv A outer s H E).nox EX0 (defBody (top 5)) b_ending_order from
  have nd:(["leads","seen","order","waiting","one","done"]:List Str).Nodup:=sc_ending_order.nd
  (sb_cons (s_set 1 nd (se_set0 rfl z_set)) (sb_cons (s_set 2 nd (se_lst sa_nil)) (sb_cons (s_comp 3 (N':=["one"]) (cap:=[none]) rfl (cs_mk (by first | rfl | kernel_rfl!)) (si_dic (se_var 0)) (fun _ _ _ _=>(sgk_name 0 (show (["one"]:List Str).Nodup by decide +kernel))) (fun _ _ _ _=>scs_nil) (fun _ _ _ _=>(se_tup (sa_cons (se_var 0) (sa_cons se_bl sa_nil)))) nd) (sb_cons (s_while 1000000 PassesOwn.never (sc_val (se_var 3)) (sb_cons (s_asg (se_pop (se_var 3)) (sg_tup rfl (sgs_cons (sg_name 4 nd) (sgs_cons (sg_name 5 nd) sgs_nil)))) (sb_cons (s_if (sc_val (se_var 5)) (sb_cons (s_expr (se_append (se_var 2) (se_var 4))) sb_nil) (sb_cons (s_if (sc_c co_ninS (se_var 4) (se_var 1)) (sb_cons (s_expr (se_addS (se_var 1) (se_var 4))) (sb_cons (s_expr (se_append (se_var 3) (se_tup (sa_cons (se_var 4) (sa_cons se_bl sa_nil))))) (sb_cons (s_expr (se_extend (se_var 3) (se_comp (N':=["other"]) (cap:=[none]) rfl (cs_mk (by first | rfl | kernel_rfl!)) (si_list (se_dget (hu_of hr) (se_var 0) (se_var 4))) (fun _ _ _ _=>(sgk_name 0 (show (["other"]:List Str).Nodup by decide +kernel))) (fun _ _ _ _=>scs_nil) (fun _ _ _ _=>(se_tup (sa_cons (se_var 0) (sa_cons se_bl sa_nil))))))) sb_nil))) sb_nil) sb_nil)) sb_nil))) (sb_cons (s_ret (se_var 2)) sb_nil))))))
noncomputable def b_turned:G→M Out :=
 (bCons (sDComp' 1 [none] (iDic (eVar 0)) (gN 0) (fun _=>pure true) (eVar 0) (eLst aNil)) (bCons (sFor (iDic (eVar 0)) (gN 2) (bCons (sFor (iSeqL (e2 fDget (eVar 0) (eVar 2))) (gN 3) (bCons (sExpr (eM1 fAppend (e2 fDget (eVar 1) (eVar 3)) (eVar 2))) bNil)) bNil)) (bCons (sRet (eVar 1)) bNil)))
noncomputable def m_turned:List D→M D:=fun ds=>cln (runF 4 b_turned ds)
theorem sc_turned:FnScope ["leads","told","one","other"] ["leads"] (defScope (top 4)):=⟨rfl,rfl,rfl,by decide +kernel,rfl,by decide +kernel,by decide +kernel⟩
theorem ok_turned {P:Program} {w:World} {K:PySem.W.Frag} {mg:Str→Option Value} {base:Heap} (T:DefAt K "turned" (top 4)) (mx:∀ v,PySem.W.nsIn K mainGlobals "turned" = some (some v)→mg "turned" = some v):Fn P w K mg base 1 "turned" 1 m_turned:=by
 obtain ⟨f,fd,hf,F⟩:=T
 have hb:Binds K fd ["leads"] []:=F.binds fun _ _ _ _ _ _ us hl=>match us,hl with | [_],_=>rfl
 exact Fn.cln <| fn_mkC F sc_turned hb (mx _ hf) rfl fun cdv A outer s H E hcd hr=>(show SB (cxOf CX0 P w K mg base ["leads","told","one","other"] "turned" (defScope (top 4)) f cdv A outer s H E).nox EX0 (defBody (top 4)) b_turned from
  have nd:(["leads","told","one","other"]:List Str).Nodup:=sc_turned.nd
  (sb_cons (s_dcomp 1 (N':=["one"]) (cap:=[none]) rfl (cs_mk (by first | rfl | kernel_rfl!)) (si_dic (se_var 0)) (fun _ _ _ _=>(sgk_name 0 (show (["one"]:List Str).Nodup by decide +kernel))) (fun _ _ _ _=>scs_nil) (fun _ _ _ _=>(se_var 0)) (fun _ _ _ _=>(se_lst sa_nil)) nd) (sb_cons (s_for PassesOwn.never rfl (si_dic (se_var 0)) (sg_name 2 nd) (sb_cons (s_for PassesOwn.never rfl (si_list (se_dget (hu_of hr) (se_var 0) (se_var 2))) (sg_name 3 nd) (sb_cons (s_expr (se_append (se_dget (hu_of hr) (se_var 1) (se_var 3)) (se_var 2))) sb_nil)) sb_nil)) (sb_cons (s_ret (se_var 1)) sb_nil))))
noncomputable def b_take_from:G→M Out :=
 (bCons (sAsg (fun _=>pure (.bl true)) (gDx (eVar 2) (eVar 1))) (bCons (sAsg (eLst aNil) (gN 3)) (bCons (sAsg (eLst (aCons (eVar 1) aNil)) (gN 4)) (bCons (whileR (cVal (eVar 4)) (bCons (sAsg (eM0 fPop (eVar 4)) (gN 5)) (bCons (sExpr (eM1 fAppend (eVar 3) (eVar 5))) (bCons (sFor (iSeqL (e2 fDget (eVar 0) (eVar 5))) (gN 6) (bCons (sIf (fun γ=>do let d ← e2 (fInD true) (eVar 6) (eVar 2) γ; asB d) (bCons (sAsg (fun _=>pure (.bl true)) (gDx (eVar 2) (eVar 6))) (bCons (sExpr (eM1 fAppend (eVar 4) (eVar 6))) bNil)) bNil) bNil)) bNil))) 1000000) (bCons (sRet (eFn 1 m_set_of (aCons (eVar 3) aNil))) bNil)))))
noncomputable def m_take_from:List D→M D:=fun ds=>cln (runF 7 b_take_from ds)
theorem sc_take_from:FnScope ["leads","start","taken","part","waiting","one","other"] ["leads","start","taken"] (defScope (top 6)):=⟨rfl,rfl,rfl,by decide +kernel,rfl,by decide +kernel,by decide +kernel⟩
theorem ok_take_from {P:Program} {w:World} {K:PySem.W.Frag} {mg:Str→Option Value} {base:Heap} (T:DefAt K "take_from" (top 6)) (mx:∀ v,PySem.W.nsIn K mainGlobals "take_from" = some (some v)→mg "take_from" = some v) (F_set_of:Fn P w K mg base 1 "set_of" 1 m_set_of):Fn P w K mg base 2 "take_from" 3 m_take_from:=by
 obtain ⟨f,fd,hf,F⟩:=T
 have hb:Binds K fd ["leads","start","taken"] []:=F.binds fun _ _ _ _ _ _ us hl=>match us,hl with | [_,_,_],_=>rfl
 exact Fn.cln <| fn_mkC F sc_take_from hb (mx _ hf) rfl fun cdv A outer s H E hcd hr=>(show SB (cxOf CX0 P w K mg base ["leads","start","taken","part","waiting","one","other"] "take_from" (defScope (top 6)) f cdv A outer s H E).nox EX0 (defBody (top 6)) b_take_from from
  have nd:(["leads","start","taken","part","waiting","one","other"]:List Str).Nodup:=sc_take_from.nd
  (sb_cons (s_asg se_bl (sg_dx (hu_of hr) (se_var 2) (se_var 1))) (sb_cons (s_set 3 nd (se_lst sa_nil)) (sb_cons (s_set 4 nd (se_lst (sa_cons (se_var 1) sa_nil))) (sb_cons (s_while 1000000 PassesOwn.never (sc_val (se_var 4)) (sb_cons (s_set 5 nd (se_pop (se_var 4))) (sb_cons (s_expr (se_append (se_var 3) (se_var 5))) (sb_cons (s_for PassesOwn.never rfl (si_list (se_dget (hu_of hr) (se_var 0) (se_var 5))) (sg_name 6 nd) (sb_cons (s_if (sc_c (co_ninD (hu_of hr)) (se_var 6) (se_var 2)) (sb_cons (s_asg se_bl (sg_dx (hu_of hr) (se_var 2) (se_var 6))) (sb_cons (s_expr (se_append (se_var 4) (se_var 6))) sb_nil)) sb_nil) sb_nil)) sb_nil)))) (sb_cons (s_ret (se_call F_set_of (hr.mono (by decide)) rfl (sa_cons (se_var 3) sa_nil))) sb_nil))))))
noncomputable def b_knots:G→M Out :=
 (bCons (sAsg (fun _=>newK []) (gN 1)) (bCons (sAsg (eLst aNil) (gN 2)) (bCons (sFor (iRevL (eFn 1 m_ending_order (aCons (eFn 1 m_turned (aCons (eVar 0) aNil)) aNil))) (gN 3) (bCons (sIf (fun γ=>do let d ← e2 (fInD true) (eVar 3) (eVar 1) γ; asB d) (bCons (sExpr (eM1 fAppend (eVar 2) (eFn 3 m_take_from (aCons (eVar 0) (aCons (eVar 3) (aCons (eVar 1) aNil)))))) bNil) bNil) bNil)) (bCons (sRet (eVar 2)) bNil))))
noncomputable def m_knots:List D→M D:=fun ds=>cln (runF 4 b_knots ds)
theorem sc_knots:FnScope ["leads","taken","told","one"] ["leads"] (defScope (top 3)):=⟨rfl,rfl,rfl,by decide +kernel,rfl,by decide +kernel,by decide +kernel⟩
theorem ok_knots {P:Program} {w:World} {K:PySem.W.Frag} {mg:Str→Option Value} {base:Heap} (T:DefAt K "knots" (top 3)) (mx:∀ v,PySem.W.nsIn K mainGlobals "knots" = some (some v)→mg "knots" = some v) (z_reversed:mg "reversed" = none) (F_ending_order:Fn P w K mg base 1 "ending_order" 1 m_ending_order) (F_take_from:Fn P w K mg base 2 "take_from" 3 m_take_from) (F_turned:Fn P w K mg base 1 "turned" 1 m_turned):Fn P w K mg base 3 "knots" 1 m_knots:=by
 obtain ⟨f,fd,hf,F⟩:=T
 have hb:Binds K fd ["leads"] []:=F.binds fun _ _ _ _ _ _ us hl=>match us,hl with | [_],_=>rfl
 exact Fn.cln <| fn_mkC F sc_knots hb (mx _ hf) rfl fun cdv A outer s H E hcd hr=>(show SB (cxOf CX0 P w K mg base ["leads","taken","told","one"] "knots" (defScope (top 3)) f cdv A outer s H E).nox EX0 (defBody (top 3)) b_knots from
  have nd:(["leads","taken","told","one"]:List Str).Nodup:=sc_knots.nd
  (sb_cons (s_set 1 nd se_dk0) (sb_cons (s_set 2 nd (se_lst sa_nil)) (sb_cons (s_for PassesOwn.never rfl (si_revL rfl z_reversed (se_call F_ending_order (hr.mono (by decide)) rfl (sa_cons (se_call F_turned (hr.mono (by decide)) rfl (sa_cons (se_var 0) sa_nil)) sa_nil))) (sg_name 3 nd) (sb_cons (s_if (sc_c (co_ninD (hu_of hr)) (se_var 3) (se_var 1)) (sb_cons (s_expr (se_append (se_var 2) (se_call F_take_from (hr.mono (by decide)) rfl (sa_cons (se_var 0) (sa_cons (se_var 3) (sa_cons (se_var 1) sa_nil)))))) sb_nil) sb_nil) sb_nil)) (sb_cons (s_ret (se_var 2)) sb_nil)))))
noncomputable def b_steps_inside:G→M Out :=
 (bCons (sAsg (eDComp [none] (iSeqT (eVar 1)) (gN 0) (fun _=>pure true) (eVar 0) (fun _=>pure (.bl true))) (gN 2)) (bCons (sRet (eDComp [some 0,some 2,none] (iSeqT (eVar 1)) (gN 2) (fun _=>pure true) (eVar 2) (eComp [some 1,none] (iSeqT (e2 fIx (e2 fIx (eVar 0) (fun _=>pure (.int 0))) (eVar 2))) (gN 1) (fun γ=>do let d ← e2 (fInD false) (eVar 1) (eVar 0) γ; asB d) (eVar 1)))) bNil))
noncomputable def m_steps_inside:List D→M D:=fun ds=>cln (runF 3 b_steps_inside ds)
theorem sc_steps_inside:FnScope ["machine","within","inside"] ["machine","within"] (defScope (top 9)):=⟨rfl,rfl,rfl,by decide +kernel,rfl,by decide +kernel,by decide +kernel⟩
theorem ok_steps_inside {P:Program} {w:World} {K:PySem.W.Frag} {mg:Str→Option Value} {base:Heap} (T:DefAt K "steps_inside" (top 9)) (mx:∀ v,PySem.W.nsIn K mainGlobals "steps_inside" = some (some v)→mg "steps_inside" = some v):Fn P w K mg base 1 "steps_inside" 2 m_steps_inside:=by
 obtain ⟨f,fd,hf,F⟩:=T
 have hb:Binds K fd ["machine","within"] []:=F.binds fun _ _ _ _ _ _ us hl=>match us,hl with | [_,_],_=>rfl
 exact Fn.cln <| fn_mkC F sc_steps_inside hb (mx _ hf) rfl fun cdv A outer s H E hcd hr=>(show SB (cxOf CX0 P w K mg base ["machine","within","inside"] "steps_inside" (defScope (top 9)) f cdv A outer s H E).nox EX0 (defBody (top 9)) b_steps_inside from
  have nd:(["machine","within","inside"]:List Str).Nodup:=sc_steps_inside.nd
  (sb_cons (s_set 2 nd (se_dcomp (N':=["standing"]) (cap:=[none]) rfl (cs_mk (by first | rfl | kernel_rfl!)) (si_tup (se_var 1)) (fun _ _ _ _=>(sgk_name 0 (show (["standing"]:List Str).Nodup by decide +kernel))) (fun _ _ _ _=>scs_nil) (fun _ _ _ _=>(se_var 0)) (fun _ _ _ _=>se_bl))) (sb_cons (s_ret (se_dcomp (N':=["machine","inside","standing"]) (cap:=[some 0,some 2,none]) rfl (cs_mk (by first | rfl | kernel_rfl!)) (si_tup (se_var 1)) (fun _ _ _ _=>(sgk_name 2 (show (["machine","inside","standing"]:List Str).Nodup by decide +kernel))) (fun _ _ _ _=>scs_nil) (fun _ _ _ _=>(se_var 2)) (fun _ _ _ _=>(se_comp (N':=["inside","other"]) (cap:=[some 1,none]) rfl (cs_mk (by first | rfl | kernel_rfl!)) (si_tup (se_ix (se_ix (se_var 0) se_int) (se_var 2))) (fun _ _ _ _=>(sgk_name 1 (show (["inside","other"]:List Str).Nodup by decide +kernel))) (fun _ _ _ _=>(scs_one (sc_c (co_inD (hu_of hr)) (se_var 1) (se_var 0)))) (fun _ _ _ _=>(se_var 1)))))) sb_nil)))
noncomputable def b_strong_parts:G→M Out :=
 (bCons (sRet (eFn 1 m_knots (aCons (eFn 2 m_steps_inside (aCons (eVar 0) (aCons (eVar 1) aNil))) aNil))) bNil)
noncomputable def m_strong_parts:List D→M D:=fun ds=>cln (runF 2 b_strong_parts ds)
theorem sc_strong_parts:FnScope ["machine","within"] ["machine","within"] (defScope (top 8)):=⟨rfl,rfl,rfl,by decide +kernel,rfl,by decide +kernel,by decide +kernel⟩
theorem ok_strong_parts {P:Program} {w:World} {K:PySem.W.Frag} {mg:Str→Option Value} {base:Heap} (T:DefAt K "strong_parts" (top 8)) (mx:∀ v,PySem.W.nsIn K mainGlobals "strong_parts" = some (some v)→mg "strong_parts" = some v) (F_knots:Fn P w K mg base 3 "knots" 1 m_knots) (F_steps_inside:Fn P w K mg base 1 "steps_inside" 2 m_steps_inside):Fn P w K mg base 4 "strong_parts" 2 m_strong_parts:=by
 obtain ⟨f,fd,hf,F⟩:=T
 have hb:Binds K fd ["machine","within"] []:=F.binds fun _ _ _ _ _ _ us hl=>match us,hl with | [_,_],_=>rfl
 exact Fn.cln <| fn_mkC F sc_strong_parts hb (mx _ hf) rfl fun cdv A outer s H E hcd hr=>(show SB (cxOf CX0 P w K mg base ["machine","within"] "strong_parts" (defScope (top 8)) f cdv A outer s H E).nox EX0 (defBody (top 8)) b_strong_parts from
  have nd:(["machine","within"]:List Str).Nodup:=sc_strong_parts.nd
  (sb_cons (s_ret (se_call F_knots (hr.mono (by decide)) rfl (sa_cons (se_call F_steps_inside (hr.mono (by decide)) rfl (sa_cons (se_var 0) (sa_cons (se_var 1) sa_nil))) sa_nil))) sb_nil))
noncomputable def b__law_pool:G→M Out :=
 (bCons (sComp' 1 [none] (iSeqL (eVar 0)) (gN 0) (fun γ=>do let d ← e2 fGe (eVar 0) (e2 fPow (fun _=>pure (.int 10)) (fun _=>pure (.int 18))) γ; asB d) (eVar 0)) (bCons (sRet (eLst (aCons (eVar 1) (aCons (eComp [none] (iSeqL (eVar 0)) (gN 0) (fun γ=>do let d ← e2 fLt (eVar 0) (e2 fPow (fun _=>pure (.int 10)) (fun _=>pure (.int 18))) γ; asB d) (eVar 0)) (aCons (fun _=>pure (.int 5)) (aCons (fun _=>pure (.int 0)) aNil)))))) bNil))
noncomputable def m__law_pool:List D→M D:=runF 2 b__law_pool
theorem sc__law_pool:FnScope ["_law_script","_law_great"] ["_law_script"] (defScope (top 11)):=⟨rfl,rfl,rfl,by decide +kernel,rfl,by decide +kernel,by decide +kernel⟩
theorem ok__law_pool {P:Program} {w:World} {K:PySem.W.Frag} {mg:Str→Option Value} {base:Heap} (T:DefAt K "_law_pool" (top 11)) (mx:∀ v,PySem.W.nsIn K mainGlobals "_law_pool" = some (some v)→mg "_law_pool" = some v):Fn P w K mg base 1 "_law_pool" 1 m__law_pool:=by
 obtain ⟨f,fd,hf,F⟩:=T
 have hb:Binds K fd ["_law_script"] []:=F.binds fun _ _ _ _ _ _ us hl=>match us,hl with | [_],_=>rfl
 exact  fn_mkC F sc__law_pool hb (mx _ hf) rfl fun cdv A outer s H E hcd hr=>(show SB (cxOf CX0 P w K mg base ["_law_script","_law_great"] "_law_pool" (defScope (top 11)) f cdv A outer s H E).nox EX0 (defBody (top 11)) b__law_pool from
  have nd:(["_law_script","_law_great"]:List Str).Nodup:=sc__law_pool.nd
  (sb_cons (s_comp 1 (N':=["_law_cell"]) (cap:=[none]) rfl (cs_mk (by first | rfl | kernel_rfl!)) (si_list (se_var 0)) (fun _ _ _ _=>(sgk_name 0 (show (["_law_cell"]:List Str).Nodup by decide +kernel))) (fun _ _ _ _=>(scs_one (sc_c co_ge (se_var 0) (se_pow se_int se_int)))) (fun _ _ _ _=>(se_var 0)) nd) (sb_cons (s_ret (se_lst (sa_cons (se_var 1) (sa_cons (se_comp (N':=["_law_cell"]) (cap:=[none]) rfl (cs_mk (by first | rfl | kernel_rfl!)) (si_list (se_var 0)) (fun _ _ _ _=>(sgk_name 0 (show (["_law_cell"]:List Str).Nodup by decide +kernel))) (fun _ _ _ _=>(scs_one (sc_c co_lt (se_var 0) (se_pow se_int se_int)))) (fun _ _ _ _=>(se_var 0))) (sa_cons se_int (sa_cons se_int sa_nil)))))) sb_nil)))
noncomputable def b__law_draw:G→M Out :=
 (bCons (sIf (fun γ=>do let d ← e2 fGt (eCall fLen (aCons (e2 fIx (eVar 0) (fun _=>pure (.int 0))) aNil)) (fun _=>pure (.int 0)) γ; asB d) (bCons (sAsg (e2 fIx (e2 fIx (eVar 0) (fun _=>pure (.int 0))) (fun _=>pure (.int 0))) (gN 2)) (bCons (sAsg (e2 fDiv (eVar 2) (eVar 1)) (gIx (e2 fIx (eVar 0) (fun _=>pure (.int 0))) (fun _=>pure (.int 0)))) (bCons (sIf (fun γ=>do let d ← e2 (fEq false) (e2 fDiv (eVar 2) (eVar 1)) (fun _=>pure (.int 0)) γ; asB d) (bCons (sExpr (eM1 fPopAt (e2 fIx (eVar 0) (fun _=>pure (.int 0))) (fun _=>pure (.int 0)))) bNil) bNil) (bCons (sRet (e2 fMod (eVar 2) (eVar 1))) bNil)))) bNil) (bCons (sAsg (e2 fAdd (e2 fIx (eVar 0) (fun _=>pure (.int 3))) (fun _=>pure (.int 1))) (gIx (eVar 0) (fun _=>pure (.int 3)))) (bCons (sAsg (fun _=>pure (.int 0)) (gN 2)) (bCons (sIf (fun γ=>do let d ← e2 fGt (eCall fLen (aCons (e2 fIx (eVar 0) (fun _=>pure (.int 1))) aNil)) (fun _=>pure (.int 0)) γ; asB d) (bCons (sAsg (e2 fIx (e2 fIx (eVar 0) (fun _=>pure (.int 1))) (e2 fMod (e2 fIx (eVar 0) (fun _=>pure (.int 3))) (eCall fLen (aCons (e2 fIx (eVar 0) (fun _=>pure (.int 1))) aNil)))) (gN 2)) bNil) bNil) (bCons (sAsg (e2 fMul2 (e2 fMod (eVar 2) (fun _=>pure (.int 2147483629))) (e2 fAdd (e2 fMul2 (e2 fIx (eVar 0) (fun _=>pure (.int 3))) (e2 fIx (eVar 0) (fun _=>pure (.int 3)))) (fun _=>pure (.int 1)))) (gN 2)) (bCons (sAsg (e2 fMod (e2 fAdd (e2 fAdd (e2 fMul2 (e2 fIx (eVar 0) (fun _=>pure (.int 2))) (fun _=>pure (.int 48271))) (eVar 2)) (e2 fMul2 (fun _=>pure (.int 97)) (e2 fIx (eVar 0) (fun _=>pure (.int 3))))) (fun _=>pure (.int 2147483647))) (gIx (eVar 0) (fun _=>pure (.int 2)))) (bCons (sRet (e2 fMod (e2 fDiv (e2 fMod (e2 fPow (e2 fIx (eVar 0) (fun _=>pure (.int 2))) (fun _=>pure (.int 5))) (fun _=>pure (.int 2147483629))) (fun _=>pure (.int 64))) (eVar 1))) bNil)))))))
noncomputable def m__law_draw:List D→M D:=runF 3 b__law_draw
theorem sc__law_draw:FnScope ["_law_pool_here","_law_many","_law_cell"] ["_law_pool_here","_law_many"] (defScope (top 12)):=⟨rfl,rfl,rfl,by decide +kernel,rfl,by decide +kernel,by decide +kernel⟩
theorem ok__law_draw {P:Program} {w:World} {K:PySem.W.Frag} {mg:Str→Option Value} {base:Heap} (T:DefAt K "_law_draw" (top 12)) (mx:∀ v,PySem.W.nsIn K mainGlobals "_law_draw" = some (some v)→mg "_law_draw" = some v) (z_len:mg "len" = none):Fn P w K mg base 1 "_law_draw" 2 m__law_draw:=by
 obtain ⟨f,fd,hf,F⟩:=T
 have hb:Binds K fd ["_law_pool_here","_law_many"] []:=F.binds fun _ _ _ _ _ _ us hl=>match us,hl with | [_,_],_=>rfl
 exact  fn_mkC F sc__law_draw hb (mx _ hf) rfl fun cdv A outer s H E hcd hr=>(show SB (cxOf CX0 P w K mg base ["_law_pool_here","_law_many","_law_cell"] "_law_draw" (defScope (top 12)) f cdv A outer s H E).nox EX0 (defBody (top 12)) b__law_draw from
  have nd:(["_law_pool_here","_law_many","_law_cell"]:List Str).Nodup:=sc__law_draw.nd
  (sb_cons (s_if (sc_c co_gt (se_len rfl z_len (sa_cons (se_ix (se_var 0) se_int) sa_nil)) se_int) (sb_cons (s_set 2 nd (se_ix (se_ix (se_var 0) se_int) se_int)) (sb_cons (s_asg (se_div (se_var 2) (se_var 1)) (sg_ix (se_ix (se_var 0) se_int) se_int)) (sb_cons (s_if (sc_c co_eq (se_div (se_var 2) (se_var 1)) se_int) (sb_cons (s_expr (se_popAt (se_ix (se_var 0) se_int) se_int)) sb_nil) sb_nil) (sb_cons (s_ret (se_mod (se_var 2) (se_var 1))) sb_nil)))) sb_nil) (sb_cons (s_asg (se_add (se_ix (se_var 0) se_int) se_int) (sg_ix (se_var 0) se_int)) (sb_cons (s_set 2 nd se_int) (sb_cons (s_if (sc_c co_gt (se_len rfl z_len (sa_cons (se_ix (se_var 0) se_int) sa_nil)) se_int) (sb_cons (s_set 2 nd (se_ix (se_ix (se_var 0) se_int) (se_mod (se_ix (se_var 0) se_int) (se_len rfl z_len (sa_cons (se_ix (se_var 0) se_int) sa_nil))))) sb_nil) sb_nil) (sb_cons (s_set 2 nd (se_mul2 (se_mod (se_var 2) se_int) (se_add (se_mul2 (se_ix (se_var 0) se_int) (se_ix (se_var 0) se_int)) se_int))) (sb_cons (s_asg (se_mod (se_add (se_add (se_mul2 (se_ix (se_var 0) se_int) se_int) (se_var 2)) (se_mul2 se_int (se_ix (se_var 0) se_int))) se_int) (sg_ix (se_var 0) se_int)) (sb_cons (s_ret (se_mod (se_div (se_mod (se_pow (se_ix (se_var 0) se_int) se_int) se_int) se_int) (se_var 1))) sb_nil))))))))
noncomputable def b__law_name:G→M Out :=
 (bCons (sAsg (fun _=>pure (.str "abcdefghijklmnopqrstuvwxyz")) (gN 3)) (bCons (sAsg (eVar 1) (gN 4)) (bCons (sFor (iRange (eFn 2 m__law_draw (aCons (eVar 0) (aCons (fun _=>pure (.int 4)) aNil)))) (gN 5) (bCons (sAsg (e2 fAdd (eVar 4) (e2 fIx (eVar 3) (eFn 2 m__law_draw (aCons (eVar 0) (aCons (fun _=>pure (.int 26)) aNil))))) (gN 4)) bNil)) (bCons (sAsg (eFn 2 m__law_draw (aCons (eVar 0) (aCons (fun _=>pure (.int 26)) aNil))) (gN 6)) (bCons (sAsg (eLst (aCons (fun _=>pure (.str "yes")) (aCons (fun _=>pure (.str "no")) (aCons (fun _=>pure (.str "not")) (aCons (fun _=>pure (.str "and")) (aCons (fun _=>pure (.str "or")) (aCons (fun _=>pure (.str "step")) (aCons (fun _=>pure (.str "some")) (aCons (fun _=>pure (.str "all")) (aCons (fun _=>pure (.str "next")) (aCons (fun _=>pure (.str "once")) (aCons (fun _=>pure (.str "ever")) (aCons (fun _=>pure (.str "until")) (aCons (fun _=>pure (.str "unless")) aNil)))))))))))))) (gN 7)) (bCons (sFor (iRange (fun _=>pure (.int 26))) (gN 5) (bCons (sAsg (e2 fAdd (eVar 4) (e2 fIx (eVar 3) (e2 fMod (e2 fAdd (eVar 6) (eVar 5)) (fun _=>pure (.int 26))))) (gN 8)) (bCons (sIf (cAnd (fun γ=>do let d ← e2 (fIn true) (eVar 8) (eVar 7) γ; asB d) (fun γ=>do let d ← e2 (fIn true) (eVar 8) (eVar 2) γ; asB d)) (bCons (sRet (eVar 8)) bNil) bNil) bNil))) (bCons (sRet (e2 fAdd (eVar 4) (fun _=>pure (.str "x")))) bNil)))))))
noncomputable def m__law_name:List D→M D:=fun ds=>cln (runF 9 b__law_name ds)
theorem sc__law_name:FnScope ["_law_pool_here","_law_start","_law_taken","_law_letters","_law_name_here","_law_k","_law_last","_law_words","_law_found"] ["_law_pool_here","_law_start","_law_taken"] (defScope (top 13)):=⟨rfl,rfl,rfl,by decide +kernel,rfl,by decide +kernel,by decide +kernel⟩
theorem ok__law_name {P:Program} {w:World} {K:PySem.W.Frag} {mg:Str→Option Value} {base:Heap} (T:DefAt K "_law_name" (top 13)) (mx:∀ v,PySem.W.nsIn K mainGlobals "_law_name" = some (some v)→mg "_law_name" = some v) (z_range:mg "range" = none) (F__law_draw:Fn P w K mg base 1 "_law_draw" 2 m__law_draw):Fn P w K mg base 2 "_law_name" 3 m__law_name:=by
 obtain ⟨f,fd,hf,F⟩:=T
 have hb:Binds K fd ["_law_pool_here","_law_start","_law_taken"] []:=F.binds fun _ _ _ _ _ _ us hl=>match us,hl with | [_,_,_],_=>rfl
 exact Fn.cln <| fn_mkC F sc__law_name hb (mx _ hf) rfl fun cdv A outer s H E hcd hr=>(show SB (cxOf CX0 P w K mg base ["_law_pool_here","_law_start","_law_taken","_law_letters","_law_name_here","_law_k","_law_last","_law_words","_law_found"] "_law_name" (defScope (top 13)) f cdv A outer s H E).nox EX0 (defBody (top 13)) b__law_name from
  have nd:(["_law_pool_here","_law_start","_law_taken","_law_letters","_law_name_here","_law_k","_law_last","_law_words","_law_found"]:List Str).Nodup:=sc__law_name.nd
  (sb_cons (s_set 3 nd se_str) (sb_cons (s_set 4 nd (se_var 1)) (sb_cons (s_for PassesOwn.never rfl (si_range rfl z_range (se_call F__law_draw (hr.mono (by decide)) rfl (sa_cons (se_var 0) (sa_cons se_int sa_nil)))) (sg_name 5 nd) (sb_cons (s_set 4 nd (se_add (se_var 4) (se_ix (se_var 3) (se_call F__law_draw (hr.mono (by decide)) rfl (sa_cons (se_var 0) (sa_cons se_int sa_nil)))))) sb_nil)) (sb_cons (s_set 6 nd (se_call F__law_draw (hr.mono (by decide)) rfl (sa_cons (se_var 0) (sa_cons se_int sa_nil)))) (sb_cons (s_set 7 nd (se_lst (sa_cons se_str (sa_cons se_str (sa_cons se_str (sa_cons se_str (sa_cons se_str (sa_cons se_str (sa_cons se_str (sa_cons se_str (sa_cons se_str (sa_cons se_str (sa_cons se_str (sa_cons se_str (sa_cons se_str sa_nil))))))))))))))) (sb_cons (s_for PassesOwn.never rfl (si_range rfl z_range se_int) (sg_name 5 nd) (sb_cons (s_set 8 nd (se_add (se_var 4) (se_ix (se_var 3) (se_mod (se_add (se_var 6) (se_var 5)) se_int)))) (sb_cons (s_if (SW.sc (sw_and (sc_c co_notin (se_var 8) (se_var 7)) (sw_and1 (sc_c co_notin (se_var 8) (se_var 2))))) (sb_cons (s_ret (se_var 8)) sb_nil) sb_nil) sb_nil))) (sb_cons (s_ret (se_add (se_var 4) se_str)) sb_nil))))))))
noncomputable def b__law_names:G→M Out :=
 (bCons (sAsg (fun _=>pure (.str "abcdefghijklmnopqrstuvwxyz")) (gN 2)) (bCons (sAsg (fun _=>pure (.str "")) (gN 3)) (bCons (sFor (iRange (clE (e2 fIx (eLst (aCons (fun _=>pure (.int 0)) (aCons (fun _=>pure (.int 0)) (aCons (fun _=>pure (.int 1)) (aCons (fun _=>pure (.int 4)) aNil))))) (eFn 2 m__law_draw (aCons (eVar 0) (aCons (fun _=>pure (.int 4)) aNil)))))) (gN 4) (bCons (sAsg (e2 fAdd (eVar 3) (e2 fIx (eVar 2) (eFn 2 m__law_draw (aCons (eVar 0) (aCons (fun _=>pure (.int 26)) aNil))))) (gN 3)) bNil)) (bCons (sAsg (eLst aNil) (gN 5)) (bCons (sFor (iRange (eVar 1)) (gN 4) (bCons (sExpr (eM1 fAppend (eVar 5) (eFn 3 m__law_name (aCons (eVar 0) (aCons (eVar 3) (aCons (eVar 5) aNil)))))) bNil)) (bCons (sRet (eVar 5)) bNil))))))
noncomputable def m__law_names:List D→M D:=fun ds=>cln (runF 6 b__law_names ds)
theorem sc__law_names:FnScope ["_law_pool_here","_law_many","_law_letters","_law_start","_law_k","_law_names_here"] ["_law_pool_here","_law_many"] (defScope (top 14)):=⟨rfl,rfl,rfl,by decide +kernel,rfl,by decide +kernel,by decide +kernel⟩
theorem ok__law_names {P:Program} {w:World} {K:PySem.W.Frag} {mg:Str→Option Value} {base:Heap} (T:DefAt K "_law_names" (top 14)) (mx:∀ v,PySem.W.nsIn K mainGlobals "_law_names" = some (some v)→mg "_law_names" = some v) (z_range:mg "range" = none) (F__law_draw:Fn P w K mg base 1 "_law_draw" 2 m__law_draw) (F__law_name:Fn P w K mg base 2 "_law_name" 3 m__law_name):Fn P w K mg base 3 "_law_names" 2 m__law_names:=by
 obtain ⟨f,fd,hf,F⟩:=T
 have hb:Binds K fd ["_law_pool_here","_law_many"] []:=F.binds fun _ _ _ _ _ _ us hl=>match us,hl with | [_,_],_=>rfl
 exact Fn.cln <| fn_mkC F sc__law_names hb (mx _ hf) rfl fun cdv A outer s H E hcd hr=>(show SB (cxOf CX0 P w K mg base ["_law_pool_here","_law_many","_law_letters","_law_start","_law_k","_law_names_here"] "_law_names" (defScope (top 14)) f cdv A outer s H E).nox EX0 (defBody (top 14)) b__law_names from
  have nd:(["_law_pool_here","_law_many","_law_letters","_law_start","_law_k","_law_names_here"]:List Str).Nodup:=sc__law_names.nd
  (sb_cons (s_set 2 nd se_str) (sb_cons (s_set 3 nd se_str) (sb_cons (s_for PassesOwn.never rfl (si_range rfl z_range (se_cln (se_ix (se_lst (sa_cons se_int (sa_cons se_int (sa_cons se_int (sa_cons se_int sa_nil))))) (se_call F__law_draw (hr.mono (by decide)) rfl (sa_cons (se_var 0) (sa_cons se_int sa_nil)))))) (sg_name 4 nd) (sb_cons (s_set 3 nd (se_add (se_var 3) (se_ix (se_var 2) (se_call F__law_draw (hr.mono (by decide)) rfl (sa_cons (se_var 0) (sa_cons se_int sa_nil)))))) sb_nil)) (sb_cons (s_set 5 nd (se_lst sa_nil)) (sb_cons (s_for PassesOwn.never rfl (si_range rfl z_range (se_var 1)) (sg_name 4 nd) (sb_cons (s_expr (se_append (se_var 5) (se_call F__law_name (hr.mono (by decide)) rfl (sa_cons (se_var 0) (sa_cons (se_var 3) (sa_cons (se_var 5) sa_nil)))))) sb_nil)) (sb_cons (s_ret (se_var 5)) sb_nil)))))))
noncomputable def b__law_great_machine:G→M Out :=
 (bCons (sAsg (e2 fAdd (fun _=>pure (.int 1)) (eFn 2 m__law_draw (aCons (eVar 0) (aCons (fun _=>pure (.int 40)) aNil)))) (gN 2)) (bCons (sIf (fun γ=>do let d ← e2 (fEq false) (eFn 2 m__law_draw (aCons (eVar 0) (aCons (fun _=>pure (.int 4)) aNil))) (fun _=>pure (.int 0)) γ; asB d) (bCons (sAsg (fun _=>pure (.int 40)) (gN 2)) bNil) bNil) (bCons (sAsg (eFn 2 m__law_draw (aCons (eVar 0) (aCons (fun _=>pure (.int 3)) aNil))) (gN 3)) (bCons (sAsg (eLst aNil) (gN 4)) (bCons (sAsg (eLst aNil) (gN 5)) (bCons (sFor (iRange (eVar 2)) (gN 6) (bCons (sAsg (eLst (aCons (eFn 2 m__law_draw (aCons (eVar 0) (aCons (fun _=>pure (.int 1048576)) aNil))) (aCons (eFn 2 m__law_draw (aCons (eVar 0) (aCons (fun _=>pure (.int 1048576)) aNil))) aNil))) (gN 7)) (bCons (sIf (fun γ=>do let d ← e2 fGt (eVar 3) (fun _=>pure (.int 0)) γ; asB d) (bCons (sAsg (eLst (aCons (e2 fAnd (e2 fIx (eVar 7) (fun _=>pure (.int 0))) (eFn 2 m__law_draw (aCons (eVar 0) (aCons (fun _=>pure (.int 1048576)) aNil)))) (aCons (e2 fAnd (e2 fIx (eVar 7) (fun _=>pure (.int 1))) (eFn 2 m__law_draw (aCons (eVar 0) (aCons (fun _=>pure (.int 1048576)) aNil)))) aNil))) (gN 7)) bNil) bNil) (bCons (sExpr (eM1 fAppend (eVar 4) (clE (eCall fTuple (aCons (eComp [some 7,none] (iRange (eVar 2)) (gN 1) (fun γ=>do let d ← e2 (fEq false) (e2 fAnd (e2 fShr (e2 fIx (eVar 0) (e2 fDiv (eVar 1) (fun _=>pure (.int 20)))) (e2 fMod (eVar 1) (fun _=>pure (.int 20)))) (fun _=>pure (.int 1))) (fun _=>pure (.int 1)) γ; asB d) (eVar 1)) aNil))))) (bCons (sAsg (eFn 2 m__law_draw (aCons (eVar 0) (aCons (fun _=>pure (.int 256)) aNil))) (gN 8)) (bCons (sExpr (eM1 fAppend (eVar 5) (clE (eCall fTuple (aCons (eCall fSorted (aCons (eComp [some 1,some 8,none] (iRange (eCall fLen (aCons (eVar 1) aNil))) (gN 2) (fun γ=>do let d ← e2 (fEq false) (e2 fAnd (e2 fShr (eVar 1) (eVar 2)) (fun _=>pure (.int 1))) (fun _=>pure (.int 1)) γ; asB d) (e2 fIx (eVar 0) (eVar 2))) aNil)) aNil))))) bNil)))))) (bCons (sRet (eTup (aCons (eCall fTuple (aCons (eVar 4) aNil)) (aCons (eCall fTuple (aCons (eVar 5) aNil)) aNil)))) bNil)))))))
noncomputable def m__law_great_machine:List D→M D:=fun ds=>cln (runF 9 b__law_great_machine ds)
theorem sc__law_great_machine:FnScope ["_law_pool_here","_law_names_here","_law_many","_law_dense","_law_steps","_law_marks","_law_k","_law_bits","_law_worn"] ["_law_pool_here","_law_names_here"] (defScope (top 15)):=⟨rfl,rfl,rfl,by decide +kernel,rfl,by decide +kernel,by decide +kernel⟩
theorem ok__law_great_machine {P:Program} {w:World} {K:PySem.W.Frag} {mg:Str→Option Value} {base:Heap} (T:DefAt K "_law_great_machine" (top 15)) (mx:∀ v,PySem.W.nsIn K mainGlobals "_law_great_machine" = some (some v)→mg "_law_great_machine" = some v) (z_len:mg "len" = none) (z_range:mg "range" = none) (z_sorted:mg "sorted" = none) (z_tuple:mg "tuple" = none) (F__law_draw:Fn P w K mg base 1 "_law_draw" 2 m__law_draw):Fn P w K mg base 2 "_law_great_machine" 2 m__law_great_machine:=by
 obtain ⟨f,fd,hf,F⟩:=T
 have hb:Binds K fd ["_law_pool_here","_law_names_here"] []:=F.binds fun _ _ _ _ _ _ us hl=>match us,hl with | [_,_],_=>rfl
 exact Fn.cln <| fn_mkC F sc__law_great_machine hb (mx _ hf) rfl fun cdv A outer s H E hcd hr=>(show SB (cxOf CX0 P w K mg base ["_law_pool_here","_law_names_here","_law_many","_law_dense","_law_steps","_law_marks","_law_k","_law_bits","_law_worn"] "_law_great_machine" (defScope (top 15)) f cdv A outer s H E).nox EX0 (defBody (top 15)) b__law_great_machine from
  have nd:(["_law_pool_here","_law_names_here","_law_many","_law_dense","_law_steps","_law_marks","_law_k","_law_bits","_law_worn"]:List Str).Nodup:=sc__law_great_machine.nd
  (sb_cons (s_set 2 nd (se_add se_int (se_call F__law_draw (hr.mono (by decide)) rfl (sa_cons (se_var 0) (sa_cons se_int sa_nil))))) (sb_cons (s_if (sc_c co_eq (se_call F__law_draw (hr.mono (by decide)) rfl (sa_cons (se_var 0) (sa_cons se_int sa_nil))) se_int) (sb_cons (s_set 2 nd se_int) sb_nil) sb_nil) (sb_cons (s_set 3 nd (se_call F__law_draw (hr.mono (by decide)) rfl (sa_cons (se_var 0) (sa_cons se_int sa_nil)))) (sb_cons (s_set 4 nd (se_lst sa_nil)) (sb_cons (s_set 5 nd (se_lst sa_nil)) (sb_cons (s_for PassesOwn.never rfl (si_range rfl z_range (se_var 2)) (sg_name 6 nd) (sb_cons (s_set 7 nd (se_lst (sa_cons (se_call F__law_draw (hr.mono (by decide)) rfl (sa_cons (se_var 0) (sa_cons se_int sa_nil))) (sa_cons (se_call F__law_draw (hr.mono (by decide)) rfl (sa_cons (se_var 0) (sa_cons se_int sa_nil))) sa_nil)))) (sb_cons (s_if (sc_c co_gt (se_var 3) se_int) (sb_cons (s_set 7 nd (se_lst (sa_cons (se_and (se_ix (se_var 7) se_int) (se_call F__law_draw (hr.mono (by decide)) rfl (sa_cons (se_var 0) (sa_cons se_int sa_nil)))) (sa_cons (se_and (se_ix (se_var 7) se_int) (se_call F__law_draw (hr.mono (by decide)) rfl (sa_cons (se_var 0) (sa_cons se_int sa_nil)))) sa_nil)))) sb_nil) sb_nil) (sb_cons (s_expr (se_append (se_var 4) (se_cln (se_tuple rfl z_tuple (sa_cons (se_comp (N':=["_law_bits","_law_to"]) (cap:=[some 7,none]) rfl (cs_mk (by first | rfl | kernel_rfl!)) (si_range rfl z_range (se_var 2)) (fun _ _ _ _=>(sgk_name 1 (show (["_law_bits","_law_to"]:List Str).Nodup by decide +kernel))) (fun _ _ _ _=>(scs_one (sc_c co_eq (se_and (se_shr (se_ix (se_var 0) (se_div (se_var 1) se_int)) (se_mod (se_var 1) se_int)) se_int) se_int))) (fun _ _ _ _=>(se_var 1))) sa_nil))))) (sb_cons (s_set 8 nd (se_call F__law_draw (hr.mono (by decide)) rfl (sa_cons (se_var 0) (sa_cons se_int sa_nil)))) (sb_cons (s_expr (se_append (se_var 5) (se_cln (se_tuple rfl z_tuple (sa_cons (se_sorted rfl rfl z_sorted (sa_cons (se_comp (N':=["_law_names_here","_law_worn","_law_j"]) (cap:=[some 1,some 8,none]) rfl (cs_mk (by first | rfl | kernel_rfl!)) (si_range rfl z_range (se_len rfl z_len (sa_cons (se_var 1) sa_nil))) (fun _ _ _ _=>(sgk_name 2 (show (["_law_names_here","_law_worn","_law_j"]:List Str).Nodup by decide +kernel))) (fun _ _ _ _=>(scs_one (sc_c co_eq (se_and (se_shr (se_var 1) (se_var 2)) se_int) se_int))) (fun _ _ _ _=>(se_ix (se_var 0) (se_var 2)))) sa_nil)) sa_nil))))) sb_nil)))))) (sb_cons (s_ret (se_tup (sa_cons (se_tuple rfl z_tuple (sa_cons (se_var 4) sa_nil)) (sa_cons (se_tuple rfl z_tuple (sa_cons (se_var 5) sa_nil)) sa_nil)))) sb_nil))))))))
noncomputable def b__law_number:G→M Out :=
 (bCons (sRet (eAnd (eIsi "int" (eVar 0)) (eAnd (eNot (eIsi "bool" (eVar 0))) (e3 fLe fLt (eVar 1) (eVar 0) (eVar 2))))) bNil)
noncomputable def m__law_number:List D→M D:=fun ds=>cln (runF 3 b__law_number ds)
theorem sc__law_number:FnScope ["_law_thing","_law_low","_law_high"] ["_law_thing","_law_low","_law_high"] (defScope (top 16)):=⟨rfl,rfl,rfl,by decide +kernel,rfl,by decide +kernel,by decide +kernel⟩
theorem ok__law_number {P:Program} {w:World} {K:PySem.W.Frag} {mg:Str→Option Value} {base:Heap} (T:DefAt K "_law_number" (top 16)) (mx:∀ v,PySem.W.nsIn K mainGlobals "_law_number" = some (some v)→mg "_law_number" = some v) (z_bool:mg "bool" = none) (z_int:mg "int" = none) (z_isinstance:mg "isinstance" = none):Fn P w K mg base 1 "_law_number" 3 m__law_number:=by
 obtain ⟨f,fd,hf,F⟩:=T
 have hb:Binds K fd ["_law_thing","_law_low","_law_high"] []:=F.binds fun _ _ _ _ _ _ us hl=>match us,hl with | [_,_,_],_=>rfl
 exact Fn.cln <| fn_mkC F sc__law_number hb (mx _ hf) rfl fun cdv A outer s H E hcd hr=>(show SB (cxOf CX0 P w K mg base ["_law_thing","_law_low","_law_high"] "_law_number" (defScope (top 16)) f cdv A outer s H E).nox EX0 (defBody (top 16)) b__law_number from
  have nd:(["_law_thing","_law_low","_law_high"]:List Str).Nodup:=sc__law_number.nd
  (sb_cons (s_ret (se_band (se_isi rfl z_isinstance rfl z_int (by decide +kernel) (by decide) (se_var 0)) (se_band (se_bnot (se_isi rfl z_isinstance rfl z_bool (by decide +kernel) (by decide) (se_var 0))) (se_one (se_c2 co_le co_lt (se_var 1) (se_var 0) (se_var 2)))))) sb_nil))
noncomputable def b__law_tuple:G→M Out :=
 (bCons (sRet (eAnd (eIsi "tuple" (eVar 0)) (e3 fLe fLe (eVar 1) (eCall fLen (aCons (eVar 0) aNil)) (eVar 2)))) bNil)
noncomputable def m__law_tuple:List D→M D:=fun ds=>cln (runF 3 b__law_tuple ds)
theorem sc__law_tuple:FnScope ["_law_thing","_law_least","_law_most"] ["_law_thing","_law_least","_law_most"] (defScope (top 17)):=⟨rfl,rfl,rfl,by decide +kernel,rfl,by decide +kernel,by decide +kernel⟩
theorem ok__law_tuple {P:Program} {w:World} {K:PySem.W.Frag} {mg:Str→Option Value} {base:Heap} (T:DefAt K "_law_tuple" (top 17)) (mx:∀ v,PySem.W.nsIn K mainGlobals "_law_tuple" = some (some v)→mg "_law_tuple" = some v) (z_isinstance:mg "isinstance" = none) (z_len:mg "len" = none) (z_tuple:mg "tuple" = none):Fn P w K mg base 1 "_law_tuple" 3 m__law_tuple:=by
 obtain ⟨f,fd,hf,F⟩:=T
 have hb:Binds K fd ["_law_thing","_law_least","_law_most"] []:=F.binds fun _ _ _ _ _ _ us hl=>match us,hl with | [_,_,_],_=>rfl
 exact Fn.cln <| fn_mkC F sc__law_tuple hb (mx _ hf) rfl fun cdv A outer s H E hcd hr=>(show SB (cxOf CX0 P w K mg base ["_law_thing","_law_least","_law_most"] "_law_tuple" (defScope (top 17)) f cdv A outer s H E).nox EX0 (defBody (top 17)) b__law_tuple from
  have nd:(["_law_thing","_law_least","_law_most"]:List Str).Nodup:=sc__law_tuple.nd
  (sb_cons (s_ret (se_band (se_isi rfl z_isinstance rfl z_tuple (by decide +kernel) (by decide) (se_var 0)) (se_one (se_c2 co_le co_le (se_var 1) (se_len rfl z_len (sa_cons (se_var 0) sa_nil)) (se_var 2))))) sb_nil))
noncomputable def b__law_good_set:G→M Out :=
 (bCons (sIf (cNot (cVal (eFn 3 m__law_tuple (aCons (eVar 0) (aCons (fun _=>pure (.int 0)) (aCons (eVar 1) aNil)))))) (bCons (sRet (fun _=>pure (.bl false))) bNil) bNil) (bCons (sFor (iRange (eCall fLen (aCons (eVar 0) aNil))) (gN 2) (bCons (sIf (cOr (cNot (cVal (eFn 3 m__law_number (aCons (e2 fIx (eVar 0) (eVar 2)) (aCons (fun _=>pure (.int 0)) (aCons (eVar 1) aNil)))))) (cAnd (fun γ=>do let d ← e2 fGt (eVar 2) (fun _=>pure (.int 0)) γ; asB d) (fun γ=>do let d ← e2 fGe (e2 fIx (eVar 0) (e2 fSub (eVar 2) (fun _=>pure (.int 1)))) (e2 fIx (eVar 0) (eVar 2)) γ; asB d))) (bCons (sRet (fun _=>pure (.bl false))) bNil) bNil) bNil)) (bCons (sRet (fun _=>pure (.bl true))) bNil)))
noncomputable def m__law_good_set:List D→M D:=fun ds=>cln (runF 3 b__law_good_set ds)
theorem sc__law_good_set:FnScope ["_law_thing","_law_many","_law_k"] ["_law_thing","_law_many"] (defScope (top 18)):=⟨rfl,rfl,rfl,by decide +kernel,rfl,by decide +kernel,by decide +kernel⟩
theorem ok__law_good_set {P:Program} {w:World} {K:PySem.W.Frag} {mg:Str→Option Value} {base:Heap} (T:DefAt K "_law_good_set" (top 18)) (mx:∀ v,PySem.W.nsIn K mainGlobals "_law_good_set" = some (some v)→mg "_law_good_set" = some v) (z_len:mg "len" = none) (z_range:mg "range" = none) (F__law_number:Fn P w K mg base 1 "_law_number" 3 m__law_number) (F__law_tuple:Fn P w K mg base 1 "_law_tuple" 3 m__law_tuple):Fn P w K mg base 2 "_law_good_set" 2 m__law_good_set:=by
 obtain ⟨f,fd,hf,F⟩:=T
 have hb:Binds K fd ["_law_thing","_law_many"] []:=F.binds fun _ _ _ _ _ _ us hl=>match us,hl with | [_,_],_=>rfl
 exact Fn.cln <| fn_mkC F sc__law_good_set hb (mx _ hf) rfl fun cdv A outer s H E hcd hr=>(show SB (cxOf CX0 P w K mg base ["_law_thing","_law_many","_law_k"] "_law_good_set" (defScope (top 18)) f cdv A outer s H E).nox EX0 (defBody (top 18)) b__law_good_set from
  have nd:(["_law_thing","_law_many","_law_k"]:List Str).Nodup:=sc__law_good_set.nd
  (sb_cons (s_if (sc_not (sc_val (se_call F__law_tuple (hr.mono (by decide)) rfl (sa_cons (se_var 0) (sa_cons se_int (sa_cons (se_var 1) sa_nil)))))) (sb_cons (s_ret se_bl) sb_nil) sb_nil) (sb_cons (s_for PassesOwn.never rfl (si_range rfl z_range (se_len rfl z_len (sa_cons (se_var 0) sa_nil))) (sg_name 2 nd) (sb_cons (s_if (SW.sc (sw_or (sc_not (sc_val (se_call F__law_number (hr.mono (by decide)) rfl (sa_cons (se_ix (se_var 0) (se_var 2)) (sa_cons se_int (sa_cons (se_var 1) sa_nil)))))) (sw_or1 (SW.sc (sw_and (sc_c co_gt (se_var 2) se_int) (sw_and1 (sc_c co_ge (se_ix (se_var 0) (se_sub (se_var 2) se_int)) (se_ix (se_var 0) (se_var 2))))))))) (sb_cons (s_ret se_bl) sb_nil) sb_nil) sb_nil)) (sb_cons (s_ret se_bl) sb_nil))))
noncomputable def b__law_some:G→M Out :=
 (bCons (sAsg (eFn 2 m__law_draw (aCons (eVar 0) (aCons (fun _=>pure (.int 4)) aNil))) (gN 2)) (bCons (sRet (clE (eCall fTuple (aCons (eComp [some 0,some 2,none] (iRange (eVar 1)) (gN 2) (fun γ=>do let d ← e2 fLe (eFn 2 m__law_draw (aCons (eVar 0) (aCons (fun _=>pure (.int 4)) aNil))) (eVar 1) γ; asB d) (eVar 2)) aNil)))) bNil))
noncomputable def m__law_some:List D→M D:=fun ds=>cln (runF 3 b__law_some ds)
theorem sc__law_some:FnScope ["_law_pool_here","_law_many","_law_dense"] ["_law_pool_here","_law_many"] (defScope (top 19)):=⟨rfl,rfl,rfl,by decide +kernel,rfl,by decide +kernel,by decide +kernel⟩
theorem ok__law_some {P:Program} {w:World} {K:PySem.W.Frag} {mg:Str→Option Value} {base:Heap} (T:DefAt K "_law_some" (top 19)) (mx:∀ v,PySem.W.nsIn K mainGlobals "_law_some" = some (some v)→mg "_law_some" = some v) (z_range:mg "range" = none) (z_tuple:mg "tuple" = none) (F__law_draw:Fn P w K mg base 1 "_law_draw" 2 m__law_draw):Fn P w K mg base 2 "_law_some" 2 m__law_some:=by
 obtain ⟨f,fd,hf,F⟩:=T
 have hb:Binds K fd ["_law_pool_here","_law_many"] []:=F.binds fun _ _ _ _ _ _ us hl=>match us,hl with | [_,_],_=>rfl
 exact Fn.cln <| fn_mkC F sc__law_some hb (mx _ hf) rfl fun cdv A outer s H E hcd hr=>(show SB (cxOf CX0 P w K mg base ["_law_pool_here","_law_many","_law_dense"] "_law_some" (defScope (top 19)) f cdv A outer s H E).nox EX0 (defBody (top 19)) b__law_some from
  have nd:(["_law_pool_here","_law_many","_law_dense"]:List Str).Nodup:=sc__law_some.nd
  (sb_cons (s_set 2 nd (se_call F__law_draw (hr.mono (by decide)) rfl (sa_cons (se_var 0) (sa_cons se_int sa_nil)))) (sb_cons (s_ret (se_cln (se_tuple rfl z_tuple (sa_cons (se_comp (N':=["_law_pool_here","_law_dense","_law_one"]) (cap:=[some 0,some 2,none]) rfl (cs_mk (by first | rfl | kernel_rfl!)) (si_range rfl z_range (se_var 1)) (fun _ _ _ _=>(sgk_name 2 (show (["_law_pool_here","_law_dense","_law_one"]:List Str).Nodup by decide +kernel))) (fun _ _ _ _=>(scs_one (sc_c co_le (se_call F__law_draw (hr.mono (by decide)) rfl (sa_cons (se_var 0) (sa_cons se_int sa_nil))) (se_var 1)))) (fun _ _ _ _=>(se_var 2))) sa_nil)))) sb_nil)))
noncomputable def b__law_ring:G→M Out :=
 (bCons (sAsg (eCall fLen (aCons (e2 fIx (eVar 1) (fun _=>pure (.int 0))) aNil)) (gN 2)) (bCons (sAsg (eComp [some 0,some 2,none] (iRange (eFn 2 m__law_draw (aCons (eVar 0) (aCons (fun _=>pure (.int 6)) aNil)))) (gN 2) (fun _=>pure true) (eFn 2 m__law_draw (aCons (eVar 0) (aCons (eVar 1) aNil)))) (gN 3)) (bCons (sAsg (eComp [some 2,none] (iRange (eVar 2)) (gN 1) (fun _=>pure true) (e2 fMod (e2 fAdd (eVar 1) (fun _=>pure (.int 1))) (eVar 0))) (gN 4)) (bCons (sRet (eTup (aCons (clE (eCall fTuple (aCons (eComp [some 4,some 3,none] (iRange (eVar 2)) (gN 2) (fun _=>pure true) (eCall fTuple (aCons (e2 fMul2 (eLst (aCons (e2 fIx (eVar 0) (eVar 2)) aNil)) (eCall fInt (aCons (e2 (fIn true) (eVar 2) (eVar 1)) aNil))) aNil))) aNil))) (aCons (e2 fIx (eVar 1) (fun _=>pure (.int 1))) aNil)))) bNil))))
noncomputable def m__law_ring:List D→M D:=fun ds=>cln (runF 5 b__law_ring ds)
theorem sc__law_ring:FnScope ["_law_pool_here","_law_machine","_law_many","_law_lost","_law_steps"] ["_law_pool_here","_law_machine"] (defScope (top 20)):=⟨rfl,rfl,rfl,by decide +kernel,rfl,by decide +kernel,by decide +kernel⟩
theorem ok__law_ring {P:Program} {w:World} {K:PySem.W.Frag} {mg:Str→Option Value} {base:Heap} (T:DefAt K "_law_ring" (top 20)) (mx:∀ v,PySem.W.nsIn K mainGlobals "_law_ring" = some (some v)→mg "_law_ring" = some v) (z_int:mg "int" = none) (z_len:mg "len" = none) (z_range:mg "range" = none) (z_tuple:mg "tuple" = none) (F__law_draw:Fn P w K mg base 1 "_law_draw" 2 m__law_draw):Fn P w K mg base 2 "_law_ring" 2 m__law_ring:=by
 obtain ⟨f,fd,hf,F⟩:=T
 have hb:Binds K fd ["_law_pool_here","_law_machine"] []:=F.binds fun _ _ _ _ _ _ us hl=>match us,hl with | [_,_],_=>rfl
 exact Fn.cln <| fn_mkC F sc__law_ring hb (mx _ hf) rfl fun cdv A outer s H E hcd hr=>(show SB (cxOf CX0 P w K mg base ["_law_pool_here","_law_machine","_law_many","_law_lost","_law_steps"] "_law_ring" (defScope (top 20)) f cdv A outer s H E).nox EX0 (defBody (top 20)) b__law_ring from
  have nd:(["_law_pool_here","_law_machine","_law_many","_law_lost","_law_steps"]:List Str).Nodup:=sc__law_ring.nd
  (sb_cons (s_set 2 nd (se_len rfl z_len (sa_cons (se_ix (se_var 1) se_int) sa_nil))) (sb_cons (s_set 3 nd (se_comp (N':=["_law_pool_here","_law_many","_law_k"]) (cap:=[some 0,some 2,none]) rfl (cs_mk (by first | rfl | kernel_rfl!)) (si_range rfl z_range (se_call F__law_draw (hr.mono (by decide)) rfl (sa_cons (se_var 0) (sa_cons se_int sa_nil)))) (fun _ _ _ _=>(sgk_name 2 (show (["_law_pool_here","_law_many","_law_k"]:List Str).Nodup by decide +kernel))) (fun _ _ _ _=>scs_nil) (fun _ _ _ _=>(se_call F__law_draw (hr.mono (by decide)) rfl (sa_cons (se_var 0) (sa_cons (se_var 1) sa_nil)))))) (sb_cons (s_set 4 nd (se_comp (N':=["_law_many","_law_k"]) (cap:=[some 2,none]) rfl (cs_mk (by first | rfl | kernel_rfl!)) (si_range rfl z_range (se_var 2)) (fun _ _ _ _=>(sgk_name 1 (show (["_law_many","_law_k"]:List Str).Nodup by decide +kernel))) (fun _ _ _ _=>scs_nil) (fun _ _ _ _=>(se_mod (se_add (se_var 1) se_int) (se_var 0))))) (sb_cons (s_ret (se_tup (sa_cons (se_cln (se_tuple rfl z_tuple (sa_cons (se_comp (N':=["_law_steps","_law_lost","_law_k"]) (cap:=[some 4,some 3,none]) rfl (cs_mk (by first | rfl | kernel_rfl!)) (si_range rfl z_range (se_var 2)) (fun _ _ _ _=>(sgk_name 2 (show (["_law_steps","_law_lost","_law_k"]:List Str).Nodup by decide +kernel))) (fun _ _ _ _=>scs_nil) (fun _ _ _ _=>(se_tuple rfl z_tuple (sa_cons (se_mul2 (se_lst (sa_cons (se_ix (se_var 0) (se_var 2)) sa_nil)) (se_intof rfl z_int (sa_cons (se_c co_notin (se_var 2) (se_var 1)) sa_nil))) sa_nil)))) sa_nil))) (sa_cons (se_ix (se_var 1) se_int) sa_nil)))) sb_nil)))))
noncomputable def b__law_walk:G→M Out :=
 (bCons (sAsg (eLst (aCons (eVar 2) aNil)) (gN 3)) (bCons (sAsg (fun _=>pure (.int 0)) (gN 4)) (bCons (whileR (fun γ=>do let d ← e2 fLt (eVar 4) (eCall fLen (aCons (eVar 3) aNil)) γ; asB d) (bCons (sFor (orE (iSeqT (e2 fIx (eVar 0) (e2 fIx (eVar 3) (eVar 4)))) (iSeqL (e2 fIx (eVar 0) (e2 fIx (eVar 3) (eVar 4))))) (gN 5) (bCons (sIf (cAnd (fun γ=>do let d ← e2 (fIn false) (eVar 5) (eVar 1) γ; asB d) (fun γ=>do let d ← e2 (fIn true) (eVar 5) (eVar 3) γ; asB d)) (bCons (sExpr (eM1 fAppend (eVar 3) (eVar 5))) bNil) bNil) bNil)) (bCons (sAsg (e2 fAdd (eVar 4) (fun _=>pure (.int 1))) (gN 4)) bNil)) 1000000) (bCons (sRet (eVar 3)) bNil))))
noncomputable def m__law_walk:List D→M D:=fun ds=>cln (runF 6 b__law_walk ds)
theorem sc__law_walk:FnScope ["_law_ahead","_law_within","_law_one","_law_found","_law_at","_law_to"] ["_law_ahead","_law_within","_law_one"] (defScope (top 21)):=⟨rfl,rfl,rfl,by decide +kernel,rfl,by decide +kernel,by decide +kernel⟩
theorem ok__law_walk {P:Program} {w:World} {K:PySem.W.Frag} {mg:Str→Option Value} {base:Heap} (T:DefAt K "_law_walk" (top 21)) (mx:∀ v,PySem.W.nsIn K mainGlobals "_law_walk" = some (some v)→mg "_law_walk" = some v) (z_len:mg "len" = none):Fn P w K mg base 1 "_law_walk" 3 m__law_walk:=by
 obtain ⟨f,fd,hf,F⟩:=T
 have hb:Binds K fd ["_law_ahead","_law_within","_law_one"] []:=F.binds fun _ _ _ _ _ _ us hl=>match us,hl with | [_,_,_],_=>rfl
 exact Fn.cln <| fn_mkC F sc__law_walk hb (mx _ hf) rfl fun cdv A outer s H E hcd hr=>(show SB (cxOf CX0 P w K mg base ["_law_ahead","_law_within","_law_one","_law_found","_law_at","_law_to"] "_law_walk" (defScope (top 21)) f cdv A outer s H E).nox EX0 (defBody (top 21)) b__law_walk from
  have nd:(["_law_ahead","_law_within","_law_one","_law_found","_law_at","_law_to"]:List Str).Nodup:=sc__law_walk.nd
  (sb_cons (s_set 3 nd (se_lst (sa_cons (se_var 2) sa_nil))) (sb_cons (s_set 4 nd se_int) (sb_cons (s_while 1000000 PassesOwn.never (sc_c co_lt (se_var 4) (se_len rfl z_len (sa_cons (se_var 3) sa_nil))) (sb_cons (s_for PassesOwn.never rfl (si_or (si_tup (se_ix (se_var 0) (se_ix (se_var 3) (se_var 4)))) (si_list (se_ix (se_var 0) (se_ix (se_var 3) (se_var 4))))) (sg_name 5 nd) (sb_cons (s_if (SW.sc (sw_and (sc_c co_in (se_var 5) (se_var 1)) (sw_and1 (sc_c co_notin (se_var 5) (se_var 3))))) (sb_cons (s_expr (se_append (se_var 3) (se_var 5))) sb_nil) sb_nil) sb_nil)) (sb_cons (s_set 4 nd (se_add (se_var 4) se_int)) sb_nil))) (sb_cons (s_ret (se_var 3)) sb_nil)))))
noncomputable def b__law_back:G→M Out :=
 (bCons (sComp' 1 [none] (iRange (eCall fLen (aCons (e2 fIx (eVar 0) (fun _=>pure (.int 0))) aNil))) (gN 0) (fun _=>pure true) (eLst aNil)) (bCons (sFor (iRange (eCall fLen (aCons (eVar 1) aNil))) (gN 2) (bCons (sFor (iSeqT (e2 fIx (e2 fIx (eVar 0) (fun _=>pure (.int 0))) (eVar 2))) (gN 3) (bCons (sExpr (eM1 fAppend (e2 fIx (eVar 1) (eVar 3)) (eVar 2))) bNil)) bNil)) (bCons (sRet (eVar 1)) bNil)))
noncomputable def m__law_back:List D→M D:=fun ds=>cln (runF 4 b__law_back ds)
theorem sc__law_back:FnScope ["_law_machine","_law_back_here","_law_one","_law_to"] ["_law_machine"] (defScope (top 22)):=⟨rfl,rfl,rfl,by decide +kernel,rfl,by decide +kernel,by decide +kernel⟩
theorem ok__law_back {P:Program} {w:World} {K:PySem.W.Frag} {mg:Str→Option Value} {base:Heap} (T:DefAt K "_law_back" (top 22)) (mx:∀ v,PySem.W.nsIn K mainGlobals "_law_back" = some (some v)→mg "_law_back" = some v) (z_len:mg "len" = none) (z_range:mg "range" = none):Fn P w K mg base 1 "_law_back" 1 m__law_back:=by
 obtain ⟨f,fd,hf,F⟩:=T
 have hb:Binds K fd ["_law_machine"] []:=F.binds fun _ _ _ _ _ _ us hl=>match us,hl with | [_],_=>rfl
 exact Fn.cln <| fn_mkC F sc__law_back hb (mx _ hf) rfl fun cdv A outer s H E hcd hr=>(show SB (cxOf CX0 P w K mg base ["_law_machine","_law_back_here","_law_one","_law_to"] "_law_back" (defScope (top 22)) f cdv A outer s H E).nox EX0 (defBody (top 22)) b__law_back from
  have nd:(["_law_machine","_law_back_here","_law_one","_law_to"]:List Str).Nodup:=sc__law_back.nd
  (sb_cons (s_comp 1 (N':=["_law_k"]) (cap:=[none]) rfl (cs_mk (by first | rfl | kernel_rfl!)) (si_range rfl z_range (se_len rfl z_len (sa_cons (se_ix (se_var 0) se_int) sa_nil))) (fun _ _ _ _=>(sgk_name 0 (show (["_law_k"]:List Str).Nodup by decide +kernel))) (fun _ _ _ _=>scs_nil) (fun _ _ _ _=>(se_lst sa_nil)) nd) (sb_cons (s_for PassesOwn.never rfl (si_range rfl z_range (se_len rfl z_len (sa_cons (se_var 1) sa_nil))) (sg_name 2 nd) (sb_cons (s_for PassesOwn.never rfl (si_tup (se_ix (se_ix (se_var 0) se_int) (se_var 2))) (sg_name 3 nd) (sb_cons (s_expr (se_append (se_ix (se_var 1) (se_var 3)) (se_var 2))) sb_nil)) sb_nil)) (sb_cons (s_ret (se_var 1)) sb_nil))))
noncomputable def b__law_placed:G→M Out :=
 (bCons (sIf (cNot (cVal (eIsi "list" (eVar 2)))) (bCons (sRet (fun _=>pure .non)) bNil) bNil) (bCons (sAsg (e2 fMul2 (eLst (aCons (eNeg (fun _=>pure (.int 1))) aNil)) (eCall fLen (aCons (e2 fIx (eVar 0) (fun _=>pure (.int 0))) aNil))) (gN 3)) (bCons (sFor (iRange (eCall fLen (aCons (eVar 2) aNil))) (gN 4) (bCons (sIf (cOr (cNot (cVal (eFn 2 m__law_good_set (aCons (e2 fIx (eVar 2) (eVar 4)) (aCons (eCall fLen (aCons (eVar 3) aNil)) aNil))))) (fun γ=>do let d ← e2 (fEq false) (eCall fLen (aCons (e2 fIx (eVar 2) (eVar 4)) aNil)) (fun _=>pure (.int 0)) γ; asB d)) (bCons (sRet (fun _=>pure .non)) bNil) bNil) (bCons (sFor (iSeqT (e2 fIx (eVar 2) (eVar 4))) (gN 5) (bCons (sIf (cOr (fun γ=>do let d ← e2 fGe (e2 fIx (eVar 3) (eVar 5)) (fun _=>pure (.int 0)) γ; asB d) (fun γ=>do let d ← e2 (fIn true) (eVar 5) (eVar 1) γ; asB d)) (bCons (sRet (fun _=>pure .non)) bNil) bNil) (bCons (sAsg (eVar 4) (gIx (eVar 3) (eVar 5))) bNil))) bNil))) (bCons (sIf (clT (fun γ=>do let d ← e2 (fEqX true) (eComp [some 3,none] (iSeqT (eVar 1)) (gN 1) (fun γ=>do let d ← e2 fLt (e2 fIx (eVar 0) (eVar 1)) (fun _=>pure (.int 0)) γ; asB d) (eVar 1)) (eLst aNil) γ; asB d)) (bCons (sRet (fun _=>pure .non)) bNil) bNil) (bCons (sRet (eVar 3)) bNil)))))
noncomputable def m__law_placed:List D→M D:=fun ds=>cln (runF 6 b__law_placed ds)
theorem sc__law_placed:FnScope ["_law_machine","_law_within","_law_found","_law_place","_law_k","_law_one"] ["_law_machine","_law_within","_law_found"] (defScope (top 23)):=⟨rfl,rfl,rfl,by decide +kernel,rfl,by decide +kernel,by decide +kernel⟩
theorem ok__law_placed {P:Program} {w:World} {K:PySem.W.Frag} {mg:Str→Option Value} {base:Heap} (T:DefAt K "_law_placed" (top 23)) (mx:∀ v,PySem.W.nsIn K mainGlobals "_law_placed" = some (some v)→mg "_law_placed" = some v) (z_isinstance:mg "isinstance" = none) (z_len:mg "len" = none) (z_list:mg "list" = none) (z_range:mg "range" = none) (F__law_good_set:Fn P w K mg base 2 "_law_good_set" 2 m__law_good_set):Fn P w K mg base 3 "_law_placed" 3 m__law_placed:=by
 obtain ⟨f,fd,hf,F⟩:=T
 have hb:Binds K fd ["_law_machine","_law_within","_law_found"] []:=F.binds fun _ _ _ _ _ _ us hl=>match us,hl with | [_,_,_],_=>rfl
 exact Fn.cln <| fn_mkC F sc__law_placed hb (mx _ hf) rfl fun cdv A outer s H E hcd hr=>(show SB (cxOf CX0 P w K mg base ["_law_machine","_law_within","_law_found","_law_place","_law_k","_law_one"] "_law_placed" (defScope (top 23)) f cdv A outer s H E).nox EX0 (defBody (top 23)) b__law_placed from
  have nd:(["_law_machine","_law_within","_law_found","_law_place","_law_k","_law_one"]:List Str).Nodup:=sc__law_placed.nd
  (sb_cons (s_if (sc_not (sc_val (se_isi rfl z_isinstance rfl z_list (by decide +kernel) (by decide) (se_var 2)))) (sb_cons (s_ret se_non) sb_nil) sb_nil) (sb_cons (s_set 3 nd (se_mul2 (se_lst (sa_cons (se_neg se_int) sa_nil)) (se_len rfl z_len (sa_cons (se_ix (se_var 0) se_int) sa_nil)))) (sb_cons (s_for PassesOwn.never rfl (si_range rfl z_range (se_len rfl z_len (sa_cons (se_var 2) sa_nil))) (sg_name 4 nd) (sb_cons (s_if (SW.sc (sw_or (sc_not (sc_val (se_call F__law_good_set (hr.mono (by decide)) rfl (sa_cons (se_ix (se_var 2) (se_var 4)) (sa_cons (se_len rfl z_len (sa_cons (se_var 3) sa_nil)) sa_nil))))) (sw_or1 (sc_c co_eq (se_len rfl z_len (sa_cons (se_ix (se_var 2) (se_var 4)) sa_nil)) se_int)))) (sb_cons (s_ret se_non) sb_nil) sb_nil) (sb_cons (s_for PassesOwn.never rfl (si_tup (se_ix (se_var 2) (se_var 4))) (sg_name 5 nd) (sb_cons (s_if (SW.sc (sw_or (sc_c co_ge (se_ix (se_var 3) (se_var 5)) se_int) (sw_or1 (sc_c co_notin (se_var 5) (se_var 1))))) (sb_cons (s_ret se_non) sb_nil) sb_nil) (sb_cons (s_asg (se_var 4) (sg_ix (se_var 3) (se_var 5))) sb_nil))) sb_nil))) (sb_cons (s_if (sc_cln (sc_c (co_neX (hu30 hr)) (se_comp (N':=["_law_place","_law_one"]) (cap:=[some 3,none]) rfl (cs_mk (by first | rfl | kernel_rfl!)) (si_tup (se_var 1)) (fun _ _ _ _=>(sgk_name 1 (show (["_law_place","_law_one"]:List Str).Nodup by decide +kernel))) (fun _ _ _ _=>(scs_one (sc_c co_lt (se_ix (se_var 0) (se_var 1)) se_int))) (fun _ _ _ _=>(se_var 1))) (se_lst sa_nil))) (sb_cons (s_ret se_non) sb_nil) sb_nil) (sb_cons (s_ret (se_var 3)) sb_nil))))))
noncomputable def b_law:G→M Out :=
 (bCons (sAsg (eFn 1 m__law_pool (aCons (eVar 0) aNil)) (gN 1)) (bCons (sAsg (e2 (fEq false) (eFn 2 m__law_draw (aCons (eVar 1) (aCons (fun _=>pure (.int 4)) aNil))) (fun _=>pure (.int 0))) (gN 2)) (bCons (sAsg (eFn 2 m__law_great_machine (aCons (eVar 1) (aCons (eFn 2 m__law_names (aCons (eVar 1) (aCons (fun _=>pure (.int 1)) aNil))) aNil))) (gN 3)) (bCons (sIf (cVal (eVar 2)) (bCons (sAsg (eFn 2 m__law_ring (aCons (eVar 1) (aCons (eVar 3) aNil))) (gN 3)) bNil) bNil) (bCons (sAsg (eFn 2 m__law_some (aCons (eVar 1) (aCons (eCall fLen (aCons (e2 fIx (eVar 3) (fun _=>pure (.int 0))) aNil)) aNil))) (gN 4)) (bCons (sAsg (eFn 2 m_strong_parts (aCons (eVar 3) (aCons (eVar 4) aNil))) (gN 5)) (bCons (sAsg (eFn 3 m__law_placed (aCons (eVar 3) (aCons (eVar 4) (aCons (eVar 5) aNil)))) (gN 6)) (bCons (sIf (fun γ=>do let d ← e2 (fIs false) (eVar 6) (fun _=>pure .non) γ; asB d) (bCons (sRet (fun _=>pure (.bl false))) bNil) bNil) (bCons (sAsg (eFn 1 m__law_back (aCons (eVar 3) aNil)) (gN 7)) (bCons (sFor (iSeqL (eVar 5)) (gN 8) (bCons (sAsg (eFn 3 m__law_walk (aCons (e2 fIx (eVar 3) (fun _=>pure (.int 0))) (aCons (eVar 4) (aCons (e2 fIx (eVar 8) (fun _=>pure (.int 0))) aNil)))) (gN 9)) (bCons (sAsg (eFn 3 m__law_walk (aCons (eVar 7) (aCons (eVar 4) (aCons (e2 fIx (eVar 8) (fun _=>pure (.int 0))) aNil)))) (gN 10)) (bCons (sIf (fun γ=>do let d ← e2 (fEqX true) (eCall fList (aCons (eVar 8) aNil)) (eCall fSorted (aCons (eComp [some 10,none] (iSeqL (eVar 9)) (gN 1) (fun γ=>do let d ← e2 (fIn false) (eVar 1) (eVar 0) γ; asB d) (eVar 1)) aNil)) γ; asB d) (bCons (sRet (fun _=>pure (.bl false))) bNil) bNil) bNil)))) (bCons (sFor (iSeqT (eVar 4)) (gN 11) (bCons (sFor (iSeqT (e2 fIx (e2 fIx (eVar 3) (fun _=>pure (.int 0))) (eVar 11))) (gN 12) (bCons (sIf (cAnd (fun γ=>do let d ← e2 (fIn false) (eVar 12) (eVar 4) γ; asB d) (fun γ=>do let d ← e2 fGt (e2 fIx (eVar 6) (eVar 12)) (e2 fIx (eVar 6) (eVar 11)) γ; asB d)) (bCons (sRet (fun _=>pure (.bl false))) bNil) bNil) bNil)) bNil)) (bCons (sAsg (eCall fList (aCons (eVar 5) aNil)) (gN 13)) (bCons (sExpr (eM0 fClear (eVar 5))) (bCons (sRet (e2 (fEqX false) (eFn 2 m_strong_parts (aCons (eVar 3) (aCons (eVar 4) aNil))) (eVar 13))) bNil))))))))))))))
noncomputable def m_law:List D→M D:=runF 14 b_law
theorem sc_law:FnScope ["_law_script","_law_pool_here","_law_ring_here","_law_machine","_law_within","_law_found","_law_place","_law_back_here","_law_part","_law_there","_law_here","_law_one","_law_to","_law_kept"] ["_law_script"] (defScope (top 24)):=⟨rfl,rfl,rfl,by decide +kernel,rfl,by decide +kernel,by decide +kernel⟩
end FT
set_option maxHeartbeats 2000000
namespace FT
open PySem PySem.Spec PyProof.Rows L2
theorem draw1 (g0:Int) (gr sm:List Int) (s c:Int) (r:AH) (n:Int) (hn:0 < n) (hn2:n < 1073741824) (hg:gr.length ≤ 63) :
 ∃ gr',gr'.length ≤ gr.length + 1∧m__law_draw [.ref 2,.int n] (Pool (g0 :: gr) sm s c r) = .ok (.int (g0 % n)) (Pool gr' sm s c r):=by
 unfold m__law_draw runF b__law_draw Pool startG
 have hl:gr.length ≤ sizeLine:=Nat.le_trans hg (by decide)
 by_cases h0:g0 / n = 0
 ·refine ⟨gr,by omega,?_⟩
  simp [bCons,bNil,sIf,sAsg,sRet,sExpr,e2,eCall,aCons,aNil,eVar,fIx,seqD,getL,fLen,fGt,fCmp,fI,asB,gIx,gN,fSet,fDiv,fIC,eM1,asRef,fPopAt,updL,fEq,eqD,fMod,atI,ixN,hn,hn2,h0,seqIndex?,hl]
 ·refine ⟨g0 / n :: gr,by simp,?_⟩
  simp [bCons,bNil,sIf,sAsg,sRet,sExpr,e2,eCall,aCons,aNil,eVar,fIx,seqD,getL,fLen,fGt,fCmp,fI,asB,gIx,gN,fSet,fDiv,fIC,eM1,asRef,fPopAt,updL,fEq,eqD,fMod,atI,ixN,hn,hn2,h0]
theorem draw2 (sm:List Int) (s c:Int) (r:AH) (n:Int) (hn:0 < n) (hn2:n < 1073741824) (hs:0 ≤ s) (hs2:s < 2147483647) (hc:0 ≤ c) (hc2:c < 1000000) (hm:sm.length ≤ 63) :
 ∃ s' d,m__law_draw [.ref 2,.int n] (Pool [] sm s c r) = .ok (.int d) (Pool [] sm s' (c + 1) r)∧0 ≤ d∧d < n∧0 ≤ s'∧s' < 2147483647:=by
 have k1:-18446744073709551616 < c + 1:=by omega
 have k2:c + 1 < 18446744073709551616:=by omega
 have k3:-18446744073709551616 < s:=by omega
 have k4:s < 18446744073709551616:=by omega
 have key:∀ x:Int,(∃ y:Int,m__law_draw [.ref 2,.int n] (Pool [] sm s c r) = .ok (.int ((((s * 48271 + x % 2147483629 * ((c + 1) * (c + 1) + 1) + 97 * (c + 1)) % 2147483647) ^ 5) % 2147483629 / 64 % n)) (Pool [] sm ((s * 48271 + x % 2147483629 * ((c + 1) * (c + 1) + 1) + 97 * (c + 1)) % 2147483647) (c + 1) r)) →
  ∃ s' d,m__law_draw [.ref 2,.int n] (Pool [] sm s c r) = .ok (.int d) (Pool [] sm s' (c + 1) r)∧0 ≤ d∧d < n∧0 ≤ s'∧s' < 2147483647:=fun x ⟨_,e⟩ =>
  ⟨_,_,e,Int.emod_nonneg _ (by omega),Int.emod_lt_of_pos _ hn,Int.emod_nonneg _ (by decide),Int.emod_lt_of_pos _ (by decide)⟩
 have p1:∀ z:Int,-18446744073709551616 < z % 2147483647:=fun z=>by omega
 have p2:∀ z:Int,z % 2147483647 < 18446744073709551616:=fun z=>by omega
 have p3:∀ z:Int,-18446744073709551616 < z % 2147483629:=fun z=>by omega
 have p4:∀ z:Int,z % 2147483629 < 18446744073709551616:=fun z=>by omega
 cases sm with
 | nil =>
  refine key 0 ⟨0,?_⟩
  unfold m__law_draw runF b__law_draw Pool startG
  simp [bCons,bNil,sIf,sAsg,sRet,sExpr,e2,eCall,aCons,aNil,eVar,fIx,seqD,getL,fLen,fGt,fCmp,fI,asB,gIx,gN,fSet,fDiv,fIC,eM1,asRef,fPopAt,updL,fEq,eqD,fMod,fAdd,fMul,fMul2,fPow,atI,ixN,hn,hn2,k1,k2,k3,k4,p1,p2,p3,p4]
 | cons m0 sm =>
  have hl:(0:Int) < (sm.length:Int) + 1:=by omega
  have hi:0 ≤ (c + 1) % ((sm.length:Int) + 1):=Int.emod_nonneg _ (by omega)
  have hi2:(c + 1) % ((sm.length:Int) + 1) < (sm.length:Int) + 1:=Int.emod_lt_of_pos _ hl
  obtain ⟨x,hx⟩:∃ x,(D.int m0 :: sm.map D.int)[((c + 1) % ((sm.length:Int) + 1)).toNat]? = some (.int x):=by
   have e:(D.int m0 :: sm.map D.int) = (m0 :: sm).map D.int:=rfl
   rw [e,List.getElem?_map,List.getElem?_eq_getElem (by simp; omega)]
   exact ⟨_,rfl⟩
  have hx2:∀ hj,(D.int m0 :: List.map D.int sm)[((c + 1) % ((sm.length:Int) + 1)).toNat]'hj = D.int x:=fun hj=>Option.some.inj ((List.getElem?_eq_getElem hj).symm.trans hx)
  refine key x ⟨0,?_⟩
  unfold m__law_draw runF b__law_draw Pool startG
  simp [bCons,bNil,sIf,sAsg,sRet,sExpr,e2,eCall,aCons,aNil,eVar,fIx,seqD,getL,fLen,fGt,fCmp,fI,asB,gIx,gN,fSet,fDiv,fIC,eM1,asRef,fPopAt,updL,fEq,eqD,fMod,fAdd,fMul,fMul2,fPow,atI,ixN,hn,hn2,k1,k2,k3,k4,p1,p2,p3,p4,hi,hi2,hl,hx,hx2]
theorem draw {h:AH} {k n:Int} {r:AH} (p:PS h k r) (hk:k < 1000000) (hn:0 < n) (hn2:n < 1073741824):∃ d h',m__law_draw [.ref 2,.int n] h = .ok (.int d) h'∧0 ≤ d∧d < n∧PS h' (k + 1) r:=by
 obtain ⟨gr,sm,s,c,rfl,h1,h2,h3,h4,h5,h6⟩:=p
 cases gr with
 | nil =>
  obtain ⟨s',d,e,q1,q2,q3,q4⟩:=draw2 sm s c r n hn hn2 h1 h2 h3 (by omega) h6
  exact ⟨d,_,e,q1,q2,[],sm,s',c + 1,rfl,q3,q4,by omega,by omega,by simp,h6⟩
 | cons g0 gr =>
  simp at h5
  obtain ⟨gr',l,e⟩:=draw1 g0 gr sm s c r n hn hn2 (by omega)
  exact ⟨_,_,e,Int.emod_nonneg _ (by omega),Int.emod_lt_of_pos _ hn,gr',sm,s,c,rfl,h1,h2,h3,by omega,by omega,h6⟩
theorem w_draw {h:AH} {k n:Int} {r:AH} {Q:D→AH→Prop} (p:PS h k r) (hk:k < 1000000) (hn:0 < n) (hn2:n < 1073741824) (z:∀ d h',0 ≤ d→d < n→PS h' (k + 1) r→Q (.int d) h'):W (m__law_draw [.ref 2,.int n]) h Q:=by
 obtain ⟨d,h',e,d0,d1,p'⟩:=draw p hk hn hn2
 exact ⟨_,_,e,z d h' d0 d1 p'⟩
theorem law_pool {ns:List Int} (hn:ns.length ≤ 63):W (m__law_pool [.fl (ns.map .int)]) [] (fun d h'=>d = .ref 2∧PS h' 0 []):=by
 refine w_run ?_
 show W (b__law_pool [some (.fl (ns.map .int)),none]) [] _
 unfold b__law_pool sComp'
 rw [w_cons]; simp only [List.set_cons_succ,List.set_cons_zero,W_bind,W_pure,contW_nx,e2,eVar,gN,sAsg]
 have src:∀ (γ:G) (h:AH),γ[0]? = some (some (.fl (ns.map .int)))→iSeqL (eVar 0) γ h = .ok (.con (ns.map .int)) h:=fun γ h e=>by
  unfold iSeqL eVar
  rw [e]
  rfl
 refine W.of (comp_px (src:=.con (ns.map .int)) (fun d=>match d with | .int t=>decide (1000000000000000000 ≤ t) | _=>false) (fun d=>d) (src _ _ rfl) (fun _=>trivial) (by simp [Src.items]; omega) fun d hd=>?_) ?_
 ·obtain ⟨t,ht,rfl⟩:=List.mem_map.mp hd
  refine ⟨[some (.int t)],fun h=>rfl,fun j=>?_,fun _ j=>rfl⟩
  simp only [List.getElem?_cons_zero,bindM,pureM,pow18,ge_ii,asB_bl]
 rw [show (Src.con (ns.map D.int)).items = ns.map D.int from rfl,map_filter_int]
 rw [w_cons]; simp only [List.getElem?_cons_succ,List.getElem?_cons_zero,List.length_nil,W_bind,W_pure,aCons,aNil,contW_rt,eLst,eVar,sRet]
 refine W.of (comp_px (src:=.con (ns.map .int)) (fun d=>match d with | .int t=>decide (t < 1000000000000000000) | _=>false) (fun d=>d) (src _ _ rfl) (fun _=>trivial) (by simp [Src.items]; omega) fun d hd=>?_) ?_
 ·obtain ⟨t,ht,rfl⟩:=List.mem_map.mp hd
  refine ⟨[some (.int t)],fun h=>rfl,fun j=>?_,fun _ j=>rfl⟩
  simp only [List.getElem?_cons_zero,bindM,pureM,pow18,lt_ii,asB_bl]
 rw [show (Src.con (ns.map D.int)).items = ns.map D.int from rfl,map_filter_int]
 refine W.of (a:=.ref 2) (h':=Pool (ns.filter fun i=>decide (1000000000000000000 ≤ i)) (ns.filter fun i=>decide (i < 1000000000000000000)) 5 0 []) ?_ ?_
 ·unfold newL
  rw [if_pos (by simp; decide)]
  rfl
 ·refine ⟨rfl,_,_,5,0,rfl,by decide,by decide,by decide,by decide,?_,?_⟩
  ·exact Nat.le_trans (List.length_filter_le _ _) hn
  ·exact Nat.le_trans (List.length_filter_le _ _) hn
theorem law_name0 {h:AH} {k:Int} {r:AH} {i:Nat} {start:Str} {ns:List Str} (p:PS h k r) (hk:k < 900000) (lo:low start) (hs:start.length ≤ 4) (e:r[i]? = some (.lst (ns.map .str))) (hn:ns.length ≤ 7) :
 W (runF 9 b__law_name [.ref 2,.str start,.ref (i + 3)]) h (fun d h'=>∃ x j,d = .str x∧PS h' (k + 5) (r++j)∧goodN x∧x ∉ ns):=by
 refine w_run ?_
 show W (b__law_name [some (.ref 2),some (.str start),some (.ref (i + 3)),none,none,none,none,none,none]) h _
 unfold b__law_name
 rw [show ("abcdefghijklmnopqrstuvwxyz":Str) = abc from rfl]
 rw [w_cons]; simp only [List.set_cons_succ,List.set_cons_zero,W_bind,W_pure,contW_nx,e2,eVar,gN,sAsg]
 rw [w_cons]; simp only [List.getElem?_cons_succ,List.getElem?_cons_zero,List.set_cons_succ,List.set_cons_zero,W_bind,W_pure,contW_nx,eVar,gN,sAsg]
 rw [w_cons]
 refine for_range (fun c γ h=>∃ x w,γ = [some (.ref 2),some (.str start),some (.ref (i + 3)),some (.str abc),some (.str x),w,none,none,none]∧PS h (k + 1 + c) r∧low x∧x.length ≤ 4 + c) (fun _ _=>False) ?_
 simp only [List.getElem?_cons_zero,List.length_cons,List.length_nil,Nat.reduceAdd,W_bad,W_bind,W_ite,W_pure,aCons,aNil,contW_nx,contW_rt,eFn,eVar,if_true]
 refine w_draw p (by omega) (by decide) (by decide) fun d h1 d0 d1 p1=>?_
 refine ⟨d.toNat,by rw [Int.toNat_of_nonneg d0],by omega,⟨start,none,rfl,by simpa using p1,lo,by omega⟩,?_,?_,fun _ _ q=>q.elim⟩
 ·rintro c γ h2 hc ⟨x,w,rfl,p2,lx,hx⟩
  rw [w_cons]; simp only [List.getElem?_cons_succ,List.getElem?_cons_zero,List.length_cons,List.length_nil,List.set_cons_succ,List.set_cons_zero,Nat.reduceAdd,W_bad,W_bind,W_ite,W_pure,aCons,aNil,contW_nx,e2,eFn,eVar,gN,if_true,sAsg,w_nil]
  refine w_draw p2 (by omega) (by decide) (by decide) fun d h1 d0 d1 p1=>?_
  refine w_letter (k:=k) (r:=r) d0 d1 (by omega) ?_
  refine ⟨_,_,rfl,p1.up (by omega),low_app lx (by omega) (by omega),by rw [len_app,one_len]; omega⟩
 rintro γ h2 ⟨x,w,rfl,p2,lx,hx⟩
 rw [w_cons]; simp only [List.getElem?_cons_zero,List.length_cons,List.length_nil,List.set_cons_succ,List.set_cons_zero,Nat.reduceAdd,W_bad,W_bind,W_ite,W_pure,aCons,aNil,contW_nx,eFn,eVar,gN,if_true,sAsg]
 refine w_draw (p2.up (show _ ≤ k + 4 by omega)) (by omega) (by decide) (by decide) fun l h3 l0 l1 p3=>?_
 rw [w_cons]; simp only [List.set_cons_succ,List.set_cons_zero,W_bind,W_pure,aCons,aNil,contW_nx,eLst,gN,sAsg]
 rw [show [D.str "yes",D.str "no",D.str "not",D.str "and",D.str "or",D.str "step",D.str "some",D.str "all",D.str "next",D.str "once",D.str "ever",D.str "until",D.str "unless"] = words.map D.str from rfl]
 refine w_newL p3 (by decide) fun h4 p4=>?_
 rw [w_cons]
 refine for_range (fun c γ h=>∃ w w',γ = [some (.ref 2),some (.str start),some (.ref (i + 3)),some (.str abc),some (.str x),w,some (.int l),some (.ref (r.length + 3)),w']∧PS h (k + 5) (r++[.lst (words.map .str)])∧∀ c':Nat,c' < c→cand x l c' ∈ words∨cand x l c' ∈ ns) (fun d h=>∃ c:Nat,d = .str (cand x l c)∧cand x l c ∉ words∧cand x l c ∉ ns∧PS h (k + 5) (r++[.lst (words.map .str)])) ?_
 rw [W_pure]
 refine ⟨26,rfl,by decide,⟨_,_,rfl,p4.up (by omega),fun c' hc=>by omega⟩,?_,?_,?_⟩
 ·rintro c γ h5 hc ⟨w,w',rfl,p5,hb⟩
  rw [w_cons]; simp only [List.getElem?_cons_succ,List.getElem?_cons_zero,List.set_cons_succ,List.set_cons_zero,W_bind,W_pure,add_ii,contW_nx,e2,eVar,gN,sAsg]
  have m1:fMod (.int (l + c)) (.int 26) = pure (.int ((l + c) % 26)):=rfl
  rw [m1,W_pure]
  refine w_letter (k:=k) (r:=r) (Int.emod_nonneg _ (by decide)) (Int.emod_lt_of_pos _ (by decide)) (by omega) ?_
  rw [w_cons]; simp only [Bool.false_eq_true,List.getElem?_cons_succ,List.getElem?_cons_zero,W_bind,W_ite,W_pure,cAnd,contW_nx,if_false,sIf,w_nil]
  refine W.of (in_lst p5 at_new) ?_
  rw [asB_bl,W_pure]
  by_cases q1:cand x l c ∈ words
  ·have:(decide (x++{ cps:=#[((l + (c:Int)) % 26).toNat + 97] } ∈ words) != true) = false:=by
    rw [show decide (x++{ cps:=#[((l + (c:Int)) % 26).toNat + 97] } ∈ words) = true from decide_eq_true q1]; rfl
   rw [this]
   simp only [Bool.false_eq_true,if_false]
   refine ⟨_,_,rfl,p5,fun c' hc'=>?_⟩
   by_cases e':c' = c
   ·subst e'; exact .inl q1
   ·exact hb c' (by omega)
  ·have:(decide (x++{ cps:=#[((l + (c:Int)) % 26).toNat + 97] } ∈ words) != true) = true:=by
    rw [show decide (x++{ cps:=#[((l + (c:Int)) % 26).toNat + 97] } ∈ words) = false from decide_eq_false q1]; rfl
   rw [this]
   simp only [if_true]
   refine W.of (in_lst p5 (at_app e)) ?_
   by_cases q2:cand x l c ∈ ns
   ·have:(decide (x++{ cps:=#[((l + (c:Int)) % 26).toNat + 97] } ∈ ns) != true) = false:=by
     rw [show decide (x++{ cps:=#[((l + (c:Int)) % 26).toNat + 97] } ∈ ns) = true from decide_eq_true q2]; rfl
    rw [this]
    simp only [Bool.false_eq_true,W_pure,asB_bl,if_false]
    refine ⟨_,_,rfl,p5,fun c' hc'=>?_⟩
    by_cases e':c' = c
    ·subst e'; exact .inr q2
    ·exact hb c' (by omega)
   ·have:(decide (x++{ cps:=#[((l + (c:Int)) % 26).toNat + 97] } ∈ ns) != true) = true:=by
     rw [show decide (x++{ cps:=#[((l + (c:Int)) % 26).toNat + 97] } ∈ ns) = false from decide_eq_false q2]; rfl
    rw [this]
    simp only [W_pure,asB_bl,if_true]
    rw [w_cons]; simp only [List.getElem?_cons_succ,List.getElem?_cons_zero,W_bind,W_pure,contW_rt,eVar,sRet]
    exact ⟨c,rfl,q1,q2,p5⟩
 ·rintro γ h5 ⟨w,w',rfl,p5,hb⟩
  exact (pigeon l0 hn hb).elim
 ·rintro d h5 ⟨c,rfl,q1,q2,p5⟩
  refine ⟨cand x l c,[.lst (words.map .str)],rfl,p5,⟨?_,?_,?_,q1⟩,q2⟩
  ·unfold cand; rw [len_app,one_len]; omega
  ·unfold cand; rw [len_app,one_len]; omega
  ·exact low_app lx (by omega) (by omega)
theorem law_name {h:AH} {k:Int} {r:AH} {i:Nat} {start:Str} {ns:List Str} (p:PS h k r) (c:CL r) (hk:k < 900000) (lo:low start) (hs:start.length ≤ 4) (e:r[i]? = some (.lst (ns.map .str))) (hn:ns.length ≤ 7) :
 W (m__law_name [.ref 2,.str start,.ref (i + 3)]) h (fun d h'=>∃ x,d = .str x∧PS h' (k + 5) r∧goodN x∧x ∉ ns) :=
 W_cln p c ((law_name0 p hk lo hs e hn).mono fun d h1 ⟨x,j,e,p1,g,n⟩=>⟨_,j,p1,by subst e; rfl,fun h2 p2=>⟨x,e,p2,g,n⟩⟩)
theorem law_names {h:AH} {k:Int} {r:AH} {n:Nat} (p:PS h k r) (cl:CL r) (hk:k < 800000) (hn:n ≤ 8) {Q:D→AH→Prop} (z:∀ ns h',ns.length = n→NS ns→PS h' (k + 45) (r++[.lst (ns.map .str)])→Q (.ref (r.length + 3)) h') :
 W (m__law_names [.ref 2,.int n]) h Q:=by
 refine W_clnL p cl ?_
 refine w_run ?_
 show W (b__law_names [some (.ref 2),some (.int n),none,none,none,none]) h _
 unfold b__law_names
 rw [show ("abcdefghijklmnopqrstuvwxyz":Str) = abc from rfl]
 refine q_set (.str abc) _ rfl rfl ?_
 refine q_set (.str "") _ rfl rfl ?_
 rw [w_cons]
 refine for_range (fun c γ h=>∃ x w,γ = [some (.ref 2),some (.int n),some (.str abc),some (.str x),w,none]∧PS h (k + 1 + c) r∧low x∧x.length ≤ c) (fun _ _=>False) ?_
 refine W_clE p cl ?_
 simp only [List.getElem?_cons_zero,List.length_cons,List.length_nil,List.set_cons_succ,List.set_cons_zero,Nat.reduceAdd,W_bad,W_bind,W_ite,W_pure,aCons,aNil,contW_nx,contW_rt,e2,eFn,eLst,eVar,if_true]
 refine w_newL p (by decide) fun h1 p1=>?_
 refine w_draw p1 (by omega) (by decide) (by decide) fun d h2 d0 d1 p2=>?_
 obtain ⟨v,hv,ea⟩:∃ v:Nat,v ≤ 4∧atI [D.int 0,D.int 0,D.int 1,D.int 4] d = some (.int v):=by
  have:d = 0∨d = 1∨d = 2∨d = 3:=by omega
  rcases this with rfl | rfl | rfl | rfl
  ·exact ⟨0,by decide,rfl⟩
  ·exact ⟨0,by decide,rfl⟩
  ·exact ⟨1,by decide,rfl⟩
  ·exact ⟨4,by decide,rfl⟩
 refine w_ixr p2 at_new ea ?_
 refine ⟨_,_,p2,rfl,fun h2 p2=>⟨v,rfl,by omega,⟨_,none,rfl,by simpa using p2,low_nil,by rw [nil_len]; omega⟩,?_,?_,fun _ _ q=>q.elim⟩⟩
 ·rintro c γ h3 hc ⟨x,w,rfl,p3,lx,hx⟩
  rw [w_cons]; simp only [List.getElem?_cons_succ,List.getElem?_cons_zero,List.length_cons,List.length_nil,List.set_cons_succ,List.set_cons_zero,Nat.reduceAdd,W_bad,W_bind,W_ite,W_pure,aCons,aNil,contW_nx,e2,eFn,eVar,gN,if_true,sAsg,w_nil]
  refine w_draw p3 (by omega) (by decide) (by decide) fun d h1 d0 d1 p1=>?_
  refine w_letter (k:=k) (r:=r) d0 d1 (by omega) ?_
  refine ⟨_,_,rfl,p1.up (by omega),low_app lx (by omega) (by omega),by rw [len_app,one_len]; omega⟩
 rintro γ h3 ⟨x,w,rfl,p3,lx,hx⟩
 refine q_setw ?_
 simp only [List.set_cons_succ,List.set_cons_zero,W_bind,W_pure,aNil,eLst]
 refine w_newL p3 (by decide) fun h4 p4=>?_
 rw [w_cons]
 refine for_range (fun c γ h=>∃ ns w,γ = [some (.ref 2),some (.int n),some (.str abc),some (.str x),w,some (.ref (r.length + 3))]∧PS h (k + 5 + 5 * c) (r++[.lst (ns.map .str)])∧ns.length = c∧NS ns) (fun _ _=>False) ?_
 simp only [List.getElem?_cons_succ,List.getElem?_cons_zero,W_pure,contW_nx,contW_rt,eVar]
 refine ⟨n,rfl,by omega,⟨[],_,rfl,p4.up (by omega),rfl,⟨List.nodup_nil,by simp⟩⟩,?_,?_,fun _ _ q=>q.elim⟩
 ·rintro c γ h5 hc ⟨ns,w,rfl,p5,l5,n5⟩
  rw [w_cons]; simp only [List.getElem?_cons_succ,List.getElem?_cons_zero,List.length_cons,List.length_nil,List.set_cons_succ,List.set_cons_zero,Nat.reduceAdd,W_asRef,W_bad,W_bind,W_ite,W_pure,aCons,aNil,contW_nx,eFn,eM1,eVar,if_true,sExpr,w_nil]
  refine w_getL p5 at_new ?_
  refine (law_name p5 (cl.put (refs_strs ns)) (by omega) lx (by omega) at_new (by omega)).mono fun y h6 ⟨z,ey,p6,gz,nz⟩=>?_
  subst ey
  refine w_append p6 at_new (by simp; omega) fun h7 p7=>?_
  refine ⟨ns++[z],_,rfl,?_,by simp [l5],⟨?_,?_⟩⟩
  ·have:=p7.up (k':=k + 5 + 5 * ((c + 1:Nat):Int)) (by omega)
   simpa using this
  ·rw [List.nodup_append]
   refine ⟨n5.1,by simp,fun a ha b hb=>?_⟩
   simp at hb
   subst hb
   exact fun e=>nz (e ▸ ha)
  ·intro y hy
   rcases List.mem_append.mp hy with q | q
   ·exact n5.2 y q
   ·simp at q; subst q; exact gz
 ·rintro γ h5 ⟨ns,w,rfl,p5,l5,n5⟩
  exact q_ret _ rfl ⟨k + 45,_,r.length,_,rfl,p5.up (by omega),Nat.le_refl _,at_new,refs_strs ns,fun h2 p2=>z ns h2 l5 n5 p2⟩
theorem set_of_h {x:D} {l:List Nat} {h:AH} (e:seqD x h = .ok (stD l) h) (hl:l.length ≤ 2000) (hd:(setN l).length < 64):m_set_of [x] h = .ok (.tup (stD (setN l))) h:=by
 have dl:(dedN l).length = (setN l).length:=by unfold setN; rw [sortN_len]
 have e1:fSetOf [x] h = .ok (.ref h.length) (h++[.set (kN (dedN l))]):=by
  unfold fSetOf
  dsimp only
  rw [M.bind_ok e,keys_st]
  dsimp only
  rw [if_pos (by rw [kN_len]; omega),ded_kN]
  rfl
 have e2:fSortedS [.ref h.length] (h++[.set (kN (dedN l))]) = .ok (.ref (h.length + 1)) (h++[.set (kN (dedN l)),.lst (stD (setN l))]):=by
  unfold fSortedS
  dsimp only
  have g:getS h.length (h++[.set (kN (dedN l))]) = .ok (kN (dedN l)) (h++[.set (kN (dedN l))]):=by
   unfold getS; rw [show (h++[O.set (kN (dedN l))])[h.length]? = some (.set (kN (dedN l))) by simp]
  rw [M.bind_ok g,ints_kN]
  dsimp only
  rw [if_pos (by unfold zN; rw [List.length_map]; omega),sortN_int]
  unfold newL
  rw [if_pos (by rw [st_len,sortN_len]; unfold sizeLine; omega)]
  simp [setN]
 have e3:fTuple [.ref (h.length + 1)] (h++[.set (kN (dedN l)),.lst (stD (setN l))]) = .ok (.tup (stD (setN l))) (h++[.set (kN (dedN l)),.lst (stD (setN l))]):=by
  have ft:∀ i:Nat,fTuple [.ref i] = (do let x ← getL i; pure (.tup x)):=fun _=>rfl
  rw [ft]
  have g:getL (h.length + 1) (h++[.set (kN (dedN l)),.lst (stD (setN l))]) = .ok (stD (setN l)) (h++[.set (kN (dedN l)),.lst (stD (setN l))]):=by
   unfold getL; rw [show (h++[O.set (kN (dedN l)),O.lst (stD (setN l))])[h.length + 1]? = some (.lst (stD (setN l))) by simp]
  rw [M.bind_ok g]; rfl
 have e4:clE (eCall fTuple (aCons (eCall fSortedS (aCons (eCall fSetOf (aCons (eVar 0) aNil)) aNil)) aNil)) [some x] h = .ok (.tup (stD (setN l))) h:=by
  refine cln_of (j:=[.set (kN (dedN l)),.lst (stD (setN l))]) ?_ (by simp only [refLt]; exact refLts_map fun _=>rfl)
  exact call1_h (call1_h (call1_h (show eVar 0 [some x] h = .ok x h from rfl) e1) e2) e3
 have e5:runF 1 b_set_of [x] h = .ok (.tup (stD (setN l))) h:=run_h (q_reth (h1:=h) _ e4 ⟨rfl,rfl⟩)
 show cln (runF 1 b_set_of [x]) h = _
 refine cln_of (j:=[]) (by rw [List.append_nil]; exact e5) (by simp only [refLt]; exact refLts_map fun _=>rfl)
theorem set_of_r {l:List Nat} {h:AH} {n:Nat} (e:h[n]? = some (.lst (stD l))) (hl:l.length ≤ 2000) (hd:(setN l).length < 64):m_set_of [.ref n] h = .ok (.tup (stD (setN l))) h:=set_of_h (by unfold seqD getL; dsimp only; rw [e]) hl hd
noncomputable def rowI:G→M Src:=iSeqL (e2 fDget (eVar 0) (eVar 5))
def tkH (h:AH) (n:Nat) (T S P wt:List Nat):AH:=h.set n (.dK (kvN (T++S)))++[.lst (stD P),.lst (stD wt)]
section
variable {h:AH} {n:Nat} {T S P wt:List Nat} (hn:n < h.length)
include hn
theorem tk_n:(tkH h n T S P wt)[n]? = some (.dK (kvN (T++S))):=by
 unfold tkH; rw [List.getElem?_append_left (by simpa using hn),List.getElem?_set_self hn]
omit hn in
theorem tk_p:(tkH h n T S P wt)[h.length]? = some (.lst (stD P)):=by
 unfold tkH; rw [List.getElem?_append_right (by simp)]; simp
omit hn in
theorem tk_w:(tkH h n T S P wt)[h.length + 1]? = some (.lst (stD wt)):=by
 unfold tkH; rw [List.getElem?_append_right (by simp)]; simp
theorem tk_setn {x:Nat}:(tkH h n T S P wt).set n (.dK (kvN (T++S++[x]))) = tkH h n T (S++[x]) P wt:=by
 unfold tkH; rw [List.set_append_left _ _ (by simpa using hn),List.set_set,List.append_assoc]
omit hn in
theorem tk_setp {P':List Nat}:(tkH h n T S P wt).set h.length (.lst (stD P')) = tkH h n T S P' wt:=by
 unfold tkH; rw [List.set_append_right _ _ (by simp)]; simp
omit hn in
theorem tk_setw {wt':List Nat}:(tkH h n T S P wt).set (h.length + 1) (.lst (stD wt')) = tkH h n T S P wt':=by
 unfold tkH; rw [List.set_append_right _ _ (by simp)]; simp
omit hn in
theorem tk_old {i:Nat} (hi:i < h.length) (ne:i ≠ n):(tkH h n T S P wt)[i]? = h[i]?:=by
 unfold tkH; rw [List.getElem?_append_left (by simpa using hi),List.getElem?_set_ne (Ne.symm ne)]
end
theorem take_h {st:List (List Nat)} {ld:D} {T:List Nat} {x n N:Nat} {h:AH} (hT:h[n]? = some (.dK (kvN T))) (xT:x ∉ T) (nT:T.Nodup) (lT:∀ a ∈ T,a < N) (hN:N ≤ 60) (ln:∀ a,∀ b ∈ nx st a,b < N) (hx:x < N)
 (hrow:∀ h1:AH,(∀ i,i < h.length→i ≠ n→h1[i]? = h[i]?)→∀ a,RchT st T x a→∀ p w b,∃ src,rowI [some ld,some (.int x),some (.ref n),p,w,some (.int a),b] h1 = .ok src h1∧src.items = stD (nx st a)∧∀ h2:AH,(∀ i,i < h.length→i ≠ n→h2[i]? = h[i]?)→src.good h2) :
 ∃ S,m_take_from [ld,.int x,.ref n] h = .ok (.tup (stD (setN S))) (h.set n (.dK (kvN (T++S))))∧FndT st T x S∧∀ a ∈ S,∀ b ∈ nx st a,b ∈ S∨b ∈ T:=by
 have hn:n < h.length:=by
  by_cases q:n < h.length
  ·exact q
  ·rw [List.getElem?_eq_none (by omega)] at hT; cases hT
 have lT':T.length ≤ N:=nodup_len nT lT
 have lS:∀ {S},FndT st T x S→S.length ≤ N:=fun f=>nodup_len f.nd fun a ha=>rchT_lt ln hx (f.rc a ha)
 suffices z:W (runF 7 b_take_from [ld,.int x,.ref n]) h fun d h1=>∃ S P,d = .tup (stD (setN S))∧h1 = tkH h n T S P []∧FndT st T x S∧∀ a ∈ S,∀ b ∈ nx st a,b ∈ S∨b ∈ T by
  obtain ⟨d,h1,e,S,P,rfl,rfl,f,c⟩:=z
  refine ⟨S,?_,f,c⟩
  show cln (runF 7 b_take_from [ld,.int x,.ref n]) h = _
  unfold cln
  rw [e]
  have kp:h.length ≤ (tkH h n T S P []).length∧Kept h (tkH h n T S P []):=by
   refine ⟨by unfold tkH; simp,fun i o li eo=>?_⟩
   by_cases q:i = n
   ·subst q
    rw [tk_n hn] at eo
    cases eo
    refine .inr ?_
    simp only [refO]
    unfold kvN
    rw [List.map_map]
    exact refLts_map fun _=>rfl
   ·rw [tk_old li q] at eo; exact .inl eo
  dsimp only
  rw [if_pos kp]
  have r1:refLt h.length (.tup (stD (setN S))) = true:=by simp only [refLt]; exact refLts_map fun _=>rfl
  rw [if_pos r1]
  congr 1
  unfold tkH
  rw [List.take_append_of_le_length (by simp),List.take_of_length_le (by simp)]
 refine w_run ?_
 show W (b_take_from [some ld,some (.int x),some (.ref n),none,none,none,none]) h _
 unfold b_take_from
 refine q_dset rfl rfl hT xT (by omega) ?_
 refine q_new (xs:=[]) (by simp) (fun h=>rfl) ?_
 refine q_new (xs:=[.int x]) (by simp) (fun h=>rfl) ?_
 rw [show h.set n (O.dK (kvN (T++[x])))++[O.lst []]++[O.lst [D.int x]] = tkH h n T [x] [] [x] by unfold tkH; rw [List.append_assoc]; rfl]
 rw [show (h.set n (O.dK (kvN (T++[x])))++[O.lst []]).length = h.length + 1 by simp,show (h.set n (O.dK (kvN (T++[x])))).length = h.length by simp]
 refine w_seq (fun γ h'=>∃ S P a b,γ = [some ld,some (.int x),some (.ref n),some (.ref h.length),some (.ref (h.length + 1)),a,b]∧h' = tkH h n T S P []∧FndT st T x S∧(∀ a,a ∈ S ↔ a ∈ P)∧P.length = S.length∧∀ a ∈ S,∀ b ∈ nx st a,b ∈ S∨b ∈ T) ?_ ?_
 ·refine while_inv (fun m γ h'=>∃ S P wt a b,γ = [some ld,some (.int x),some (.ref n),some (.ref h.length),some (.ref (h.length + 1)),a,b]∧h' = tkH h n T S P wt∧FndT st T x S∧(∀ a,a ∈ S ↔ a ∈ P∨a ∈ wt)∧P.length + wt.length = S.length∧(∀ a ∈ S,a ∈ wt∨∀ b ∈ nx st a,b ∈ S∨b ∈ T)∧m + P.length = N) _ _ ?_ 1000000 N _ _ (by omega) ⟨[x],[],[x],none,none,rfl,rfl,FndT.one xT,by simp,rfl,by simp,by simp⟩
  rintro m γ h4 ⟨S,P,wt,a,b,rfl,rfl,fn,mem,len,cl,me⟩
  have sl:=lS fn
  refine W_of (cval_h rfl tk_w) ?_
  cases hw:wt.reverse with
  | nil =>
   have:wt = []:=by simpa using hw
   subst this
   rw [if_neg (by simp [stD])]
   exact ⟨S,P,a,b,rfl,rfl,fn,fun a=>by simpa using mem a,by simpa using len,fun a ha=>by simpa using cl a ha⟩
  | cons y yr =>
   obtain ⟨wr,rfl⟩:∃ wr,wt = wr++[y]:=⟨yr.reverse,by rw [← List.reverse_reverse wt,hw]; simp⟩
   rw [if_pos (by simp [stD])]
   simp at len
   have yS:y ∈ S:=(mem y).mpr (.inr (by simp))
   refine ⟨m - 1,by omega,?_⟩
   refine q_pop (i:=h.length + 1) (xs:=stD wr) (v:=.int y) rfl (by rw [st_snoc]; exact tk_w) (by rw [st_len]; omega) ?_
   rw [tk_setw]
   refine q_append (i:=h.length) (xs:=stD P) (v:=.int y) rfl tk_p (by rw [st_len]; omega) rfl ?_
   rw [st_snoc,tk_setp]
   refine w_seq (fun γ h'=>∃ S wt b,γ = [some ld,some (.int x),some (.ref n),some (.ref h.length),some (.ref (h.length + 1)),some (.int y),b]∧h' = tkH h n T S (P++[y]) wt∧FndT st T x S∧(∀ a,a ∈ S ↔ a ∈ P++[y]∨a ∈ wt)∧P.length + 1 + wt.length = S.length∧(∀ a ∈ S,a ∈ wt∨a = y∨∀ b ∈ nx st a,b ∈ S∨b ∈ T)∧∀ b ∈ nx st y,b ∈ S∨b ∈ T) ?_ ?_
   ·refine for_src (fun c γ h'=>∃ S wt b,γ = [some ld,some (.int x),some (.ref n),some (.ref h.length),some (.ref (h.length + 1)),some (.int y),b]∧h' = tkH h n T S (P++[y]) wt∧FndT st T x S∧(∀ a,a ∈ S ↔ a ∈ P++[y]∨a ∈ wt)∧P.length + 1 + wt.length = S.length∧(∀ a ∈ S,a ∈ wt∨a = y∨∀ b ∈ nx st a,b ∈ S∨b ∈ T)∧∀ i b,i < c→(nx st y)[i]? = some b→b ∈ S∨b ∈ T) (fun _ _=>False) ?_
    obtain ⟨src,e1,e2,e3⟩:=hrow (tkH h n T S (P++[y]) wr) (fun i hi ne=>tk_old hi ne) y (fn.rc y yS) (some (.ref h.length)) (some (.ref (h.length + 1))) b
    refine W_of e1 ?_
    rw [e2]
    refine ⟨⟨S,wr,b,rfl,rfl,fn,fun a=>?_,by omega,fun a ha=>?_,fun i b hi=>by omega⟩,?_,?_,?_,fun _ _ q=>q.elim⟩
    ·rw [mem a]; simp only [List.mem_append,List.mem_singleton]
     constructor
     ·rintro (q | q | q)
      ·exact .inl (.inl q)
      ·exact .inr q
      ·exact .inl (.inr q)
     ·rintro ((q | q) | q)
      ·exact .inl q
      ·exact .inr (.inr q)
      ·exact .inr (.inl q)
    ·rcases cl a ha with q | q
     ·rcases List.mem_append.mp q with q | q
      ·exact .inl q
      ·simp at q; exact .inr (.inl q)
     ·exact .inr (.inr q)
    ·rintro i γ h' ⟨S,wt,b,rfl,rfl,_⟩
     exact e3 _ fun i hi ne=>tk_old hi ne
    ·rintro c d γ h6 hd ⟨S,wt,b,rfl,rfl,fn,mem,len,cl,hc⟩
     obtain ⟨e,rfl,he⟩:=st_get hd
     have en:e ∈ nx st y:=List.mem_of_getElem? he
     have yS:y ∈ S:=(mem y).mpr (.inl (by simp))
     have sl:=lS fn
     refine W_of (show gN 6 (.int e) [some ld,some (.int x),some (.ref n),some (.ref h.length),some (.ref (h.length + 1)),some (.int y),b] _ = .ok [some ld,some (.int x),some (.ref n),some (.ref h.length),some (.ref (h.length + 1)),some (.int y),some (.int e)] _ from rfl) ?_
     have f1:FT.e2 (fInD true) (eVar 6) (eVar 2) [some ld,some (.int x),some (.ref n),some (.ref h.length),some (.ref (h.length + 1)),some (.int y),some (.int (e:Int))] (tkH h n T S (P++[y]) wt) = .ok (.bl (decide (e ∈ T++S) != true)) (tkH h n T S (P++[y]) wt):=by
      exact w_inD (tk_n hn)
     refine q_ifh _ (cb_h f1) ?_
     by_cases eS:e ∈ T++S
     ·rw [decide_eq_true eS]
      rw [if_neg (by decide)]
      refine q_nil (q_done ⟨S,wt,_,rfl,rfl,fn,mem,len,cl,fun i b hi hb=>?_⟩)
      by_cases ic:i = c
      ·subst ic; rw [he] at hb; cases hb; exact (List.mem_append.mp eS).symm
      ·exact hc i b (by omega) hb
     ·rw [decide_eq_false eS]
      rw [if_pos (by decide)]
      have eT:e ∉ T:=fun q=>eS (List.mem_append_left _ q)
      have eS':e ∉ S:=fun q=>eS (List.mem_append_right _ q)
      have fn2:=fn.put yS en eS' eT
      have sl2:=lS fn2
      simp at sl2
      refine q_blk ?_
      refine q_dset (l:=T++S) (x:=e) rfl rfl (tk_n hn) eS (by simp; omega) ?_
      rw [tk_setn hn]
      refine q_blk ?_
      refine q_append (i:=h.length + 1) (xs:=stD wt) (v:=.int e) rfl tk_w (by rw [st_len]; omega) rfl ?_
      rw [st_snoc,tk_setw]
      refine q_nil (q_done ⟨S++[e],wt++[e],_,rfl,rfl,fn2,fun a=>?_,by simp; omega,fun a ha=>?_,fun i b hi hb=>?_⟩)
      ·rw [List.mem_append,mem a,List.mem_append (s:=wt)]; exact or_assoc
      ·rcases List.mem_append.mp ha with q | q
       ·rcases cl a q with q | q | q
        ·exact .inl (List.mem_append_left _ q)
        ·exact .inr (.inl q)
        ·exact .inr (.inr fun b hb=>(q b hb).imp (List.mem_append_left _) id)
       ·exact .inl (List.mem_append_right _ q)
      ·by_cases ic:i = c
       ·subst ic; rw [he] at hb; cases hb; exact .inl (by simp)
       ·exact (hc i b (by omega) hb).imp (List.mem_append_left _) id
    ·rintro γ h6 ⟨S,wt,b,rfl,rfl,fn,mem,len,cl,hc⟩
     refine ⟨S,wt,b,rfl,rfl,fn,mem,len,cl,fun b hb=>?_⟩
     obtain ⟨i,hi,e⟩:=List.getElem_of_mem hb
     exact hc i b (by simpa [st_len] using hi) (by rw [← e]; exact List.getElem?_eq_getElem hi)
   ·rintro γ h6 ⟨S,wt,b,rfl,rfl,fn,mem,len,cl,all⟩
    have sl:=lS fn
    refine q_done ⟨m - 1,Nat.le_refl _,S,P++[y],wt,_,_,rfl,rfl,fn,mem,by simp; omega,fun a ha=>?_,by simp; omega⟩
    rcases cl a ha with q | q | q
    ·exact .inl q
    ·subst q; exact .inr all
    ·exact .inr q
 ·rintro γ h4 ⟨S,P,a,b,rfl,rfl,fn,mem,len,cl⟩
  have sl:=lS fn
  have sz:setN P = setN S:=setN_ext fun x=>(mem x).symm
  have lz:(setN S).length ≤ N:=setN_len fun a ha=>rchT_lt ln hx (fn.rc a ha)
  refine q_reth (h1:=tkH h n T S P []) (.tup (stD (setN S))) ?_ ⟨S,P,rfl,rfl,fn,cl⟩
  have e1:m_set_of [.ref h.length] (tkH h n T S P []) = .ok (.tup (stD (setN P))) (tkH h n T S P []):=set_of_r tk_p (by omega) (by rw [sz]; omega)
  rw [sz] at e1
  simp only [List.getElem?_cons_succ,List.getElem?_cons_zero,List.length_cons,List.length_nil,Nat.reduceAdd,aCons,aNil,bindP,eFn,eVar,if_true]
  exact e1
def stepR (b0 b1:Int) (m:Nat):List Nat:=(List.range m).filter fun (i:Nat)=>decide (Builtin.bitAnd ((if (i:Int) / 20 = 0 then b0 else b1) / 2 ^ ((i:Int) % 20).toNat) 1 = 1)
theorem bits_h {γ:G} {m z:Nat} {b0 b1:Int} {h:AH} (e2':γ[2]? = some (some (.int m))) (e7:γ[7]? = some (some (.ref z))) (hz:h[z]? = some (.lst [.int b0,.int b1])) (hm:m ≤ 40) :
 clE (eCall fTuple (aCons (eComp [some 7,none] (iRange (eVar 2)) (gN 1) (fun γ=>do let d ← e2 (fEq false) (e2 fAnd (e2 fShr (e2 fIx (eVar 0) (e2 fDiv (eVar 1) (fun _=>pure (.int 20)))) (e2 fMod (eVar 1) (fun _=>pure (.int 20)))) (fun _=>pure (.int 1))) (fun _=>pure (.int 1)) γ; asB d) (eVar 1)) aNil)) γ h = .ok (.tup (stD (stepR b0 b1 m))) h:=by
 refine clTup_h ?_ (refs_st _)
 refine (comp_px (src:=.con (intsD m)) (fun d=>match d with | .int t=>decide (Builtin.bitAnd ((if t / 20 = 0 then b0 else b1) / 2 ^ (t % 20).toNat) 1 = 1) | _=>false) (fun d=>d) (range_src (by unfold eVar; rw [e2']; rfl) (by omega)) (fun _=>trivial) (by simp [Src.items,intsD]; omega) fun d hd=>?_).trans ?_
 ·obtain ⟨t,ht,et⟩:=List.getElem_of_mem hd
  obtain ⟨e5,e6⟩:=intsD_get (show (intsD m)[t]? = some d by rw [← et]; exact List.getElem?_eq_getElem ht)
  subst e5
  refine ⟨[some (.ref z),some (.int t)],fun h=>by simp only [capG,List.map_cons,List.map_nil,e7,Option.join_some]; rfl,fun j=>?_,fun _ j=>rfl⟩
  have q2:atI [D.int b0,D.int b1] ((t:Int) / 20) = some (.int (if (t:Int) / 20 = 0 then b0 else b1)):=by
   have:(t:Int) / 20 = 0∨(t:Int) / 20 = 1:=by omega
   rcases this with q | q
   ·rw [q]; rfl
   ·rw [q]; rfl
  have q1:fIx (.ref z) (.int ((t:Int) / 20)) (h++j) = .ok (.int (if (t:Int) / 20 = 0 then b0 else b1)) (h++j):=ix_h (by rw [List.getElem?_append_left (List.getElem?_eq_some_iff.mp hz).1]; exact hz) q2
  have q3:fDiv (.int t) (.int 20) = pure (.int ((t:Int) / 20)):=rfl
  have q4:fMod (.int t) (.int 20) = pure (.int ((t:Int) % 20)):=rfl
  have q5:∀ x:Int,fShr (.int x) (.int ((t:Int) % 20)) = pure (.int (x / 2 ^ ((t:Int) % 20).toNat)):=fun x=>shr_ii (by omega)
  have an:∀ x y:Int,fAnd (.int x) (.int y) = pure (.int (Builtin.bitAnd x y)):=fun _ _=>rfl
  simp only [FT.e2,eVar,List.getElem?_cons_zero,List.getElem?_cons_succ,bindM,pureM,q3,q1,q4,q5,an,eq_ii,asB_bl]
  simp
 ·rw [show (Src.con (intsD m)).items = intsD m from rfl,ints_filter]
  rfl
theorem worn_h {γ:G} {i:Nat} {ns:List Str} {wo:Int} {h:AH} (e1:γ[1]? = some (some (.ref i))) (e8:γ[8]? = some (some (.int wo))) (hi:h[i]? = some (.lst (ns.map .str))) (hn:ns.length ≤ 8) :
 clE (eCall fTuple (aCons (eCall fSorted (aCons (eComp [some 1,some 8,none] (iRange (eCall fLen (aCons (eVar 1) aNil))) (gN 2) (fun γ=>do let d ← e2 (fEq false) (e2 fAnd (e2 fShr (eVar 1) (eVar 2)) (fun _=>pure (.int 1))) (fun _=>pure (.int 1)) γ; asB d) (e2 fIx (eVar 0) (eVar 2))) aNil)) aNil)) γ h = .ok (.tup ((sortS (pick ns fun t=>decide (Builtin.bitAnd (wo / 2 ^ t) 1 = 1))).map .str)) h:=by
 have pe:(((intsD ns.length).filter fun d=>match d with | .int t=>decide (Builtin.bitAnd (wo / 2 ^ t.toNat) 1 = 1) | _=>false).map fun d=>match d with | .int t=>D.str ((ns[t.toNat]?).getD "") | _=>.non) = (pick ns fun t=>decide (Builtin.bitAnd (wo / 2 ^ t) 1 = 1)).map .str:=by
  rw [ints_filter]
  unfold pick
  rw [List.map_map]
  rfl
 have lp:=pick_len ns fun t=>decide (Builtin.bitAnd (wo / 2 ^ t) 1 = 1)
 have c1:eComp [some 1,some 8,none] (iRange (eCall fLen (aCons (eVar 1) aNil))) (gN 2) (fun γ=>do let d ← e2 (fEq false) (e2 fAnd (e2 fShr (eVar 1) (eVar 2)) (fun _=>pure (.int 1))) (fun _=>pure (.int 1)) γ; asB d) (e2 fIx (eVar 0) (eVar 2)) γ h = .ok (.ref h.length) (h++[.lst ((pick ns fun t=>decide (Builtin.bitAnd (wo / 2 ^ t) 1 = 1)).map .str)]):=by
  refine (comp_px (src:=.con (intsD ns.length)) (fun d=>match d with | .int t=>decide (Builtin.bitAnd (wo / 2 ^ t.toNat) 1 = 1) | _=>false) (fun d=>match d with | .int t=>.str ((ns[t.toNat]?).getD "") | _=>.non) (range_src ?_ (by omega)) (fun _=>trivial) (by simp [Src.items,intsD]; omega) fun d hd=>?_).trans ?_
  ·refine call1_h (d:=.ref i) (h1:=h) (by unfold eVar; rw [e1]; rfl) ?_
   rw [len_h hi,List.length_map]
  ·obtain ⟨t,ht,et⟩:=List.getElem_of_mem hd
   obtain ⟨e5,e6⟩:=intsD_get (show (intsD ns.length)[t]? = some d by rw [← et]; exact List.getElem?_eq_getElem ht)
   subst e5
   refine ⟨[some (.ref i),some (.int wo),some (.int t)],fun h=>by simp only [capG,List.map_cons,List.map_nil,e1,e8,Option.join_some]; rfl,fun j=>?_,fun _ j=>?_⟩
   ·have q5:fShr (.int wo) (.int t) = pure (.int (wo / 2 ^ (t:Int).toNat)):=shr_ii (by omega)
    have an:∀ x y:Int,fAnd (.int x) (.int y) = pure (.int (Builtin.bitAnd x y)):=fun _ _=>rfl
    simp only [FT.e2,eVar,List.getElem?_cons_zero,List.getElem?_cons_succ,bindM,pureM,q5,an,eq_ii,asB_bl]
    simp
   ·have q2:atI (ns.map D.str) (t:Int) = some (.str ((ns[t]?).getD "")):=by
     refine atI_nat ?_
     rw [List.getElem?_map,List.getElem?_eq_getElem e6]
     rfl
    exact ix_h (by rw [List.getElem?_append_left (List.getElem?_eq_some_iff.mp hi).1]; exact hi) q2
  ·rw [show (Src.con (intsD ns.length)).items = intsD ns.length from rfl,pe]
 refine cln_of (j:=[.lst ((pick ns fun t=>decide (Builtin.bitAnd (wo / 2 ^ t) 1 = 1)).map .str),.lst ((sortS (pick ns fun t=>decide (Builtin.bitAnd (wo / 2 ^ t) 1 = 1))).map .str)]) ?_ (by simp only [refLt]; exact refs_strs _)
 refine call1_h (call1_h c1 (sortS_h (ss:=pick ns fun t=>decide (Builtin.bitAnd (wo / 2 ^ t) 1 = 1)) (by simp) (by omega))) ?_
 rw [List.append_assoc]
 exact tup_h (by simp)
theorem law_machine {h:AH} {k:Int} {r:AH} {i:Nat} {ns:List Str} (p:PS h k r) (hk:k < 700000) (e:r[i]? = some (.lst (ns.map .str))) (hn:ns.length ≤ 8) (hg:NS ns) {Q:D→AH→Prop} (z:∀ st mk h',MA st mk→PS h' (k + 203) r→Q (maD st mk) h') :
 W (m__law_great_machine [.ref 2,.ref (i + 3)]) h Q:=by
 refine W_cln p trivial ?_
 refine w_run ?_
 show W (b__law_great_machine [some (.ref 2),some (.ref (i + 3)),none,none,none,none,none,none,none]) h _
 unfold b__law_great_machine
 have i3:i < r.length:=lt_of_at e
 refine q_setJ (fun d h1=>∃ t:Int,0 ≤ t∧t < 40∧d = .int (1 + t)∧PS h1 (k + 1) r) ?_ ?_
 ·simp only [List.getElem?_cons_zero,List.length_cons,List.length_nil,Nat.reduceAdd,W_bad,W_bind,W_ite,W_pure,aCons,aNil,e2,eFn,eVar,if_true]
  refine w_draw p (by omega) (by decide) (by decide) fun d h1 d0 d1 p1=>?_
  rw [add_ii,W_pure]
  exact ⟨d,d0,d1,rfl,p1⟩
 rintro _ h1 ⟨t,t0,t1,rfl,p1⟩
 refine w_seq (fun γ h=>∃ m:Nat,1 ≤ m∧m ≤ 40∧γ = [some (.ref 2),some (.ref (i + 3)),some (.int m),none,none,none,none,none,none]∧PS h (k + 2) r) ?_ ?_
 ·simp only [List.getElem?_cons_zero,List.length_cons,List.length_nil,List.set_cons_succ,List.set_cons_zero,Nat.reduceAdd,W_bad,W_bind,W_ite,W_pure,aCons,aNil,e2,eFn,eVar,if_true,sIf,w_nil]
  refine w_draw p1 (by omega) (by decide) (by decide) fun d' h2 d0' d1' p2=>?_
  rw [eq_ii,W_pure,asB_bl,W_pure]
  split
  ·rw [w_cons]; simp only [List.set_cons_succ,List.set_cons_zero,W_bind,W_pure,contW_nx,gN,sAsg,w_nil]
   exact ⟨40,by omega,by omega,rfl,p2.up (by omega)⟩
  ·exact ⟨(1 + t).toNat,by omega,by omega,by rw [Int.toNat_of_nonneg (by omega)],p2.up (by omega)⟩
 rintro γ h2 ⟨m,m1,m2,rfl,p2⟩
 refine q_setJ (fun d h1=>∃ t:Int,d = .int t∧PS h1 (k + 3) r) ?_ ?_
 ·simp only [List.getElem?_cons_zero,List.length_cons,List.length_nil,Nat.reduceAdd,W_bad,W_bind,W_ite,W_pure,aCons,aNil,eFn,eVar,if_true]
  refine w_draw p2 (by omega) (by decide) (by decide) fun d h1 d0 d1 p1=>?_
  exact ⟨d,rfl,p1.up (by omega)⟩
 rintro _ h3 ⟨dn,rfl,p3⟩
 refine q_setJ (fun d h1=>d = .ref (r.length + 3)∧PS h1 (k + 3) (r++[.lst (stsD [])])) ?_ ?_
 ·simp only [W_bind,W_pure,aNil,eLst]
  exact w_newL p3 (by decide) fun h4 p4=>⟨rfl,p4⟩
 rintro _ h4 ⟨rfl,p4⟩
 refine q_setJ (fun d h1=>d = .ref (r.length + 1 + 3)∧PS h1 (k + 3) (r++[.lst (stsD []),.lst (mksD [])])) ?_ ?_
 ·simp only [W_bind,W_pure,aNil,eLst]
  exact w_newL p4 (by decide) fun h5 p5=>⟨by simp,by rw [List.append_assoc] at p5; exact p5⟩
 rintro _ h5 ⟨rfl,p5⟩
 refine w_seq (fun γ h=>∃ st mk w w7 w8 j,γ = [some (.ref 2),some (.ref (i + 3)),some (.int m),some (.int dn),some (.ref (r.length + 0 + 3)),some (.ref (r.length + 1 + 3)),w,w7,w8]∧PS h (k + 203) (r++(.lst (stsD st) :: .lst (mksD mk) :: j))∧st.length = m∧mk.length = m∧AM st mk m) ?_ ?_
 ·refine for_range (fun c γ h=>∃ st mk w w7 w8 j,γ = [some (.ref 2),some (.ref (i + 3)),some (.int m),some (.int dn),some (.ref (r.length + 0 + 3)),some (.ref (r.length + 1 + 3)),w,w7,w8]∧PS h (k + 3 + 5 * c) (r++(.lst (stsD st) :: .lst (mksD mk) :: j))∧st.length = c∧mk.length = c∧AM st mk m) (fun _ _=>False) ?_
  simp only [List.getElem?_cons_succ,List.getElem?_cons_zero,List.set_cons_succ,List.set_cons_zero,W_pure,e2,eVar]
  refine ⟨m,rfl,by omega,⟨[],[],_,_,_,[],rfl,p5.up (by omega),rfl,rfl,by simp,by simp,by simp⟩,?_,?_,fun _ _ q=>q.elim⟩
  ·rintro c γ h6 hc ⟨st,mk,w,w7,w8,j,rfl,p6,l1,l2,am⟩
   refine q_setJ (fun d h1=>∃ b0 b1:Int,d = .ref (r.length + (j.length + 2) + 3)∧PS h1 (k + 3 + 5 * c + 2) (r++(.lst (stsD st) :: .lst (mksD mk) :: (j++[.lst [.int b0,.int b1]])))) ?_ ?_
   ·simp only [List.getElem?_cons_zero,List.length_cons,List.length_nil,List.set_cons_succ,List.set_cons_zero,Nat.reduceAdd,W_bad,W_bind,W_ite,W_pure,aCons,aNil,eFn,eLst,eVar,if_true]
    refine w_draw p6 (by omega) (by decide) (by decide) fun b0 h7 b00 b01 p7=>?_
    refine w_draw p7 (by omega) (by decide) (by decide) fun b1 h8 b10 b11 p8=>?_
    exact w_newL p8 (by simp) fun h9 p9=>⟨b0,b1,by simp only [List.length_append,List.length_cons],by rw [List.append_assoc] at p9; exact p9.up (by omega)⟩
   rintro _ h9 ⟨b0,b1,rfl,p9⟩
   refine w_seq (fun γ h=>∃ b0 b1 z j',γ = [some (.ref 2),some (.ref (i + 3)),some (.int m),some (.int dn),some (.ref (r.length + 0 + 3)),some (.ref (r.length + 1 + 3)),some (.int c),some (.ref (z + 3)),w8]∧PS h (k + 3 + 5 * c + 4) (r++(.lst (stsD st) :: .lst (mksD mk) :: j'))∧(∀ st',(r++(.lst st' :: .lst (mksD mk) :: j'))[z]? = some (.lst [.int b0,.int b1]))) ?_ ?_
   ·have eb:∀ b0 b1:Int,∀ o1 o2:O,∀ j:AH,(r++(o1 :: o2 :: (j++[.lst [.int b0,.int b1]])))[r.length + (j.length + 2)]? = some (.lst [.int b0,.int b1]):=fun b0 b1 o1 o2 j=>by
     rw [List.getElem?_append_right (by omega),show r.length + (j.length + 2) - r.length = j.length + 2 by omega]
     simp
    simp only [List.getElem?_cons_succ,List.getElem?_cons_zero,List.set_cons_succ,List.set_cons_zero,W_bind,W_ite,W_pure,asB_bl,gt_ii,sIf,w_nil]
    split
    ·rw [w_cons]; simp only [List.getElem?_cons_succ,List.getElem?_cons_zero,List.length_cons,List.length_nil,List.set_cons_succ,List.set_cons_zero,Nat.reduceAdd,W_bad,W_bind,W_ite,W_pure,aCons,aNil,contW_nx,e2,eFn,eLst,eVar,gN,if_true,sAsg,w_nil]
     refine w_ixr p9 (eb _ _ _ _ _) (show atI [D.int b0,D.int b1] 0 = some (.int b0) from rfl) ?_
     refine w_draw p9 (by omega) (by decide) (by decide) fun b2 h10 _ _ p10=>?_
     have an:∀ x y:Int,fAnd (.int x) (.int y) = pure (.int (Builtin.bitAnd x y)):=fun _ _=>rfl
     rw [an,W_pure]
     refine w_ixr p10 (eb _ _ _ _ _) (show atI [D.int b0,D.int b1] 1 = some (.int b1) from rfl) ?_
     refine w_draw p10 (by omega) (by decide) (by decide) fun b3 h11 _ _ p11=>?_
     rw [an,W_pure]
     refine w_newL p11 (by simp) fun h12 p12=>?_
     refine ⟨_,_,r.length + ((j++[O.lst [D.int b0,D.int b1]]).length + 2),(j++[O.lst [D.int b0,D.int b1]])++[.lst [.int (Builtin.bitAnd b0 b2),.int (Builtin.bitAnd b1 b3)]],by simp,?_,fun st'=>eb _ _ _ _ _⟩
     have:=p12.up (k':=k + 3 + 5 * c + 4) (by omega)
     simpa using this
    ·exact ⟨b0,b1,_,_,rfl,p9.up (by omega),fun st'=>eb _ _ _ _ _⟩
   rintro γ h10 ⟨b0,b1,z,j',rfl,p10,f4⟩
   refine q_push (i:=0) rfl p10 rfl (by simp [stsD]; omega) (fun v k'=>v = .tup (stD (stepR b0 b1 m))∧k' = k + 3 + 5 * c + 4) ?_ ?_
   ·exact W_of (bits_h rfl rfl (by rw [p10.get]; exact f4 _) m2) ⟨_,p10,rfl,rfl⟩
   rintro _ _ h11 ⟨rfl,rfl⟩ p11
   rw [List.set_cons_zero,show stsD st++[D.tup (stD (stepR b0 b1 m))] = stsD (st++[stepR b0 b1 m]) by simp [stsD]] at p11
   refine q_setJ (fun d h1=>∃ t:Int,d = .int t∧PS h1 (k + 3 + 5 * c + 5) (r++(.lst (stsD (st++[stepR b0 b1 m])) :: .lst (mksD mk) :: j'))) ?_ ?_
   ·simp only [List.getElem?_cons_zero,List.length_cons,List.length_nil,Nat.reduceAdd,W_bad,W_bind,W_ite,W_pure,aCons,aNil,eFn,eVar,if_true]
    refine w_draw p11 (by omega) (by decide) (by decide) fun wo h12 wo0 wo1 p12=>?_
    exact ⟨wo,rfl,p12.up (by omega)⟩
   rintro _ h12 ⟨wo,rfl,p12⟩
   refine q_push (i:=1) rfl p12 rfl (by simp [mksD]; omega) (fun v k'=>v = .tup ((sortS (pick ns fun t=>decide (Builtin.bitAnd (wo / 2 ^ t) 1 = 1))).map .str)∧k' = k + 3 + 5 * c + 5) ?_ ?_
   ·exact W_of (worn_h rfl rfl (by rw [p12.get]; exact at_app e) hn) ⟨_,p12,rfl,rfl⟩
   rintro _ _ h13 ⟨rfl,rfl⟩ p13
   have mp:MK (sortS (pick ns fun t=>decide (Builtin.bitAnd (wo / 2 ^ t) 1 = 1))):=pick_mk hg hn _
   rw [List.set_cons_succ,List.set_cons_zero] at p13
   generalize sortS (pick ns fun t=>decide (Builtin.bitAnd (wo / 2 ^ t) 1 = 1)) = pk at p13 mp
   rw [show mksD mk++[D.tup (pk.map .str)] = mksD (mk++[pk]) by simp [mksD]] at p13
   refine q_done ⟨_,_,_,_,_,_,rfl,p13.up (by omega),by simp [l1],by simp [l2],?_,?_,?_⟩
   ·intro l hl
    rcases List.mem_append.mp hl with q | q
    ·exact am.1 l q
    ·simp at q; subst q; exact List.Pairwise.filter _ List.pairwise_lt_range
   ·intro l hl
    rcases List.mem_append.mp hl with q | q
    ·exact am.2.1 l q
    ·simp at q; subst q
     intro x hx
     simpa using (List.mem_filter.mp hx).1
   ·intro l hl
    rcases List.mem_append.mp hl with q | q
    ·exact am.2.2 l q
    ·simp at q; subst q; exact mp
  ·rintro γ h6 ⟨st,mk,w,w7,w8,j,rfl,p6,l1,l2,am⟩
   exact ⟨st,mk,w,w7,w8,j,rfl,p6.up (by omega),l1,l2,am⟩
 ·rintro γ h6 ⟨st,mk,w,w7,w8,j,rfl,p6,l1,l2,am⟩
  refine q_retJ (fun d h1=>d = maD st mk∧h1 = h6) ?_ ?_
  ·simp only [List.getElem?_cons_succ,List.getElem?_cons_zero,List.length_cons,List.length_nil,Nat.reduceAdd,W_bad,W_bind,W_ite,W_pure,aCons,aNil,eCall,eTup,eVar]
   refine w_tupE (i:=0) p6 rfl ?_
   refine w_tupE (i:=1) p6 rfl ?_
   rw [if_pos (by decide)]
   exact ⟨rfl,rfl⟩
  rintro _ _ ⟨rfl,rfl⟩
  refine ⟨_,_,p6,?_,fun h2 q2=>z st mk h2 ⟨by omega,by omega,by omega,am.1,by rw [l1]; exact am.2.1,am.2.2⟩ q2⟩
  unfold maD stsD mksD
  simp only [refLt,refLts,Bool.and_true,Bool.and_eq_true]
  exact ⟨refLts_map fun a=>ref_st a,refLts_map fun a=>by simp only [refLt]; exact refs_strs _⟩
theorem number_p {i n:Nat} (h2:i < n):m__law_number [.int i,.int 0,.int n] = pure (.bl true):=by
 have h1:(0:Int) ≤ i:=by omega
 have h3:(i:Int) < n:=by omega
 show cln (runF 3 b__law_number [.int i,.int 0,.int n]) = _
 rw [runF_rt (d:=.bl true),cln_pure]
 show b__law_number [some (.int i),some (.int 0),some (.int n)] = _
 unfold b__law_number
 refine p_ret _ ?_
 simp only [List.getElem?_cons_succ,List.getElem?_cons_zero,asB_bl,bindP,decide_eq_true h1,decide_eq_true h3,e3,eAnd,eIsi,eNot,eVar,if_true,isi_int,le_ii,lt_ii]
 rfl
theorem tuple_q {xs:List D} {m n:Nat} (h0:m ≤ xs.length) (h1:xs.length ≤ n):m__law_tuple [.tup xs,.int m,.int n] = pure (.bl true):=by
 have h2:(xs.length:Int) ≤ n:=by omega
 have h3:(m:Int) ≤ xs.length:=by omega
 show cln (runF 3 b__law_tuple [.tup xs,.int m,.int n]) = _
 rw [runF_rt (d:=.bl true),cln_pure]
 show b__law_tuple [some (.tup xs),some (.int m),some (.int n)] = _
 unfold b__law_tuple
 refine p_ret _ ?_
 simp only [List.getElem?_cons_succ,List.getElem?_cons_zero,aCons,aNil,asB_bl,bindP,decide_eq_true h2,decide_eq_true h3,e3,eAnd,eCall,eIsi,eVar,if_true,isi_tup,le_ii,len_tup]
 rfl
theorem tuple_p {xs:List D} {n:Nat} (h1:xs.length ≤ n):m__law_tuple [.tup xs,.int 0,.int n] = pure (.bl true):=tuple_q (m:=0) (Nat.zero_le _) h1
theorem good_p {l:List Nat} {n:Nat} (hn:n ≤ 1000) (hl:l.Pairwise (· < ·)) (hm:∀ x ∈ l,x < n):m__law_good_set [.tup (stD l),.int n] = pure (.bl true):=by
 have len:=rise_len hl hm
 refine cln_W rfl fun h=>?_
 refine w_run ?_
 show W (b__law_good_set [some (.tup (stD l)),some (.int n),none]) h _
 unfold b__law_good_set
 refine q_if false ?_ ?_
 ·simp only [Bool.not_true,List.getElem?_cons_succ,List.getElem?_cons_zero,List.length_cons,List.length_nil,Nat.reduceAdd,aCons,aNil,bindP,cNot,cVal,eFn,eVar,if_true,truD_bl,tuple_p (xs:=stD l) (n:=n) (by rw [st_len]; omega)]
 rw [if_neg (by decide)]
 refine q_nil ?_
 rw [w_cons]
 refine for_range (fun c γ h'=>∃ w,γ = [some (.tup (stD l)),some (.int n),w]∧h' = h) (fun _ _=>False) ?_
 simp only [List.getElem?_cons_zero,W_bind,W_pure,aCons,aNil,contW_nx,contW_rt,e2,eCall,eVar,len_tup]
 refine ⟨l.length,by rw [st_len],by omega,⟨_,rfl,trivial⟩,?_,?_,fun _ _ q=>q.elim⟩
 ·rintro c γ h2 hc ⟨w,rfl,rfl⟩
  have mc:(l[c]?).getD 0 = l[c]:=by rw [List.getElem?_eq_getElem hc]; rfl
  have lt:=hm _ (List.getElem_mem hc)
  refine q_if false ?_ ?_
  ·have e1:fIx (.tup (stD l)) (.int c) = pure (.int (l[c]:Nat)):=by rw [ix_tup (st_at hc),mc]
   by_cases c0:(0:Int) < c
   ·have e2':((c:Int) - 1) = ((c - 1:Nat):Int):=by omega
    have hc1:c - 1 < l.length:=by omega
    have lt2:=List.pairwise_iff_getElem.mp hl (c - 1) c hc1 hc (by omega)
    have mc1:(l[c - 1]?).getD 0 = l[c - 1]:=by rw [List.getElem?_eq_getElem hc1]; rfl
    have e3:fIx (.tup (stD l)) (.int ((c:Int) - 1)) = pure (.int (l[c - 1]:Nat)):=by rw [e2',ix_tup (st_at hc1),mc1]
    simp only [Bool.false_eq_true,Bool.not_true,List.getElem?_cons_succ,List.getElem?_cons_zero,List.length_cons,List.length_nil,List.set_cons_succ,List.set_cons_zero,Nat.reduceAdd,aCons,aNil,asB_bl,bindP,cAnd,cNot,cOr,cVal,decide_eq_false (show ¬((l[c - 1]:Nat):Int) ≥ (l[c]:Nat) by omega),decide_eq_true c0,e1,e2,e3,eFn,eVar,ge_ii,gt_ii,if_false,if_true,number_p lt,sub_ii,truD_bl]
   ·simp only [Bool.false_eq_true,Bool.not_true,List.getElem?_cons_succ,List.getElem?_cons_zero,List.length_cons,List.length_nil,List.set_cons_succ,List.set_cons_zero,Nat.reduceAdd,aCons,aNil,asB_bl,bindP,cAnd,cNot,cOr,cVal,decide_eq_false c0,e1,e2,eFn,eVar,gt_ii,if_false,if_true,number_p lt,sub_ii,truD_bl]
  rw [if_neg (by decide)]
  exact q_nil (q_done ⟨_,rfl,rfl⟩)
 ·rintro γ h2 ⟨w,rfl,rfl⟩
  exact q_ret _ rfl ⟨rfl,[],by simp⟩
theorem some_w {h:AH} {k:Int} {r:AH} {m:Nat} (p:PS h k r) (hk:k < 800000) (hm:m ≤ 40) {Q:D→AH→Prop} (z:∀ l h',l.Pairwise (· < ·)→(∀ x ∈ l,x < m)→PS h' (k + 50) r→Q (.tup (stD l)) h'):W (m__law_some [.ref 2,.int (m:Nat)]) h Q:=by
 refine W_cln p trivial ?_
 refine w_run ?_
 show W (b__law_some [some (.ref 2),some (.int (m:Nat)),none]) h _
 unfold b__law_some
 refine q_setJ (fun d h1=>∃ t:Int,d = .int t∧PS h1 (k + 1) r) ?_ ?_
 ·simp only [List.getElem?_cons_zero,List.length_cons,List.length_nil,Nat.reduceAdd,W_bad,W_bind,W_ite,W_pure,aCons,aNil,eFn,eVar,if_true]
  exact w_draw p (by omega) (by decide) (by decide) fun d h2 d0 d1 p2=>⟨d,rfl,p2⟩
 rintro _ h1 ⟨dn,rfl,p1⟩
 refine q_retJ (fun d h'=>∃ l,d = .tup (stD l)∧l.Pairwise (· < ·)∧(∀ x ∈ l,x < m)∧PS h' (k + 50) r) ?_ ?_
 ·refine W_clE p1 trivial ?_
  simp only [List.set_cons_succ,List.set_cons_zero,W_bind,W_pure,aCons,aNil,e2,eCall,eFn,eVar]
  refine comp_E (r:=r) (l:=[]) (fun c xs k'=>∃ l:List Nat,xs = stD l∧l.Pairwise (· < ·)∧(∀ x ∈ l,x < c)∧l.length ≤ c∧k' = k + 1 + c) ?_
  refine W.of (range_src (n:=m) rfl (by omega)) ?_
  refine ⟨_,by simpa using p1,⟨[],rfl,by simp,by simp,by simp,by simp⟩,fun _ _ _ _=>trivial,?_,?_⟩
  ·rintro c d h6 k6 xs hd ⟨l,rfl,l1,l2,l3,rfl⟩ p6
   obtain ⟨rfl,hc⟩:=intsD_get hd
   simp only [capG,List.map_cons,List.map_nil,List.set_cons_succ,List.set_cons_zero,List.getElem?_cons_succ,List.getElem?_cons_zero,Option.join_some,Option.join_none]
   simp only [List.getElem?_cons_succ,List.getElem?_cons_zero,List.length_cons,List.length_nil,List.set_cons_succ,List.set_cons_zero,Nat.reduceAdd,W_bad,W_bind,W_ite,W_pure,eVar,gN,if_true]
   refine w_draw p6 (by omega) (by decide) (by decide) fun t h7 t0 t1 p7=>?_
   simp only [W_pure,asB_bl,le_ii]
   by_cases q:t ≤ dn
   ·rw [decide_eq_true q]
    simp only [if_true]
    refine ⟨_,p7,by rw [st_len]; omega,l++[c],(st_snoc _ _),?_,?_,by simp; omega,by omega⟩
    ·rw [List.pairwise_append]
     exact ⟨l1,by simp,fun a ha b hb=>by simp at hb; subst hb; exact l2 a ha⟩
    ·intro x hx
     rcases List.mem_append.mp hx with q | q
     ·have:=l2 x q; omega
     ·simp at q; omega
   ·rw [decide_eq_false q]
    simp only [Bool.false_eq_true,if_false]
    exact ⟨_,p7,l,rfl,l1,fun x hx=>by have:=l2 x hx; omega,by omega,by omega⟩
  rintro h6 xs k6 ⟨l,rfl,l1,l2,l3,rfl⟩ p6
  rw [show (Src.con (intsD m)).items.length = m by simp [Src.items,intsD]] at l2 p6
  exact w_tupE (i:=0) p6 rfl ⟨_,_,p6,ref_st l,fun h7 p7=>⟨l,rfl,l1,l2,p7.up (by omega)⟩⟩
 ·rintro _ h2 ⟨l,rfl,l1,l2,p2⟩
  exact ⟨_,[],by rw [List.append_nil]; exact p2,ref_st l,fun h3 p3=>z l h3 l1 l2 p3⟩
theorem iRange_w {ma:G→M D} {γ:G} {h:AH} {Q:Src→AH→Prop} (z:W (ma γ) h fun d h1=>∃ n:Nat,d = .int n∧n < 4611686018427387904∧Q (.con (intsD n)) h1):W (iRange ma γ) h Q:=by
 obtain ⟨d,h1,e,n,rfl,hn,q⟩:=z
 exact W_of (range_src e hn) q
theorem mul_rn {h:AH} {i n:Nat} {xs:List D} (e:h[i]? = some (.lst xs)) (hn:n ≤ 100) (hl:n * xs.length ≤ 1000000):fMul2 (.ref i) (.int (n:Nat)) h = .ok (.ref h.length) (h++[.lst (List.replicate n xs).flatten]):=by
 have g:getL i h = .ok xs h:=by unfold getL; rw [e]
 show (getL i >>= fun x=>if decide (-(2 ^ 63) ≤ (n:Int)) && decide ((n:Int) < 2 ^ 63) then newL (List.replicate (n:Int).toNat x).flatten else bad) h = _
 rw [M.bind_ok g,decide_eq_true (show -(2 ^ 63) ≤ (n:Int) by omega),decide_eq_true (show (n:Int) < 2 ^ 63 by omega)]
 show newL (List.replicate n xs).flatten h = _
 exact new_h (by rw [List.length_flatten,List.map_replicate,List.sum_replicate_nat]; exact hl)
def ringS (n:Nat) (L:List Nat):List (List Nat):=(List.range n).map fun x=>if x ∈ L then [] else [(x + 1) % n]
theorem ring_ma {n:Nat} {L:List Nat} {st:List (List Nat)} {mk:List (List Str)} (m:MA st mk) (hn:st.length = n):MA (ringS n L) mk:=by
 have l1:=m.l1
 have l2:=m.l2
 have l3:=m.l3
 have len:(ringS n L).length = n:=by unfold ringS; simp
 refine ⟨by omega,by omega,by omega,fun l hl=>?_,fun l hl x hx=>?_,m.m1⟩
 ·obtain ⟨x,_,rfl⟩:=List.mem_map.mp hl
  split <;> simp
 ·obtain ⟨y,_,rfl⟩:=List.mem_map.mp hl
  split at hx
  ·cases hx
  ·simp at hx
   subst hx
   rw [len]
   exact Nat.mod_lt _ (by omega)
theorem ring_w {h:AH} {k:Int} {r:AH} {st:List (List Nat)} {mk:List (List Str)} (p:PS h k r) (hk:k < 800000) (m:MA st mk) {Q:D→AH→Prop} (z:∀ st' h',MA st' mk→PS h' (k + 10) r→Q (maD st' mk) h'):W (m__law_ring [.ref 2,maD st mk]) h Q:=by
 have l1:=m.l1
 have l2:=m.l2
 refine W_cln p trivial ?_
 refine w_run ?_
 show W (b__law_ring [some (.ref 2),some (maD st mk),none,none,none]) h _
 unfold b__law_ring
 refine q_set (.int (st.length:Nat)) [some (.ref 2),some (maD st mk),some (.int (st.length:Nat)),none,none] (by simp only [List.getElem?_cons_succ,List.getElem?_cons_zero,aCons,aNil,bindP,e2,eCall,eVar,ix_ma0,len_tup,sts_len]) rfl ?_
 refine q_setJ (fun d h1=>∃ L:List Nat,d = .ref (r.length + 3)∧L.length ≤ 6∧PS h1 (k + 8) (r++[.lst (stD L)])) ?_ ?_
 ·refine comp_E (r:=r) (l:=[]) (fun c xs k'=>∃ L:List Nat,xs = stD L∧L.length = c∧c ≤ 6∧k' = k + 1 + c) ?_
  refine iRange_w ?_
  simp only [List.getElem?_cons_zero,List.length_cons,List.length_nil,Nat.reduceAdd,W_bad,W_bind,W_ite,W_pure,aCons,aNil,eFn,eVar,gN,if_true]
  refine w_draw p (by omega) (by decide) (by decide) fun d h2 d0 d1 p2=>?_
  obtain ⟨d,rfl⟩:=Int.eq_ofNat_of_zero_le d0
  refine ⟨d,rfl,by omega,_,by simpa using p2,⟨[],rfl,rfl,by omega,by simp⟩,fun _ _ _ _=>trivial,?_,?_⟩
  ·rintro c dd h6 k6 xs hd ⟨L,rfl,lL,c6,rfl⟩ p6
   obtain ⟨rfl,hc⟩:=intsD_get hd
   simp only [capG,List.map_cons,List.map_nil,List.set_cons_succ,List.set_cons_zero,List.getElem?_cons_succ,List.getElem?_cons_zero,Option.join_some,Option.join_none]
   simp only [W_pure]
   refine w_draw p6 (by omega) (by omega) (by omega) fun t h7 t0 t1 p7=>?_
   obtain ⟨t,rfl⟩:=Int.eq_ofNat_of_zero_le t0
   exact ⟨_,p7,by rw [st_len]; omega,L++[t],st_snoc _ _,by simp; omega,by omega,by omega⟩
  ·rintro h6 xs k6 ⟨L,rfl,lL,c6,rfl⟩ p6
   exact ⟨L,by first | rfl | trivial,by omega,p6.up (by omega)⟩
 rintro _ h1 ⟨L,rfl,lL,p1⟩
 have c1:∀ h:AH,eComp [some 2,none] (iRange (eVar 2)) (gN 1) (fun _=>pure true) (e2 fMod (e2 fAdd (eVar 1) (fun _=>pure (.int 1))) (eVar 0)) [some (.ref 2),some (maD st mk),some (.int (st.length:Nat)),some (.ref (r.length + 3)),none] h = newL (stD ((List.range st.length).map fun x=>(x + 1) % st.length)) h:=fun h=>by
  have:=comp_st (cap:=[some 2,none]) (mi:=iRange (eVar 2)) (g:=gN 1) (kb:=fun _=>pure true) (me:=e2 fMod (e2 fAdd (eVar 1) (fun _=>pure (.int 1))) (eVar 0)) (γ:=[some (.ref 2),some (maD st mk),some (.int (st.length:Nat)),some (.ref (r.length + 3)),none]) (h:=h) (src:=.con (intsD st.length)) (l:=List.range st.length) (fun _=>true) (fun x=>.int ((x + 1) % st.length:Nat)) (range_src rfl (by omega)) rfl (fun _=>trivial) (by simp; omega) fun x hx=>⟨[some (.int (st.length:Nat)),some (.int x)],fun _=>rfl,fun _=>rfl,fun _ j=>e2_h (x:=.int ((x + 1:Nat):Int)) (e2_h (var_h rfl) (y:=.int 1) rfl rfl) (var_h rfl) (by rw [mod_nn (by omega)]; rfl)⟩
  rw [this,List.filter_eq_self.mpr (by simp),new_h (by rw [st_len]; simp; omega)]
  unfold stD
  rw [List.map_map]
  rfl
 refine q_setJ (fun d h2=>d = .ref (r.length + 4)∧PS h2 (k + 8) (r++[.lst (stD L)]++[.lst (stD ((List.range st.length).map fun x=>(x + 1) % st.length))])) ?_ ?_
 ·show W (eComp _ _ _ _ _ [some (.ref 2),some (maD st mk),some (.int (st.length:Nat)),some (.ref (r.length + 3)),none]) h1 _
  rw [show eComp [some 2,none] (iRange (eVar 2)) (gN 1) (fun _=>pure true) (e2 fMod (e2 fAdd (eVar 1) (fun _=>pure (.int 1))) (eVar 0)) [some (.ref 2),some (maD st mk),some (.int (st.length:Nat)),some (.ref (r.length + 3)),none] = newL (stD ((List.range st.length).map fun x=>(x + 1) % st.length)) from funext c1]
  refine w_newL p1 (by rw [st_len]; simp; omega) fun h2 p2=>⟨?_,p2⟩
  simp
 rintro _ h2 ⟨rfl,p2⟩
 have a3:h2[r.length + 3]? = some (.lst (stD L)):=by rw [p2.get]; exact at_app at_new
 have a4:h2[r.length + 4]? = some (.lst (stD ((List.range st.length).map fun x=>(x + 1) % st.length))):=by
  have:=p2.get (n:=r.length + 1)
  rw [show r.length + 4 = r.length + 1 + 3 by omega,this]
  have e:(r++[O.lst (stD L)]).length = r.length + 1:=by simp
  rw [← e]
  exact at_new
 show W (bCons _ _ [some (.ref 2),some (maD st mk),some (.int (st.length:Nat)),some (.ref (r.length + 3)),some (.ref (r.length + 4))]) h2 _
 have rows:clE (eCall fTuple (aCons (eComp [some 4,some 3,none] (iRange (eVar 2)) (gN 2) (fun _=>pure true) (eCall fTuple (aCons (e2 fMul2 (eLst (aCons (e2 fIx (eVar 0) (eVar 2)) aNil)) (eCall fInt (aCons (e2 (fIn true) (eVar 2) (eVar 1)) aNil))) aNil))) aNil)) [some (.ref 2),some (maD st mk),some (.int (st.length:Nat)),some (.ref (r.length + 3)),some (.ref (r.length + 4))] h2 = .ok (.tup (stsD (ringS st.length L))) h2:=by
  have hme:∀ x ∈ List.range st.length,∀ j:AH,∃ j',eCall fTuple (aCons (e2 fMul2 (eLst (aCons (e2 fIx (eVar 0) (eVar 2)) aNil)) (eCall fInt (aCons (e2 (fIn true) (eVar 2) (eVar 1)) aNil))) aNil) [some (.ref (r.length + 4)),some (.ref (r.length + 3)),some (.int x)] (h2++j) = .ok (.tup (stD (if x ∈ L then [] else [(x + 1) % st.length]))) (h2++j++j'):=fun x hx j=>by
   have hx':x < st.length:=by simpa using hx
   have b4:(h2++j)[r.length + 4]? = some (.lst (stD ((List.range st.length).map fun x=>(x + 1) % st.length))):=at_app a4
   have b3:(h2++j++[.lst [.int ((x + 1) % st.length:Nat)]])[r.length + 3]? = some (.lst (stD L)):=at_app (at_app a3)
   have ixs:atI (stD ((List.range st.length).map fun x=>(x + 1) % st.length)) (x:Int) = some (.int ((x + 1) % st.length:Nat)):=by
    refine atI_nat ?_
    unfold stD
    rw [List.getElem?_map,List.getElem?_map,List.getElem?_range hx']
    rfl
   have el:eLst (aCons (e2 fIx (eVar 0) (eVar 2)) aNil) [some (.ref (r.length + 4)),some (.ref (r.length + 3)),some (.int x)] (h2++j) = .ok (.ref (h2++j).length) (h2++j++[.lst [.int ((x + 1) % st.length:Nat)]]):=by
    have a0:aCons (e2 fIx (eVar 0) (eVar 2)) aNil [some (.ref (r.length + 4)),some (.ref (r.length + 3)),some (.int x)] (h2++j) = .ok [.int ((x + 1) % st.length:Nat)] (h2++j):=ac_h (e2_h (var_h rfl) (var_h rfl) (ix_h b4 ixs)) rfl
    unfold eLst
    exact (M.bind_ok a0).trans (new_h (by simp))
   have ei:eCall fInt (aCons (e2 (fIn true) (eVar 2) (eVar 1)) aNil) [some (.ref (r.length + 4)),some (.ref (r.length + 3)),some (.int x)] (h2++j++[.lst [.int ((x + 1) % st.length:Nat)]]) = .ok (.int ((if x ∈ L then 0 else 1:Nat):Int)) (h2++j++[.lst [.int ((x + 1) % st.length:Nat)]]):=by
    refine call1_h (e2_h (var_h rfl) (var_h rfl) (in_refh b3)) ?_
    by_cases q:x ∈ L
    ·rw [decide_eq_true q,if_pos q]; rfl
    ·rw [decide_eq_false q,if_neg q]; rfl
   have em:=mul_rn (h:=h2++j++[.lst [.int ((x + 1) % st.length:Nat)]]) (i:=(h2++j).length) (n:=if x ∈ L then 0 else 1) (xs:=[.int ((x + 1) % st.length:Nat)]) at_nw (by split <;> omega) (by split <;> simp)
   refine ⟨[.lst [.int ((x + 1) % st.length:Nat)],.lst (List.replicate (if x ∈ L then 0 else 1) [D.int ((x + 1) % st.length:Nat)]).flatten],?_⟩
   refine call1_h (e2_h el ei em) ?_
   have ev:(List.replicate (if x ∈ L then 0 else 1) [D.int ((x + 1) % st.length:Nat)]).flatten = stD (if x ∈ L then [] else [(x + 1) % st.length]):=by
    by_cases q:x ∈ L
    ·rw [if_pos q,if_pos q]; rfl
    ·rw [if_neg q,if_neg q]; rfl
   rw [tup_h at_nw,List.append_assoc (h2++j),ev]
   rfl
  obtain ⟨j,e⟩:=comp_g (cap:=[some 4,some 3,none]) (mi:=iRange (eVar 2)) (g:=gN 2) (kb:=fun _=>pure true) (me:=eCall fTuple (aCons (e2 fMul2 (eLst (aCons (e2 fIx (eVar 0) (eVar 2)) aNil)) (eCall fInt (aCons (e2 (fIn true) (eVar 2) (eVar 1)) aNil))) aNil)) (γ:=[some (.ref 2),some (maD st mk),some (.int (st.length:Nat)),some (.ref (r.length + 3)),some (.ref (r.length + 4))]) (h:=h2) (h1:=h2) (src:=.con (intsD st.length)) (l:=List.range st.length) (fun x=>.tup (stD (if x ∈ L then [] else [(x + 1) % st.length]))) (range_src rfl (by omega)) rfl (fun _=>trivial) (by simp; omega) fun x hx=>⟨[some (.ref (r.length + 4)),some (.ref (r.length + 3)),some (.int x)],fun _=>rfl,fun _=>rfl,hme x hx⟩
  refine cln_of (j:=.lst (stsD (ringS st.length L)) :: j) (call1_h e ?_) (by simp only [refLt]; exact refLts_map fun a=>ref_st a)
  rw [tup_h am0]
  unfold stsD ringS
  rw [List.map_map]
  first | rfl | done
 refine q_reth (maD (ringS st.length L) mk) (h1:=h2) (tup2_h rows (e2_h (var_h rfl) (y:=.int 1) rfl rfl)) ?_
 exact ⟨k + 10,[.lst (stD L)]++[.lst (stD ((List.range st.length).map fun x=>(x + 1) % st.length))],by rw [← List.append_assoc]; exact p2.up (by omega),ref_ma _ _,fun h3 p3=>z _ h3 (ring_ma m rfl) p3⟩
structure GH (h:AH) (b c:Nat) (V:List Nat) (f:Nat→List Nat):Prop where
 d:h[b]? = some (.dK (kvF c V))
 r:∀ x ∈ V,h[c + V.idxOf x]? = some (.lst (stD (f x)))
 bc:b < c
 cl:c ≤ h.length
structure GF (h:AH) (b c:Nat) (V:List Nat) (f:Nat→List Nat):Prop where
 d:h[b]? = some (.dF (kvF c V))
 r:∀ x ∈ V,h[c + V.idxOf x]? = some (.lst (stD (f x)))
 bc:b < c
 cl:c ≤ h.length
theorem GH.lt {h:AH} {b c:Nat} {V:List Nat} {f:Nat→List Nat} (g:GH h b c V f):b < h.length:=(List.getElem?_eq_some_iff.mp g.d).1
theorem GH.frz {h:AH} {b c:Nat} {V:List Nat} {f:Nat→List Nat} (g:GH h b c V f):GF (h.set b (.dF (kvF c V))) b c V f :=
 ⟨List.getElem?_set_self g.lt,fun x hx=>by rw [List.getElem?_set_ne (by have:=g.bc; omega)]; exact g.r x hx,g.bc,by rw [List.length_set]; exact g.cl⟩
theorem GH.app {h j:AH} {b c:Nat} {V:List Nat} {f:Nat→List Nat} (g:GH h b c V f):GH (h++j) b c V f:=⟨at_app g.d,fun x hx=>at_app (g.r x hx),g.bc,by rw [List.length_append]; exact Nat.le_trans g.cl (Nat.le_add_right _ _)⟩
theorem GF.app {h j:AH} {b c:Nat} {V:List Nat} {f:Nat→List Nat} (g:GF h b c V f):GF (h++j) b c V f:=⟨at_app g.d,fun x hx=>at_app (g.r x hx),g.bc,by rw [List.length_append]; exact Nat.le_trans g.cl (Nat.le_add_right _ _)⟩
theorem gh_new (h:AH) (V:List Nat) (f:Nat→List Nat):GH (h++(.dK (kvF (h.length + 1) V) :: rowsH f V)) h.length (h.length + 1) V f:=by
 refine ⟨?_,fun x hx=>?_,by omega,by simp⟩
 ·rw [List.getElem?_append_right (Nat.le_refl _),Nat.sub_self]; rfl
 ·rw [List.getElem?_append_right (by omega),show h.length + 1 + V.idxOf x - h.length = V.idxOf x + 1 by omega,List.getElem?_cons_succ]
  exact rowsH_at hx
theorem cln_rows {m:M D} {h h0 j:AH} {V:List Nat} {f:Nat→List Nat} (e:m h = .ok (.ref (h0++j).length) (h0++j++(.dK (kvF ((h0++j).length + 1) V) :: rowsH f V))) (hl:h0.length = h.length) (kp:Kept h (h0++j++(.dK (kvF ((h0++j).length + 1) V) :: rowsH f V))) :
 ∃ b c k,cln m h = .ok (.ref b) (h0++k)∧GH (h0++k) b c V f∧h.length ≤ b:=by
 have hk:h.length ≤ (h0++j++(O.dK (kvF ((h0++j).length + 1) V) :: rowsH f V)).length∧Kept h (h0++j++(O.dK (kvF ((h0++j).length + 1) V) :: rowsH f V)):=⟨by simp; omega,kp⟩
 have at0:(h0++j++(O.dK (kvF ((h0++j).length + 1) V) :: rowsH f V))[(h0++j).length]? = some (O.dK (kvF ((h0++j).length + 1) V)):=(gh_new (h0++j) V f).d
 cases V with
 | nil =>
  refine ⟨h.length,h.length + 1,[.dK (kvF (h.length + 1) [])],?_,?_,Nat.le_refl _⟩
  ·unfold cln
   rw [e]
   dsimp only
   rw [if_pos hk]
   have r1:refLt h.length (.ref (h0++j).length) = false:=by simp [refLt]; omega
   rw [if_neg (by rw [r1]; decide)]
   rw [at0]
   dsimp only
   rw [if_pos (by simp [kvF,refO,refLts])]
   congr 1
   rw [List.append_assoc,← hl,List.take_append_of_le_length (Nat.le_refl _),List.take_length]
   rfl
  ·rw [← hl]
   exact gh_new h0 [] f
 | cons x V =>
  refine ⟨(h0++j).length,(h0++j).length + 1,j++(.dK (kvF ((h0++j).length + 1) (x :: V)) :: rowsH f (x :: V)),?_,?_,by simp; omega⟩
  ·unfold cln
   rw [e]
   dsimp only
   rw [if_pos hk]
   have r1:refLt h.length (.ref (h0++j).length) = false:=by simp [refLt]; omega
   rw [if_neg (by rw [r1]; decide)]
   rw [at0]
   dsimp only
   rw [if_neg (by simp [kvF,refO,refLts,refLt]; omega),List.append_assoc]
  ·rw [← List.append_assoc]
   exact gh_new (h0++j) (x :: V) f
def inV (st:List (List Nat)) (V:List Nat) (x:Nat):List Nat:=(nx st x).filter fun y=>decide (y ∈ V)
theorem inside_h {st:List (List Nat)} {mk:List (List Str)} {V:List Nat} {h:AH} (q:SQ st) (rl:∀ l ∈ st,l.length ≤ 1000) (nd:V.Nodup) (hV:∀ x ∈ V,x < st.length) :
 ∃ b c k,m_steps_inside [maD st mk,.tup (stD V)] h = .ok (.ref b) (h++k)∧GH (h++k) b c V (inV st V)∧h.length ≤ b:=by
 have vl:V.length ≤ 1000:=Nat.le_trans (nodup_len nd hV) (by have:=q.l2; omega)
 refine cln_rows (j:=[.dK (kvN V)]) (h0:=h) ?_ rfl (by rw [List.append_assoc]; exact kept_app _ _)
 refine run_h ?_
 show W (b_steps_inside [some (maD st mk),some (.tup (stD V)),none]) h _
 unfold b_steps_inside
 refine q_seth (.ref h.length) [some (maD st mk),some (.tup (stD V)),some (.ref h.length)] (h1:=h++[.dK (kvN V)]) (dcomp_t (src:=.con (stD V)) (seqT_h (var_h rfl)) rfl (fun _=>trivial) nd vl fun x hx=>⟨[some (.int x)],fun _=>rfl,fun _=>rfl,fun _=>rfl,fun _=>rfl⟩) rfl ?_
 refine q_reth (.ref (h++[O.dK (kvN V)]).length) (dcomp_h (src:=.con (stD V)) (h1:=h++[.dK (kvN V)]) (inV st V) (seqT_h (var_h rfl)) rfl (fun _=>trivial) nd vl fun x hx=>⟨[some (maD st mk),some (.ref h.length),some (.int x)],fun _=>rfl,fun _=>rfl,fun _=>rfl,fun j=>?_⟩) ⟨rfl,rfl⟩
 have xl:=hV x hx
 have nl:(nx st x).length ≤ 1000:=rl _ (List.mem_of_getElem? (nx_get xl))
 refine (comp_st (l:=nx st x) (src:=.con (stD (nx st x))) (fun y=>decide (y ∈ V)) (fun y=>.int y) (seqT_h (e2_h (e2_h (var_h rfl) (y:=.int 0) rfl (by rw [ix_ma0]; rfl)) (var_h rfl) (by rw [ix_row xl]; rfl))) rfl (fun _=>trivial) (by omega) fun y hy=>⟨[some (.ref h.length),some (.int y)],fun _=>rfl,fun k=>?_,fun _ _=>rfl⟩).trans ?_
 ·refine (cb_h (e2_h (var_h rfl) (var_h rfl) (w_inD (l:=V) (by rw [List.append_assoc,List.append_assoc,List.getElem?_append_right (Nat.le_refl _),Nat.sub_self]; rfl)))).trans ?_
  simp
 ·rfl
theorem q_appO {mo me:G→M D} {mt:G→M Out} {γ:G} {h:AH} {i:Nat} {xs:List D} {v:D} {Q:Out→AH→Prop} (eo:mo γ h = .ok (.ref i) h) (e:h[i]? = some (.lst xs)) (ev:me γ h = .ok v h) (hl:xs.length < 1000000) (z:W (mt γ) (h.set i (.lst (xs++[v]))) Q):W (bCons (sExpr (eM1 fAppend mo me)) mt γ) h Q:=by
 refine q_expr ?_
 unfold eM1
 rw [W_bind]
 refine W_of eo ?_
 rw [W_bind]
 refine W_of (asRef_h e) ?_
 rw [W_bind]
 exact W_of ev (W_of (append_h e hl) z)
theorem rowsH_congr {f g:Nat→List Nat} {V:List Nat} (h:∀ x ∈ V,f x = g x):rowsH f V = rowsH g V:=by
 unfold rowsH
 exact List.map_congr_left fun x hx=>by rw [h x hx]
theorem rowsH_set {f:Nat→List Nat} {y:Nat} {l:List Nat}:∀ {V:List Nat},V.Nodup→y ∈ V→(rowsH f V).set (V.idxOf y) (.lst (stD l)) = rowsH (fun x=>if x = y then l else f x) V
 | [],_,h=>by cases h
 | a :: V,nd,h=>by
  obtain ⟨n1,n2⟩:=List.nodup_cons.mp nd
  rw [List.idxOf_cons]
  by_cases e:a = y
  ·subst e
   simp only [beq_self_eq_true,cond_true]
   show O.lst (stD l) :: rowsH f V = O.lst (stD (if a = a then l else f a)) :: rowsH _ V
   rw [if_pos rfl]
   congr 1
   exact rowsH_congr fun x hx=>by rw [if_neg (show ¬ x = a from fun z=>n1 (by rw [← z]; exact hx))]
  ·rw [show (a == y) = false from beq_eq_false_iff_ne.mpr e]
   have hy:y ∈ V:=by
    cases h with
    | head=>exact (e rfl).elim
    | tail _ h=>exact h
   show O.lst (stD (f a)) :: (rowsH f V).set (V.idxOf y) _ = O.lst (stD (if a = y then l else f a)) :: rowsH _ V
   rw [if_neg e,rowsH_set n2 hy]
theorem kvF_refs {n:Nat}:∀ {V:List Nat} {c:Nat},c + V.length ≤ n→refLts n ((kvF c V).map (·.2)) = true
 | [],c,h=>rfl
 | x :: V,c,h=>by
  show (refLt n (.ref c) && refLts n ((kvF (c + 1) V).map (·.2))) = true
  rw [kvF_refs (by simp at h; omega),Bool.and_true]
  simp [refLt]
  simp at h
  omega
theorem rows_le {h:AH} {c:Nat} {V:List Nat} {f:Nat→List Nat} (nd:V.Nodup) (hc:c ≤ h.length) (r:∀ x ∈ V,h[c + V.idxOf x]? = some (.lst (stD (f x)))):c + V.length ≤ h.length:=by
 rcases List.eq_nil_or_concat V with rfl | ⟨W',a,rfl⟩
 ·simpa using hc
 ·rw [List.concat_eq_append] at *
  have:=(List.getElem?_eq_some_iff.mp (r a (by simp))).1
  have na:a ∉ W':=fun q=>(List.nodup_append.mp nd).2.2 a q a (by simp) rfl
  rw [List.idxOf_append,if_neg na] at this
  simp at this ⊢
  omega
theorem GH.kept {H:AH} {b c:Nat} {V:List Nat} {f:Nat→List Nat} (g:GH H b c V f) (nd:V.Nodup) (hc:c ≤ H.length) (k:AH):Kept H (H.set b (.dF (kvF c V))++k):=by
 intro i o li e
 rw [List.getElem?_append_left (by simpa using li)] at e
 by_cases ib:i = b
 ·subst ib
  rw [List.getElem?_set_self li] at e
  cases e
  exact .inr (kvF_refs (rows_le nd hc g.r))
 ·rw [List.getElem?_set_ne (Ne.symm ib)] at e
  exact .inl e
def trn (V:List Nat) (f:Nat→List Nat) (x:Nat):List Nat:=V.filter fun one=>decide (x ∈ f one)
theorem turned_h {H:AH} {b c:Nat} {V:List Nat} {f:Nat→List Nat} (g:GH H b c V f) (hc:c ≤ H.length) (nd:V.Nodup) (vl:V.length ≤ 100) (fv:∀ x ∈ V,(f x).Nodup∧∀ y ∈ f x,y ∈ V) :
 ∃ b2 c2 k,m_turned [.ref b] H = .ok (.ref b2) (H.set b (.dF (kvF c V))++k)∧GH (H.set b (.dF (kvF c V))++k) b2 c2 V (trn V f)∧H.length ≤ b2:=by
 refine cln_rows (j:=[]) (h0:=H.set b (.dF (kvF c V))) ?_ (by simp) (by rw [List.append_nil]; exact g.kept nd hc _)
 rw [List.append_nil]
 refine run_h ?_
 show W (b_turned [some (.ref b),none,none,none]) H _
 unfold b_turned sDComp'
 have gf:=g.frz
 have lH:(H.set b (.dF (kvF c V))).length = H.length:=by simp
 generalize hH1:H.set b (.dF (kvF c V)) = H1 at *
 have e1:=dcomp_h (cap:=[none]) (g:=gN 0) (kb:=fun _=>pure true) (me:=eVar 0) (mv:=eLst aNil) (γ:=[some (.ref b),none,none,none]) (h:=H) (h1:=H1) (src:=.con (stD V)) (V:=V) (mi:=iDic (eVar 0)) (fun _=>[]) (by rw [← hH1]; exact iDic_k (var_h rfl) g.d) rfl (fun _=>trivial) nd (by omega) fun x hx=>⟨[some (.int x)],fun _=>rfl,fun _=>rfl,fun _=>rfl,fun j=>rfl⟩
 refine q_seth (.ref H1.length) [some (.ref b),some (.ref H1.length),none,none] e1 rfl ?_
 rw [w_cons]
 refine for_src (fun i γ h'=>∃ w2 w3,γ = [some (.ref b),some (.ref H1.length),w2,w3]∧h' = H1++(.dK (kvF (H1.length + 1) V) :: rowsH (fun x=>(V.take i).filter fun one=>decide (x ∈ f one)) V)) (fun _ _=>False) ?_
 refine W_of (iDic_f (var_h rfl) gf.app.d) ⟨⟨none,none,rfl,rfl⟩,fun _ _ _ _=>trivial,?_,?_,fun _ _ q=>q.elim⟩
 ·rintro i d _ _ ed ⟨w2,w3,rfl,rfl⟩
  obtain ⟨one,rfl,eo⟩:=st_get ed
  have oV:=List.mem_of_getElem? eo
  have hi:=(List.getElem?_eq_some_iff.mp eo).1
  have io:=(List.getElem?_eq_some_iff.mp eo).2
  obtain ⟨fnd,fsub⟩:=fv one oV
  refine W_of (v:=[some (.ref b),some (.ref H1.length),some (.int one),w3]) rfl ?_
  rw [w_cons]
  have src:∀ (a:Nat→List Nat) (γ:G),γ[0]? = some (some (.ref b))→γ[2]? = some (some (.int (one:Nat)))→iSeqL (e2 fDget (eVar 0) (eVar 2)) γ (H1++(.dK (kvF (H1.length + 1) V) :: rowsH a V)) = .ok (.lst (c + V.idxOf one) (stD (f one))) (H1++(.dK (kvF (H1.length + 1) V) :: rowsH a V)):=fun a γ g0 g2=>seqL_h (e2_h (var_h g0) (var_h g2) (dget_h (.inr gf.app.d) oV)) (gf.app.r one oV)
  refine for_src (fun e γ h'=>∃ w3,γ = [some (.ref b),some (.ref H1.length),some (.int one),w3]∧h' = H1++(.dK (kvF (H1.length + 1) V) :: rowsH (fun x=>((V.take i).filter fun one=>decide (x ∈ f one))++if x ∈ (f one).take e then [one] else []) V)) (fun _ _=>False) ?_
  refine W_of (src _ _ rfl rfl) ⟨⟨w3,rfl,?_⟩,?_,?_,?_,fun _ _ q=>q.elim⟩
  ·simp
  ·rintro e _ _ ⟨w,rfl,rfl⟩
   exact gf.app.r one oV
  ·rintro e d _ _ ed ⟨w,rfl,rfl⟩
   obtain ⟨y,rfl,ey⟩:=st_get ed
   have yV:=fsub y (List.mem_of_getElem? ey)
   obtain ⟨he,ye⟩:=List.getElem?_eq_some_iff.mp ey
   have yn:y ∉ (f one).take e:=fun q=>by
    obtain ⟨t,ht,et⟩:=List.getElem_of_mem q
    rw [List.length_take] at ht
    rw [List.getElem_take] at et
    exact (List.pairwise_iff_getElem.mp fnd t e (by omega) he (by omega)) (et.trans ye.symm)
   refine W_of (v:=[some (.ref b),some (.ref H1.length),some (.int one),some (.int y)]) rfl ?_
   have gn:=gh_new H1 V (fun x=>((V.take i).filter fun one=>decide (x ∈ f one))++if x ∈ (f one).take e then [one] else [])
   refine q_appO (i:=H1.length + 1 + V.idxOf y) (e2_h (var_h rfl) (var_h rfl) (dget_h (.inl gn.d) yV)) (gn.r y yV) (var_h rfl) ?_ ?_
   ·rw [st_len,List.length_append]
    have h1:=List.length_filter_le (fun one=>decide (y ∈ f one)) (V.take i)
    have h2:(V.take i).length ≤ 100:=by rw [List.length_take]; omega
    split <;> simp <;> omega
   ·refine q_done ⟨_,rfl,?_⟩
    rw [st_snoc,List.set_append_right _ _ (by omega),show H1.length + 1 + V.idxOf y - H1.length = V.idxOf y + 1 by omega,List.set_cons_succ,rowsH_set nd yV]
    congr 2
    refine rowsH_congr fun x hx=>?_
    rw [List.take_succ_eq_append_getElem he,ye]
    by_cases xy:x = y
    ·subst xy
     rw [if_pos rfl,if_neg yn,if_pos (by simp)]
     simp
    ·rw [if_neg xy]
     congr 1
     simp [xy]
  ·rintro _ _ ⟨w,rfl,rfl⟩
   refine q_done ⟨_,_,rfl,?_⟩
   congr 2
   refine rowsH_congr fun x hx=>?_
   rw [show (Src.lst (c + V.idxOf one) (stD (f one))).items.length = (f one).length from st_len _,List.take_length,List.take_succ_eq_append_getElem hi,io,List.filter_append]
   congr 1
   by_cases q:x ∈ f one
   ·rw [if_pos q,List.filter_cons,if_pos (by simpa using q)]; rfl
   ·rw [if_neg q,List.filter_cons,if_neg (by simpa using q)]; rfl
 ·rintro _ _ ⟨w2,w3,rfl,rfl⟩
  refine q_reth (.ref H1.length) (var_h rfl) ⟨rfl,?_⟩
  rw [show (Src.con (stD V)).items.length = V.length from st_len _,List.take_length]
  rfl
theorem inS_h {h:AH} {n:Nat} {l:List Nat} {x:Nat} {neg:Bool} (e:h[n]? = some (.set (kN l))):fInS neg (.int (x:Nat)) (.ref n) h = .ok (.bl (decide (x ∈ l) != neg)) h:=by
 have g:getS n h = .ok (kN l) h:=by unfold getS; rw [e]
 unfold fInS
 dsimp only
 rw [M.bind_ok g]
 show Res.ok (D.bl (decide ((Sum.inl (x:Int):Key) ∈ kN l) != neg)) h = _
 congr 3
 rw [Bool.eq_iff_iff,decide_eq_true_eq,decide_eq_true_eq]
 exact kN_mem
theorem q_addS {me:G→M D} {mt:G→M Out} {γ:G} {h:AH} {a i x:Nat} {l:List Nat} {Q:Out→AH→Prop} (ea:γ[a]? = some (some (.ref i))) (e:h[i]? = some (.set (kN l))) (ev:me γ h = .ok (.int (x:Nat)) h) (hx:x ∉ l) (hl:l.length < 1000) (z:W (mt γ) (h.set i (.set (kN (l++[x])))) Q):W (bCons (sExpr (eMS fAddS (eVar a) me)) mt γ) h Q:=by
 refine q_expr ?_
 unfold eMS
 rw [W_bind]
 refine W_of (var_h ea) ?_
 rw [W_bind]
 have s1:asSet (.ref i) h = .ok i h:=by unfold asSet; dsimp only; rw [e]
 refine W_of s1 ?_
 rw [W_bind]
 refine W_of ev ?_
 have f1:fAddS i (.int (x:Nat)) h = .ok .non (h.set i (.set (kN (l++[x])))):=by
  unfold fAddS
  rw [e]
  dsimp only
  have:keyD (.int (x:Nat)) = some (.inl (x:Int)):=rfl
  rw [this]
  dsimp only
  rw [if_pos (by rw [kN_len]; omega),put_kN hx]
 exact W_of f1 z
def wtD (wt:List (Nat × Bool)):List D:=wt.map fun p=>.tup [.int p.1,.bl p.2]
theorem wtD_len (wt:List (Nat × Bool)):(wtD wt).length = wt.length:=by unfold wtD; simp
theorem wtD_snoc (wt:List (Nat × Bool)) (x:Nat) (b:Bool):wtD wt++[.tup [.int x,.bl b]] = wtD (wt++[(x,b)]):=by unfold wtD; rw [List.map_append]; rfl
theorem wtD_app (a b:List (Nat × Bool)):wtD a++wtD b = wtD (a++b):=by unfold wtD; rw [List.map_append]
theorem eTup2 {γ:G} {h:AH} {ma mb:G→M D} {x y:D} (e1:ma γ h = .ok x h) (e2':mb γ h = .ok y h):eTup (aCons ma (aCons mb aNil)) γ h = .ok (.tup [x,y]) h:=tup2_h e1 e2'
def ordH (H1:AH) (s:KS) (j:AH):AH:=H1++(.set (kN s.seen) :: .lst (stD s.ord) :: .lst (wtD s.wt) :: j)
section
variable {H1 j:AH} {s:KS}
theorem oh0:(ordH H1 s j)[H1.length]? = some (.set (kN s.seen)):=by unfold ordH; rw [List.getElem?_append_right (Nat.le_refl _),Nat.sub_self]; rfl
theorem oh1:(ordH H1 s j)[H1.length + 1]? = some (.lst (stD s.ord)):=by unfold ordH; rw [List.getElem?_append_right (by omega),show H1.length + 1 - H1.length = 1 by omega]; rfl
theorem oh2:(ordH H1 s j)[H1.length + 2]? = some (.lst (wtD s.wt)):=by unfold ordH; rw [List.getElem?_append_right (by omega),show H1.length + 2 - H1.length = 2 by omega]; rfl
theorem os0 {l:List Nat}:(ordH H1 s j).set H1.length (.set (kN l)) = ordH H1 ⟨l,s.ord,s.wt⟩ j:=by unfold ordH; rw [List.set_append_right _ _ (Nat.le_refl _),Nat.sub_self]; rfl
theorem os1 {l:List Nat}:(ordH H1 s j).set (H1.length + 1) (.lst (stD l)) = ordH H1 ⟨s.seen,l,s.wt⟩ j:=by unfold ordH; rw [List.set_append_right _ _ (by omega),show H1.length + 1 - H1.length = 1 by omega]; rfl
theorem os2 {l:List (Nat × Bool)}:(ordH H1 s j).set (H1.length + 2) (.lst (wtD l)) = ordH H1 ⟨s.seen,s.ord,l⟩ j:=by unfold ordH; rw [List.set_append_right _ _ (by omega),show H1.length + 2 - H1.length = 2 by omega]; rfl
theorem oh_app {k:AH}:ordH H1 s j++k = ordH H1 s (j++k):=by unfold ordH; simp
end
theorem order_h {H:AH} {b c:Nat} {V:List Nat} {f:Nat→List Nat} {st:List (List Nat)} (g:GH H b c V f) (hc:c ≤ H.length) (nd:V.Nodup) (vl:V.length ≤ 40) (fs:∀ x ∈ V,f x = nx st x) (fv:∀ x ∈ V,(nx st x).length ≤ 40∧∀ y ∈ nx st x,y ∈ V) :
 m_ending_order [.ref b] H = .ok (.ref H.length) (H.set b (.dF (kvF c V))++[.lst (stD (kEnd st V))]):=by
 have gf:=g.frz
 have lH:(H.set b (.dF (kvF c V))).length = H.length:=by simp
 have kp:=g.kept nd hc
 generalize hH1:H.set b (.dF (kvF c V)) = H1 at *
 have hv:∀ x ∈ V,∀ y ∈ nx st x,y ∈ V:=fun x hx=>(fv x hx).2
 suffices z:W (runF 6 b_ending_order [.ref b]) H fun d h'=>d = .ref (H1.length + 1)∧∃ s j,h' = ordH H1 s j∧s.ord = kEnd st V by
  obtain ⟨d,h',e,rfl,s,j,rfl,es⟩:=z
  show cln (runF 6 b_ending_order [.ref b]) H = _
  unfold cln
  rw [e]
  dsimp only
  rw [if_pos ⟨by unfold ordH; simp; omega,kp _⟩]
  have r1:refLt H.length (.ref (H1.length + 1)) = false:=by simp [refLt]; omega
  rw [if_neg (by rw [r1]; decide),oh1]
  dsimp only
  rw [if_pos (by simp only [refO]; exact refs_st _),es]
  congr 1
  unfold ordH
  rw [← lH,List.take_append_of_le_length (Nat.le_refl _),List.take_length]
 refine w_run ?_
 show W (b_ending_order [some (.ref b),none,none,none,none,none]) H _
 unfold b_ending_order sComp'
 have n1:newSet [] H = .ok (.ref H.length) (H++[.set []]):=rfl
 refine q_seth (.ref H.length) [some (.ref b),some (.ref H.length),none,none,none,none] n1 rfl ?_
 refine q_new (xs:=[]) (by simp) (fun h=>rfl) ?_
 have l2:(H++[O.set []]).length = H.length + 1:=by simp
 rw [l2]
 have c1:eComp [none] (iDic (eVar 0)) (gN 0) (fun _=>pure true) (eTup (aCons (eVar 0) (aCons (fun _=>pure (.bl false)) aNil))) [some (.ref b),some (.ref H.length),some (.ref (H.length + 1)),none,none,none] (H++[.set []]++[.lst []]) = .ok (.ref (H.length + 2)) (ordH H1 (kInit V) []):=by
  have i1:iDic (eVar 0) [some (.ref b),some (.ref H.length),some (.ref (H.length + 1)),none,none,none] (H++[.set []]++[.lst []]) = .ok (.con (stD V)) (H1++[.set [],.lst []]):=by
   have:=iDic_k (γ:=[some (.ref b),some (.ref H.length),some (.ref (H.length + 1)),none,none,none]) (ma:=eVar 0) (h:=H++[.set []]++[.lst []]) (h1:=H++[.set []]++[.lst []]) (n:=b) (var_h rfl) g.app.app.d
   rw [this,List.append_assoc,List.set_append_left _ _ g.lt,hH1]
   rfl
  have e:=comp_eqg (cap:=[none]) (g:=gN 0) (k:=fun _=>pure true) (me:=eTup (aCons (eVar 0) (aCons (fun _=>pure (.bl false)) aNil))) (fun _=>true) (fun d=>.tup [d,.bl false]) i1 (fun _=>trivial) (by show (stD V).length ≤ _; rw [st_len]; omega) fun d hd=>⟨[some d],rfl,rfl,fun _=>by
   unfold eTup
   simp only [List.getElem?_cons_zero,List.length_cons,List.length_nil,Nat.reduceAdd,aCons,aNil,bindP,eVar,if_true,size2]⟩
  rw [e,List.filter_eq_self.mpr (by simp),show (Src.con (stD V)).items = stD V from rfl]
  have e2:(stD V).map (fun d=>D.tup [d,.bl false]) = wtD (V.map fun x=>(x,false)):=by
   unfold stD wtD
   rw [List.map_map,List.map_map]
   rfl
  rw [e2,new_h (by rw [wtD_len,List.length_map]; omega)]
  have l3:(H1++[O.set [],O.lst []]).length = H.length + 2:=by simp; omega
  rw [l3]
  congr 1
  unfold ordH kInit
  rw [List.append_assoc]
  rfl
 refine q_seth (.ref (H.length + 2)) [some (.ref b),some (.ref H.length),some (.ref (H.length + 1)),some (.ref (H.length + 2)),none,none] c1 rfl ?_
 rw [← lH]
 refine while_q (m:=kMu V (kInit V)) (fun m γ h'=>∃ n s j w4 w5,γ = [some (.ref b),some (.ref H1.length),some (.ref (H1.length + 1)),some (.ref (H1.length + 2)),w4,w5]∧h' = ordH H1 s j∧s = kRun st V n∧n + m ≤ 3000∧kMu V s ≤ m) ?_ ⟨0,_,[],none,none,rfl,rfl,rfl,?_,Nat.le_refl _⟩ ?_
 ·unfold kMu kInit; simp; omega
 ·unfold kMu kInit; simp; omega
 ·rintro m _ _ ⟨n,s,j,w4,w5,rfl,rfl,hs,hn,hm⟩
  have ki:KI st V s:=by rw [hs]; exact ki_run hv n
  have sl:s.seen.length ≤ V.length:=(List.Nodup.length_le_of_subset ki.nd fun x hx=>ki.sub x hx)
  refine ⟨_,cval_h (i:=H1.length + 2) (xs:=wtD s.wt) rfl oh2,?_⟩
  rcases List.eq_nil_or_concat s.wt with e | ⟨w,⟨x,bb⟩,e⟩
  ·rw [e,if_neg (by simp [wtD])]
   refine q_reth (.ref (H1.length + 1)) (var_h rfl) ⟨rfl,s,j,rfl,?_⟩
   rw [hs] at e ⊢
   exact (kEnd_of e (by omega)).symm
  ·rw [List.concat_eq_append] at e
   rw [e,if_pos (by simp [wtD])]
   have wl:s.wt.length = w.length + 1:=by rw [e]; simp
   have xV:x ∈ V:=ki.wv (x,bb) (by rw [e]; simp)
   have sn:kStep (nx st) s = kRun st V (n + 1):=by rw [hs]; rfl
   have m1:1 ≤ kMu V s:=by unfold kMu; omega
   have wb:w.length ≤ 3000:=by unfold kMu at hm; omega
   refine ⟨m - 1,by omega,?_⟩
   have pp:W (eM0 fPop (eVar 3) [some (.ref b),some (.ref H1.length),some (.ref (H1.length + 1)),some (.ref (H1.length + 2)),w4,w5]) (ordH H1 s j) fun d h'=>d = .tup [.int x,.bl bb]∧h' = ordH H1 ⟨s.seen,s.ord,w⟩ j:=by
    have e1:eVar 3 [some (.ref b),some (.ref H1.length),some (.ref (H1.length + 1)),some (.ref (H1.length + 2)),w4,w5] = pure (.ref (H1.length + 2)):=rfl
    unfold eM0
    rw [e1,bindP,W_bind]
    refine W_of (asRef_h oh2) (W_of (pop_h (xs:=wtD w) (v:=.tup [.int x,.bl bb]) ?_ (by rw [wtD_len]; omega)) ⟨rfl,os2⟩)
    rw [wtD_snoc,← e]
    exact oh2
   refine q_setg _ pp ?_
   rintro _ _ ⟨rfl,rfl⟩
   refine ⟨[some (.ref b),some (.ref H1.length),some (.ref (H1.length + 1)),some (.ref (H1.length + 2)),some (.int x),some (.bl bb)],rfl,?_⟩
   refine q_ifh bb (cv_h (var_h rfl)) ?_
   cases bb with
   | true =>
    rw [if_pos rfl]
    refine q_blk ?_
    refine q_append (a:=2) (i:=H1.length + 1) (xs:=stD s.ord) (v:=.int x) rfl oh1 ?_ (var_h rfl) ?_
    ·rw [st_len]
     have:=List.Nodup.length_le_of_subset (List.nodup_append.mp ki.on).1 fun y hy=>ki.sub y ((ki.so y).mpr (.inl hy))
     omega
    ·rw [st_snoc,os1]
     refine q_nil (q_done ⟨m - 1,Nat.le_refl _,n + 1,⟨s.seen,s.ord++[x],w⟩,j,_,_,rfl,rfl,?_,by omega,?_⟩)
     ·rw [← sn]
      unfold kStep
      rw [e,List.getLast?_append,List.dropLast_concat]
      rfl
     ·unfold kMu at hm ⊢
      dsimp only
      omega
   | false =>
    rw [if_neg (by decide)]
    refine q_blk ?_
    refine q_ifh (decide (x ∉ s.seen)) ?_ ?_
    ·refine (cb_h (e2_h (var_h rfl) (var_h rfl) (inS_h (h:=ordH H1 ⟨s.seen,s.ord,w⟩ j) (n:=H1.length) (x:=x) (neg:=true) (l:=s.seen) oh0))).trans ?_
     by_cases q:x ∈ s.seen <;> simp [q]
    by_cases q:x ∈ s.seen
    ·rw [decide_eq_false (fun z=>z q),if_neg (by decide)]
     refine q_nil (q_nil (q_done ⟨m - 1,Nat.le_refl _,n + 1,⟨s.seen,s.ord,w⟩,j,_,_,rfl,rfl,?_,by omega,?_⟩))
     ·rw [← sn]
      unfold kStep
      rw [e,List.getLast?_append,List.dropLast_concat]
      show _ = if x ∈ s.seen then _ else _
      rw [if_pos q]
     ·unfold kMu at hm ⊢
      dsimp only
      omega
    ·rw [decide_eq_true q,if_pos rfl]
     have sl2:s.seen.length + 1 ≤ V.length:=by
      have:=List.Nodup.length_le_of_subset (l₁:=s.seen++[x]) (l₂:=V) (nodup_put ki.nd q) fun y hy=>by
       rcases List.mem_append.mp hy with z | z
       ·exact ki.sub y z
       ·simp at z; subst z; exact xV
      simpa using this
     obtain ⟨nl,_⟩:=fv x xV
     refine q_blk ?_
     refine q_addS (a:=1) (i:=H1.length) (l:=s.seen) (x:=x) rfl oh0 (var_h rfl) q (by omega) ?_
     rw [os0]
     refine q_blk ?_
     refine q_append (a:=3) (i:=H1.length + 2) (xs:=wtD w) (v:=.tup [.int x,.bl true]) rfl oh2 (by rw [wtD_len]; omega) (eTup2 (var_h rfl) rfl) ?_
     rw [wtD_snoc,os2]
     refine q_blk ?_
     generalize hX:ordH H1 ⟨s.seen++[x],s.ord,w++[(x,true)]⟩ j = X
     have x2:X[H1.length + 2]? = some (.lst (wtD (w++[(x,true)]))):=by rw [← hX]; exact oh2
     have xg:GF X b c V f:=by rw [← hX]; exact gf.app
     have c2:eComp [none] (iSeqL (e2 fDget (eVar 0) (eVar 4))) (gN 0) (fun _=>pure true) (eTup (aCons (eVar 0) (aCons (fun _=>pure (.bl false)) aNil))) [some (.ref b),some (.ref H1.length),some (.ref (H1.length + 1)),some (.ref (H1.length + 2)),some (.int x),some (.bl false)] X = .ok (.ref X.length) (X++[.lst (wtD ((nx st x).map fun y=>(y,false)))]):=by
      refine (comp_st (l:=nx st x) (src:=.lst (c + V.idxOf x) (stD (nx st x))) (fun _=>true) (fun y=>.tup [.int y,.bl false]) (seqL_h (e2_h (var_h rfl) (var_h rfl) (dget_h (.inr xg.d) xV)) (by rw [xg.r x xV,fs x xV])) rfl (fun k=>at_app (by rw [xg.r x xV,fs x xV])) (by omega) fun y hy=>⟨[some (.int y)],fun _=>rfl,fun _=>rfl,fun _ k=>eTup2 (var_h rfl) rfl⟩).trans ?_
      rw [List.filter_eq_self.mpr (by simp)]
      unfold wtD
      rw [List.map_map]
      rfl
     refine q_ext (a:=3) (i:=H1.length + 2) (xs:=wtD (w++[(x,true)])) (ys:=wtD ((nx st x).map fun y=>(y,false))) (y:=.ref X.length) (h1:=X++[.lst (wtD ((nx st x).map fun y=>(y,false)))]) rfl x2 c2 (at_app x2) (.inr ⟨_,rfl,at_nw⟩) (by rw [wtD_len,wtD_len]; simp; omega) ?_
     rw [wtD_app,← hX,oh_app,os2]
     refine q_nil (q_nil (q_done ⟨m - 1,Nat.le_refl _,n + 1,⟨s.seen++[x],s.ord,w++[(x,true)]++(nx st x).map fun y=>(y,false)⟩,_,_,_,rfl,rfl,?_,by omega,?_⟩))
     ·rw [← sn]
      unfold kStep
      rw [e,List.getLast?_append,List.dropLast_concat]
      show _ = if x ∈ s.seen then _ else _
      rw [if_neg q]
     ·unfold kMu at hm ⊢
      simp only [List.length_append,List.length_map,List.length_cons,List.length_nil]
      omega
def gS (n:Nat) (V:List Nat) (f:Nat→List Nat):List (List Nat):=(List.range n).map fun x=>if x ∈ V then f x else []
section
variable {n:Nat} {V:List Nat} {f:Nat→List Nat}
theorem nx_gS (hV:∀ x ∈ V,x < n) (x:Nat):nx (gS n V f) x = if x ∈ V then f x else []:=by
 unfold nx gS
 by_cases hx:x < n
 ·rw [List.getElem?_map,List.getElem?_range hx]; rfl
 ·rw [List.getElem?_eq_none (by simpa using hx),if_neg fun q=>hx (hV x q)]; rfl
theorem gS_in (hV:∀ x ∈ V,x < n) (fv:∀ x ∈ V,∀ y ∈ f x,y ∈ V) {x y:Nat} (h:y ∈ nx (gS n V f) x):x ∈ V∧y ∈ V∧y ∈ f x:=by
 rw [nx_gS hV] at h
 split at h
 ·rename_i hx; exact ⟨hx,fv x hx y h,h⟩
 ·cases h
theorem trn_gS (hV:∀ x ∈ V,x < n) (fv:∀ x ∈ V,∀ y ∈ f x,y ∈ V):Trn (gS n V f) (gS n V (trn V f)):=by
 intro x y
 rw [nx_gS hV,nx_gS hV]
 constructor
 ·intro h
  split at h
  ·unfold trn at h
   obtain ⟨h1,h2⟩:=List.mem_filter.mp h
   rw [if_pos h1]
   simpa using h2
  ·cases h
 ·intro h
  split at h
  ·rename_i hy
   rw [if_pos (fv y hy x h)]
   unfold trn
   exact List.mem_filter.mpr ⟨hy,by simpa using h⟩
  ·cases h
end
noncomputable def prts (n:Nat) (V:List Nat) (f:Nat→List Nat):List (List Nat):=partsOf (gS n V f) V (kEnd (gS n V (trn V f)) V).reverse
theorem sts_snoc (l:List (List Nat)) (r:List Nat):stsD l++[.tup (stD r)] = stsD (l++[r]):=by unfold stsD; rw [List.map_append]; rfl
theorem knots_h {H:AH} {b c n:Nat} {V:List Nat} {f:Nat→List Nat} (g:GH H b c V f) (rs:V.Pairwise (· < ·)) (hV:∀ x ∈ V,x < n) (hn:n ≤ 40) (fv:∀ x ∈ V,(f x).Nodup∧∀ y ∈ f x,y ∈ V) :
 m_knots [.ref b] H = .ok (.ref H.length) (H.set b (.dF (kvF c V))++[.lst (stsD (prts n V f))]):=by
 have nd:=rise_nd rs
 have vl:V.length ≤ 40:=Nat.le_trans (nodup_len nd hV) hn
 have fv2:∀ x ∈ V,∀ y ∈ f x,y ∈ V:=fun x hx=>(fv x hx).2
 have gf:=g.frz
 have lH:(H.set b (.dF (kvF c V))).length = H.length:=by simp
 have kp:=g.kept nd g.cl
 have rl:c + V.length ≤ H.length:=rows_le nd g.cl g.r
 have hv1:∀ x ∈ V,∀ y ∈ nx (gS n V f) x,y ∈ V:=fun x hx y hy=>(gS_in hV fv2 hy).2.1
 have tv:∀ x ∈ V,∀ y ∈ trn V f x,y ∈ V:=fun x hx y hy=>(List.mem_filter.mp hy).1
 have t12:Trn (gS n V f) (gS n V (trn V f)):=trn_gS hV fv2
 suffices z:W (runF 4 b_knots [.ref b]) H fun d h'=>d = .ref (H.length + 1)∧∃ T k,h' = H.set b (.dF (kvF c V))++(.dK (kvN T) :: .lst (stsD (prts n V f)) :: k) by
  obtain ⟨d,h',e,rfl,T,k,rfl⟩:=z
  show cln (runF 4 b_knots [.ref b]) H = _
  unfold cln
  rw [e]
  dsimp only
  rw [if_pos ⟨by simp,kp _⟩]
  have r1:refLt H.length (.ref (H.length + 1)) = false:=by simp [refLt]
  rw [if_neg (by rw [r1]; decide)]
  have a1:=am1 (h:=H.set b (.dF (kvF c V))) (o:=.dK (kvN T)) (o':=.lst (stsD (prts n V f))) (j:=k)
  rw [lH] at a1
  rw [a1]
  dsimp only
  rw [if_pos (by simp only [refO]; exact refLts_map fun a=>ref_st a)]
  congr 1
  rw [← lH,List.take_append_of_le_length (Nat.le_refl _),List.take_length]
 refine w_run ?_
 show W (b_knots [some (.ref b),none,none,none]) H _
 unfold b_knots
 have n1:newK [] H = .ok (.ref H.length) (H++[.dK (kvN [])]):=rfl
 refine q_seth (.ref H.length) [some (.ref b),some (.ref H.length),none,none] n1 rfl ?_
 refine q_new (xs:=[]) (by simp) (fun h=>rfl) ?_
 rw [show (H++[O.dK (kvN [])]).length = H.length + 1 by simp]
 have g0:GH (H++[.dK (kvN [])]++[.lst []]) b c V f:=g.app.app
 obtain ⟨b2,c2,k,e1,g2,lb⟩:=turned_h g0 g0.cl nd (by omega) fv
 have s0:(H++[O.dK (kvN [])]++[O.lst []]).set b (.dF (kvF c V)) = H.set b (.dF (kvF c V))++[.dK (kvN []),.lst []]:=by rw [List.append_assoc,List.set_append_left _ _ g.lt]; rfl
 rw [s0] at e1 g2
 have lb':H.length + 2 ≤ b2:=by simpa using lb
 have ke0:∀ x ∈ V,trn V f x = nx (gS n V (trn V f)) x:=fun x hx=>by rw [nx_gS hV,if_pos hx]
 have e2':=order_h (st:=gS n V (trn V f)) g2 g2.cl nd vl ke0 fun x hx=>by
  rw [← ke0 x hx]
  exact ⟨Nat.le_trans (List.length_filter_le _ _) vl,tv x hx⟩
 have ke:KEnd (gS n V (trn V f)) V (kEnd (gS n V (trn V f)) V):=kEnd_is (fun x hx=>by
  rw [← ke0 x hx]
  exact ⟨Nat.le_trans (List.length_filter_le _ _) vl,tv x hx⟩) vl
 generalize hO:kEnd (gS n V (trn V f)) V = O' at *
 generalize hH1:H.set b (.dF (kvF c V)) = H1 at *
 have s2:(H1++[O.dK (kvN []),O.lst []]++k).set b2 (.dF (kvF c2 V))++[O.lst (stD O')] = H1++(.dK (kvN []) :: .lst (stsD []) :: (k.set (b2 - (H.length + 2)) (.dF (kvF c2 V))++[.lst (stD O')])):=by
  rw [List.append_assoc,List.set_append_right _ _ (by omega),List.set_append_right _ _ (by simp; omega),List.append_assoc,List.append_assoc]
  congr 1
  show [O.dK (kvN []),O.lst []]++_ = [O.dK (kvN []),O.lst []]++_
  congr 3
  simp
  omega
 rw [s2] at e2'
 have li:(H1++[O.dK (kvN []),O.lst []]++k).length = H.length + 2 + k.length:=by simp; omega
 rw [li] at e2'
 generalize hk3:k.set (b2 - (H.length + 2)) (.dF (kvF c2 V))++[O.lst (stD O')] = k3 at *
 have k3i:k3[k.length]? = some (.lst (stD O')):=by rw [← hk3,List.getElem?_append_right (by simp)]; simp
 have atO:∀ (o o':O),(H1++(o :: o' :: k3))[H.length + 2 + k.length]? = some (.lst (stD O')):=fun o o'=>by
  rw [List.getElem?_append_right (by omega),show H.length + 2 + k.length - H1.length = k.length + 2 by omega]
  exact k3i
 have src:iRevL (eFn 1 m_ending_order (aCons (eFn 1 m_turned (aCons (eVar 0) aNil)) aNil)) [some (.ref b),some (.ref H.length),some (.ref (H.length + 1)),none] (H++[.dK (kvN [])]++[.lst []]) = .ok (.obj (H.length + 2 + k.length) (.lst (stD O')) (stD O').reverse) (H1++(.dK (kvN []) :: .lst (stsD []) :: k3)):=by
  have a1:=fn_h (n:=1) (f:=m_ending_order) (γ:=[some (.ref b),some (.ref H.length),some (.ref (H.length + 1)),none]) (mr:=aCons (eFn 1 m_turned (aCons (eVar 0) aNil)) aNil) (h:=H++[.dK (kvN [])]++[.lst []]) (ac_h (fn_h (ds:=[.ref b]) (ac_h (var_h rfl) rfl) rfl e1) rfl) rfl e2'
  have gl:getL (H.length + 2 + k.length) (H1++(.dK (kvN []) :: .lst (stsD []) :: k3)) = .ok (stD O') (H1++(.dK (kvN []) :: .lst (stsD []) :: k3)):=by unfold getL; rw [atO]
  unfold iRevL
  rw [M.bind_ok a1]
  dsimp only
  rw [M.bind_ok gl]
  rfl
 rw [w_cons]
 refine for_src (fun t γ h'=>∃ T w3,γ = [some (.ref b),some (.ref H.length),some (.ref (H.length + 1)),w3]∧h' = H1++(.dK (kvN T) :: .lst (stsD (partsOf (gS n V f) V (O'.reverse.take t))) :: k3)∧MI (gS n V f) V (O'.reverse.take t).reverse T∧T.Nodup∧∀ a,a ∈ T ↔ a ∈ (partsOf (gS n V f) V (O'.reverse.take t)).flatten) (fun _ _=>False) ?_
 refine W_of src ⟨⟨[],none,rfl,rfl,⟨(fun a ha=>by cases ha),(fun a ha=>by simp at ha),(fun a ha=>by cases ha)⟩,List.nodup_nil,fun a=>by simp [partsOf]⟩,?_,?_,?_,fun _ _ q=>q.elim⟩
 ·rintro t _ _ ⟨T,w3,rfl,rfl,_⟩
  exact atO _ _
 ·rintro t d _ _ ed ⟨T,w3,rfl,rfl,mi,tn,tm⟩
  have ed:(stD O').reverse[t]? = some d:=ed
  rw [show (stD O').reverse = stD O'.reverse by unfold stD; rw [List.map_reverse]] at ed
  obtain ⟨x,rfl,ex⟩:=st_get ed
  obtain ⟨ht,xt⟩:=List.getElem?_eq_some_iff.mp ex
  have xO:x ∈ O':=by have:=List.mem_of_getElem? ex; simpa using this
  have xV:=(ke.mem x).mp xO
  have cut:O' = (O'.reverse.drop (t + 1)).reverse++x :: (O'.reverse.take t).reverse:=by
   conv=>lhs; rw [← List.reverse_reverse O',← List.take_append_drop t O'.reverse,List.drop_eq_getElem_cons ht,xt]
   simp
  have nxt:O'.reverse.take (t + 1) = O'.reverse.take t++[x]:=by rw [List.take_succ_eq_append_getElem ht,xt]
  have rv:(O'.reverse.take (t + 1)).reverse = x :: (O'.reverse.take t).reverse:=by rw [nxt,List.reverse_append]; rfl
  refine W_of (v:=[some (.ref b),some (.ref H.length),some (.ref (H.length + 1)),some (.int x)]) rfl ?_
  have aT:∀ T P,(H1++(O.dK (kvN T) :: O.lst P :: k3))[H.length]? = some (.dK (kvN T)):=fun T P=>by rw [← lH]; exact am0
  have aP:∀ T P,(H1++(O.dK (kvN T) :: O.lst P :: k3))[H.length + 1]? = some (.lst P):=fun T P=>by rw [← lH]; exact am1
  refine q_ifh (decide (x ∉ T)) ?_ ?_
  ·refine (cb_h (e2_h (var_h rfl) (var_h rfl) (w_inD (n:=H.length) (x:=x) (neg:=true) (l:=T) (aT _ _)))).trans ?_
   by_cases q:x ∈ T <;> simp [q]
  by_cases q:x ∈ T
  ·rw [decide_eq_false (fun z=>z q),if_neg (by decide)]
   have ep:partsOf (gS n V f) V (O'.reverse.take (t + 1)) = partsOf (gS n V f) V (O'.reverse.take t):=by
    rw [nxt,parts_snoc]
    unfold addP
    rw [if_pos ((tm x).mp q)]
   refine q_nil (q_done ⟨T,_,rfl,by rw [ep],by rw [rv]; exact mi_skip mi q,tn,fun a=>by rw [ep]; exact tm a⟩)
  ·rw [decide_eq_true q,if_pos rfl]
   have tk:=take_h (st:=gS n V f) (ld:=.ref b) (T:=T) (x:=x) (n:=H.length) (N:=n) (h:=H1++(.dK (kvN T) :: .lst (stsD (partsOf (gS n V f) V (O'.reverse.take t))) :: k3)) (aT _ _) q tn (fun a ha=>hV a (mi.tv a ha)) (by omega) (fun a b hb=>hV b (gS_in hV fv2 hb).2.1) (hV x xV) (fun h1 ag a ra p w bb=>by
    have aV:a ∈ V:=by
     have:∀ {y},RchT (gS n V f) T x y→y ∈ V:=fun h=>by
      induction h with
      | here=>exact xV
      | step _ h2 _ _=>exact (gS_in hV fv2 h2).2.1
     exact this ra
    have ia:=List.idxOf_lt_length_of_mem aV
    have d1:∀ h2:AH,(∀ i,i < (H1++(O.dK (kvN T) :: O.lst (stsD (partsOf (gS n V f) V (O'.reverse.take t))) :: k3)).length→i ≠ H.length→h2[i]? = (H1++(O.dK (kvN T) :: O.lst (stsD (partsOf (gS n V f) V (O'.reverse.take t))) :: k3))[i]?)→h2[b]? = some (.dF (kvF c V))∧h2[c + V.idxOf a]? = some (.lst (stD (f a))):=fun h2 ag=>by
     have bl:=g.lt
     refine ⟨?_,?_⟩
     ·rw [ag b (by simp; omega) (by omega)]; exact gf.app.d
     ·rw [ag _ (by simp; omega) (by omega)]; exact gf.app.r a aV
    refine ⟨.lst (c + V.idxOf a) (stD (f a)),seqL_h (e2_h (var_h rfl) (var_h rfl) (dget_h (.inr (d1 h1 ag).1) aV)) (d1 h1 ag).2,?_,fun h2 ag2=>(d1 h2 ag2).2⟩
    rw [nx_gS hV,if_pos aV]
    rfl)
   obtain ⟨S,et,fs,cs⟩:=tk
   have pi:=part_is hv1 t12 ke cut mi q fs cs
   have es:setN S = scc (gS n V f) V x:=rise_ext (setN_rise S) (by unfold scc; exact rs.filter _) fun a=>by rw [setN_mem]; exact pi a
   rw [es,← lH,sm0,lH] at et
   have ep:partsOf (gS n V f) V (O'.reverse.take (t + 1)) = partsOf (gS n V f) V (O'.reverse.take t)++[scc (gS n V f) V x]:=by
    rw [nxt,parts_snoc]
    unfold addP
    rw [if_neg fun z=>q ((tm x).mpr z)]
   refine q_blk ?_
   refine q_appG (a:=2) (i:=H.length + 1) (xs:=stsD (partsOf (gS n V f) V (O'.reverse.take t))) rfl (aP _ _) (fn_h (ds:=[.ref b,.int x,.ref H.length]) (ac_h (var_h rfl) (ac_h (var_h rfl) (ac_h (var_h rfl) rfl))) rfl et) (aP _ _) ?_ ?_
   ·rw [sts_len]
    have h1:=parts_len (st:=gS n V f) (V:=V) (O'.reverse.take t)
    rw [List.length_take,List.length_reverse] at h1
    have h2:=List.Nodup.length_le_of_subset ke.nd fun y hy=>(ke.mem y).mp hy
    omega
   ·rw [sts_snoc,← ep,← lH,sm1,lH]
    refine q_nil (q_done ⟨T++S,_,rfl,rfl,by rw [rv]; exact mi_put hv1 t12 ke cut mi q fs cs,?_,fun a=>?_⟩)
    ·rw [List.nodup_append]
     exact ⟨tn,fs.nd,fun a ha b hb h=>fs.nt b hb (h ▸ ha)⟩
    ·rw [ep,List.flatten_append,List.mem_append,List.mem_append,tm a]
     simp only [List.flatten_cons,List.flatten_nil,List.append_nil]
     rw [pi a]
 ·rintro _ _ ⟨T,w3,rfl,rfl,mi,tn,tm⟩
  refine q_reth (.ref (H.length + 1)) (var_h rfl) ⟨rfl,T,k3,?_⟩
  rw [show (Src.obj (H.length + 2 + k.length) (O.lst (stD O')) (stD O').reverse).items.length = O'.reverse.length by show (stD O').reverse.length = _; simp [st_len],List.take_length]
  unfold prts
  rw [hO]
structure PF (s1:List (List Nat)) (V:List Nat) (P:List (List Nat)):Prop where
 nd:P.flatten.Nodup
 is:∀ p ∈ P,∃ x ∈ V,p = scc s1 V x
 cl:∀ k a b,a ∈ (P.take k).flatten→b ∈ nx s1 a→b ∈ (P.take k).flatten
section
variable {s1 s2:List (List Nat)} {V:List Nat}
open Classical in
theorem part_ex {O l done T:List Nat} {x:Nat} (nd:V.Nodup) (hv:∀ x ∈ V,∀ y ∈ nx s1 x,y ∈ V) (t:Trn s1 s2) (ke:KEnd s2 V O) (e:O = l++x :: done) (m:MI s1 V done T) (hx:x ∉ T):∃ S,FndT s1 T x S∧∀ a ∈ S,∀ b ∈ nx s1 a,b ∈ S∨b ∈ T:=by
 have xV:x ∈ V:=(ke.mem x).mp (by rw [e]; simp)
 have inV:∀ {y},RchT s1 T x y→y ∈ V:=fun h=>by
  induction h with
  | here=>exact xV
  | step _ h2 _ ih=>exact hv _ ih _ h2
 have nt:∀ {y},RchT s1 T x y→y ∉ T:=fun h=>by
  cases h with
  | here=>exact hx
  | step _ _ h3=>exact h3
 refine ⟨V.filter fun a=>decide (RchT s1 T x a),⟨nd.filter _,fun a ha=>?_,?_,fun a ha=>?_⟩,fun a ha b hb=>?_⟩
 ·simpa using (List.mem_filter.mp ha).2
 ·exact List.mem_filter.mpr ⟨xV,by simpa using RchT.here⟩
 ·exact nt (by simpa using (List.mem_filter.mp ha).2)
 ·have ra:RchT s1 T x a:=by simpa using (List.mem_filter.mp ha).2
  by_cases q:b ∈ T
  ·exact .inr q
  ·exact .inl (List.mem_filter.mpr ⟨hv a (inV ra) b hb,by simpa using ra.step hb q⟩)
theorem pf_run {O:List Nat} (nd:V.Nodup) (hv:∀ x ∈ V,∀ y ∈ nx s1 x,y ∈ V) (t:Trn s1 s2) (ke:KEnd s2 V O):∀ k,k ≤ O.length→∃ T,MI s1 V (O.reverse.take k).reverse T∧(∀ a,a ∈ T ↔ a ∈ (partsOf s1 V (O.reverse.take k)).flatten)∧PF s1 V (partsOf s1 V (O.reverse.take k))
 | 0,_=>⟨[],⟨(fun a ha=>by cases ha),(fun a ha=>by simp at ha),(fun a ha=>by cases ha)⟩,fun a=>by simp [partsOf],⟨by simp [partsOf],by simp [partsOf],by simp [partsOf]⟩⟩
 | k + 1,hk=>by
  obtain ⟨T,mi,tm,pf⟩:=pf_run nd hv t ke k (by omega)
  have ht:k < O.reverse.length:=by rw [List.length_reverse]; omega
  obtain ⟨x,xt⟩:∃ x,O.reverse[k] = x:=⟨_,rfl⟩
  have cut:O = (O.reverse.drop (k + 1)).reverse++x :: (O.reverse.take k).reverse:=by
   conv=>lhs; rw [← List.reverse_reverse O,← List.take_append_drop k O.reverse,List.drop_eq_getElem_cons ht,xt]
   simp
  have nxt:O.reverse.take (k + 1) = O.reverse.take k++[x]:=by rw [List.take_succ_eq_append_getElem ht,xt]
  have rv:(O.reverse.take (k + 1)).reverse = x :: (O.reverse.take k).reverse:=by rw [nxt,List.reverse_append]; rfl
  have xV:x ∈ V:=(ke.mem x).mp (by rw [cut]; simp)
  rw [rv,nxt,parts_snoc]
  by_cases q:x ∈ T
  ·unfold addP
   rw [if_pos ((tm x).mp q)]
   exact ⟨T,mi_skip mi q,tm,pf⟩
  ·unfold addP
   rw [if_neg fun z=>q ((tm x).mpr z)]
   obtain ⟨S,fs,cs⟩:=part_ex nd hv t ke cut mi q
   have pi:=part_is hv t ke cut mi q fs cs
   have mi2:=mi_put hv t ke cut mi q fs cs
   have tm2:∀ a,a ∈ T++S ↔ a ∈ (partsOf s1 V (O.reverse.take k)++[scc s1 V x]).flatten:=fun a=>by
    rw [List.flatten_append,List.mem_append,List.mem_append,tm a]
    simp only [List.flatten_cons,List.flatten_nil,List.append_nil]
    rw [pi a]
   refine ⟨T++S,mi2,tm2,⟨?_,fun p hp=>?_,fun j a b ha hb=>?_⟩⟩
   ·rw [List.flatten_append,List.nodup_append]
    refine ⟨pf.nd,by simp only [List.flatten_cons,List.flatten_nil,List.append_nil]; exact nd.filter _,fun a ha b hb h=>?_⟩
    simp only [List.flatten_cons,List.flatten_nil,List.append_nil] at hb
    exact fs.nt b ((pi b).mpr hb) ((tm b).mpr (h ▸ ha))
   ·rcases List.mem_append.mp hp with z | z
    ·exact pf.is p z
    ·simp at z; subst z; exact ⟨x,xV,rfl⟩
   ·by_cases hj:j ≤ (partsOf s1 V (O.reverse.take k)).length
    ·rw [List.take_append_of_le_length hj] at ha ⊢
     exact pf.cl j a b ha hb
    ·rw [List.take_of_length_le (by simp; omega)] at ha ⊢
     exact (tm2 b).mp (mi2.cl a ((tm2 a).mpr ha) b hb)
end
theorem pf_prts {n:Nat} {V:List Nat} {f:Nat→List Nat} (nd:V.Nodup) (hV:∀ x ∈ V,x < n) (hn:n ≤ 40) (fv:∀ x ∈ V,∀ y ∈ f x,y ∈ V):PF (gS n V f) V (prts n V f)∧∀ a,a ∈ (prts n V f).flatten ↔ a ∈ V:=by
 have vl:V.length ≤ 40:=Nat.le_trans (nodup_len nd hV) hn
 have hv1:∀ x ∈ V,∀ y ∈ nx (gS n V f) x,y ∈ V:=fun x hx y hy=>(gS_in hV fv hy).2.1
 have tv:∀ x ∈ V,∀ y ∈ trn V f x,y ∈ V:=fun x hx y hy=>(List.mem_filter.mp hy).1
 have ke:KEnd (gS n V (trn V f)) V (kEnd (gS n V (trn V f)) V):=kEnd_is (fun x hx=>by
  rw [nx_gS hV,if_pos hx]
  exact ⟨Nat.le_trans (List.length_filter_le _ _) vl,tv x hx⟩) vl
 obtain ⟨T,mi,tm,pf⟩:=pf_run nd hv1 (trn_gS hV fv) ke _ (Nat.le_refl _)
 rw [List.take_of_length_le (by simp)] at mi tm pf
 refine ⟨pf,fun a=>?_⟩
 show a ∈ (partsOf (gS n V f) V (kEnd (gS n V (trn V f)) V).reverse).flatten ↔ _
 rw [← tm a]
 exact ⟨fun h=>mi.tv a h,fun h=>mi.dn a (by simpa using (ke.mem a).mpr h)⟩
theorem strong_p {st:List (List Nat)} {mk:List (List Str)} {V:List Nat} (q:SQ st) (sr:∀ l ∈ st,l.Pairwise (· < ·)) (rs:V.Pairwise (· < ·)) (hV:∀ x ∈ V,x < st.length):m_strong_parts [maD st mk,.tup (stD V)] = newL (stsD (prts st.length V (inV st V))):=by
 have rl:∀ l ∈ st,l.length ≤ 1000:=fun l hl=>Nat.le_trans (rise_len (sr l hl) (q.s2 l hl)) (by have:=q.l2; omega)
 have nd:=rise_nd rs
 have vl:V.length ≤ 40:=Nat.le_trans (nodup_len nd hV) q.l2
 have fv:∀ x ∈ V,(inV st V x).Nodup∧∀ y ∈ inV st V x,y ∈ V:=fun x hx=>⟨(rise_nd (sr _ (List.mem_of_getElem? (nx_get (hV x hx))))).filter _,fun y hy=>by simpa using (List.mem_filter.mp hy).2⟩
 have pl:(stsD (prts st.length V (inV st V))).length ≤ 1000000:=by
  rw [sts_len]
  have h1:=parts_len (st:=gS st.length V (inV st V)) (V:=V) (kEnd (gS st.length V (trn V (inV st V))) V).reverse
  have h2:(kEnd (gS st.length V (trn V (inV st V))) V).length ≤ V.length:=by
   have tv:∀ x ∈ V,∀ y ∈ trn V (inV st V) x,y ∈ V:=fun x hx y hy=>(List.mem_filter.mp hy).1
   have ke:KEnd (gS st.length V (trn V (inV st V))) V (kEnd (gS st.length V (trn V (inV st V))) V):=kEnd_is (fun x hx=>by
    rw [nx_gS hV,if_pos hx]
    exact ⟨Nat.le_trans (List.length_filter_le _ _) vl,tv x hx⟩) vl
   exact List.Nodup.length_le_of_subset ke.nd fun y hy=>(ke.mem y).mp hy
  rw [List.length_reverse] at h1
  unfold prts
  omega
 refine funext fun h=>?_
 obtain ⟨b,c,k,e1,g,lb⟩:=inside_h (mk:=mk) (h:=h) q rl nd hV
 have e2':=knots_h (n:=st.length) g rs hV q.l2 fv
 have bl:=g.lt
 rw [new_h pl]
 refine cln_ref (i:=(h++k).length) (xs:=stsD (prts st.length V (inV st V))) (j:=k.set (b - h.length) (.dF (kvF c V))++[.lst (stsD (prts st.length V (inV st V)))]) ?_ (by simp) ?_ (refLts_map fun a=>ref_st a)
 ·refine run_h ?_
  show W (b_strong_parts [some (maD st mk),some (.tup (stD V))]) h _
  unfold b_strong_parts
  refine q_reth (.ref (h++k).length) (fn_h (ds:=[.ref b]) (ac_h (fn_h (ds:=[maD st mk,.tup (stD V)]) (ac_h (var_h rfl) (ac_h (var_h rfl) rfl)) rfl e1) rfl) rfl e2') ⟨rfl,?_⟩
  rw [List.set_append_right _ _ lb,List.append_assoc]
 ·rw [← List.append_assoc,List.getElem?_append_right (by simp)]
  simp
def Grows (h h':AH):Prop:=∀ (i:Nat) (o:O),h[i]? = some o→h'[i]? = some o
theorem grows_app (h j:AH):Grows h (h++j):=fun i o e=>at_app e
theorem clt_h {ma mb:G→M D} {γ:G} {h:AH} {a b:Nat} (e1:ma γ h = .ok (.int (a:Nat)) h) (e2':mb γ h = .ok (.int (b:Nat)) h):(fun γ=>(do let d ← e2 fLt ma mb γ; asB d:M Bool)) γ h = .ok (decide (a < b)) h:=by
 refine cb_h (e2_h e1 e2' ?_)
 show Res.ok (D.bl (decide ((a:Int) < b))) h = _
 congr 2
 rw [Bool.eq_iff_iff,decide_eq_true_eq,decide_eq_true_eq]
 omega
theorem inT_h {h:AH} {l:List Nat} {x:Nat} {neg:Bool}:fIn neg (.int (x:Nat)) (.tup (stD l)) h = .ok (.bl (decide (x ∈ l) != neg)) h:=by
 rw [in_st]; rfl
theorem walk_h {ah:D} {nb:Nat→List Nat} {V:List Nat} {s:List (List Nat)} {one:Nat} {h:AH} (nd:V.Nodup) (vl:V.length ≤ 40) (ho:one ∈ V) (hs:∀ a ∈ V,∀ b,b ∈ nx s a ↔ b ∈ nb a∧b ∈ V)
 (hrow:∀ a ∈ V,∀ (h':AH),Grows h h'→∀ (me:G→M D) (γ:G),me γ h' = .ok (.int (a:Nat)) h'→γ[0]? = some (some ah)→∃ src,orE (iSeqT (e2 fIx (eVar 0) me)) (iSeqL (e2 fIx (eVar 0) me)) γ h' = .ok src h'∧src.items = stD (nb a)∧∀ h'',Grows h h''→src.good h'') :
 ∃ F,m__law_walk [ah,.tup (stD V),.int (one:Nat)] h = .ok (.ref h.length) (h++[.lst (stD F)])∧F.Nodup∧∀ a,a ∈ F ↔ Rch s one a:=by
 have sv:∀ x ∈ V,∀ y ∈ nx s x,y ∈ V:=fun x hx y hy=>((hs x hx y).mp hy).2
 suffices z:W (runF 6 b__law_walk [ah,.tup (stD V),.int (one:Nat)]) h fun d h'=>d = .ref h.length∧∃ F,h' = h++[.lst (stD F)]∧F.Nodup∧∀ a,a ∈ F ↔ Rch s one a by
  obtain ⟨d,h',e,rfl,F,rfl,f1,f2⟩:=z
  exact ⟨F,cln_ref e (Nat.le_refl _) at_nw (refs_st F),f1,f2⟩
 refine w_run ?_
 show W (b__law_walk [some ah,some (.tup (stD V)),some (.int (one:Nat)),none,none,none]) h _
 unfold b__law_walk
 refine q_new (xs:=stD [one]) (by simp [stD]) (fun h=>rfl) ?_
 refine q_set (.int (0:Nat)) [some ah,some (.tup (stD V)),some (.int (one:Nat)),some (.ref h.length),some (.int (0:Nat)),none] rfl rfl ?_
 refine while_q (m:=V.length) (fun m γ h'=>∃ (F:List Nat) (i:Nat) (w5:Option D),γ = [some ah,some (.tup (stD V)),some (.int (one:Nat)),some (.ref h.length),some (.int (i:Nat)),w5]∧h' = h++[.lst (stD F)]∧F.Nodup∧(∀ a ∈ F,a ∈ V∧Rch s one a)∧one ∈ F∧i ≤ F.length∧(∀ t a,t < i→F[t]? = some a→∀ b ∈ nb a,b ∈ V→b ∈ F)∧m + i = V.length) (by omega) ⟨[one],0,none,rfl,rfl,by simp,fun a ha=>by simp at ha; subst ha; exact ⟨ho,.here⟩,by simp,by omega,fun t a ht=>by omega,by omega⟩ ?_
 rintro m _ _ ⟨F,i,w5,rfl,rfl,fn,fr,fo,il,fc,me⟩
 have fl:F.length ≤ V.length:=List.Nodup.length_le_of_subset fn fun a ha=>(fr a ha).1
 refine ⟨decide (i < F.length),clt_h (var_h rfl) (call1_h (var_h rfl) (by rw [len_h at_nw,st_len])),?_⟩
 by_cases hi:i < F.length
 ·rw [decide_eq_true hi,if_pos rfl]
  obtain ⟨y,ey⟩:∃ y,F[i]? = some y:=⟨_,List.getElem?_eq_getElem hi⟩
  have yF:=List.mem_of_getElem? ey
  obtain ⟨yV,yr⟩:=fr y yF
  refine ⟨m - 1,by omega,?_⟩
  rw [w_cons]
  refine for_src (fun c γ h'=>∃ (F':List Nat) (w5:Option D),γ = [some ah,some (.tup (stD V)),some (.int (one:Nat)),some (.ref h.length),some (.int (i:Nat)),w5]∧h' = h++[.lst (stD F')]∧F'.Nodup∧(∀ a ∈ F',a ∈ V∧Rch s one a)∧(∃ k,F' = F++k)∧∀ b ∈ (nb y).take c,b ∈ V→b ∈ F') (fun _ _=>False) ?_
  obtain ⟨src,e1,e2',e3⟩:=hrow y yV (h++[.lst (stD F)]) (grows_app _ _) (e2 fIx (eVar 3) (eVar 4)) [some ah,some (.tup (stD V)),some (.int (one:Nat)),some (.ref h.length),some (.int (i:Nat)),w5] (e2_h (var_h rfl) (var_h rfl) (ix_h at_nw (atI_nat (by unfold stD; rw [List.getElem?_map,ey]; rfl)))) rfl
  refine W_of e1 ?_
  refine ⟨⟨F,w5,rfl,rfl,fn,fr,⟨[],by simp⟩,by simp⟩,?_,?_,?_,fun _ _ q=>q.elim⟩
  ·rintro c _ _ ⟨F',w,rfl,rfl,_⟩
   exact e3 _ (grows_app _ _)
  ·rintro c d _ _ ed ⟨F',w,rfl,rfl,fn',fr',⟨k,hk⟩,fc'⟩
   rw [e2'] at ed
   obtain ⟨b,rfl,eb⟩:=st_get ed
   obtain ⟨hc,bc⟩:=List.getElem?_eq_some_iff.mp eb
   have bn:b ∈ nb y:=List.mem_of_getElem? eb
   have fl':F'.length ≤ V.length:=List.Nodup.length_le_of_subset fn' fun a ha=>(fr' a ha).1
   refine W_of (v:=[some ah,some (.tup (stD V)),some (.int (one:Nat)),some (.ref h.length),some (.int (i:Nat)),some (.int (b:Nat))]) rfl ?_
   have tk:(nb y).take (c + 1) = (nb y).take c++[b]:=by rw [List.take_succ_eq_append_getElem hc,bc]
   by_cases q:b ∈ V∧b ∉ F'
   ·refine q_ifh true ?_ ?_
    ·refine (candh_t ((cb_h (e2_h (var_h rfl) (var_h rfl) inT_h)).trans (by rw [decide_eq_true q.1]; rfl))).trans ?_
     refine (cb_h (e2_h (var_h rfl) (var_h rfl) (in_refh at_nw))).trans ?_
     rw [decide_eq_false q.2]; rfl
    ·rw [if_pos rfl]
     refine q_blk ?_
     refine q_append (a:=3) (i:=h.length) (xs:=stD F') (v:=.int (b:Nat)) rfl at_nw (by rw [st_len]; omega) (var_h rfl) ?_
     rw [st_snoc,set_nw]
     refine q_nil (q_done ⟨F'++[b],_,rfl,rfl,nodup_put fn' q.2,fun a ha=>?_,⟨k++[b],by rw [hk,List.append_assoc]⟩,fun x hx xV=>?_⟩)
     ·rcases List.mem_append.mp ha with z | z
      ·exact fr' a z
      ·simp at z; subst z; exact ⟨q.1,yr.step ((hs y yV _).mpr ⟨bn,q.1⟩)⟩
     ·rw [tk] at hx
      rcases List.mem_append.mp hx with z | z
      ·exact List.mem_append_left _ (fc' x z xV)
      ·simp at z; subst z; simp
   ·refine q_ifh false ?_ ?_
    ·by_cases bV:b ∈ V
     ·refine (candh_t ((cb_h (e2_h (var_h rfl) (var_h rfl) inT_h)).trans (by rw [decide_eq_true bV]; rfl))).trans ?_
      refine (cb_h (e2_h (var_h rfl) (var_h rfl) (in_refh at_nw))).trans ?_
      have:b ∈ F':=Classical.byContradiction fun z=>q ⟨bV,z⟩
      rw [decide_eq_true this]; rfl
     ·exact candh_f ((cb_h (e2_h (var_h rfl) (var_h rfl) inT_h)).trans (by rw [decide_eq_false bV]; rfl))
    ·rw [if_neg (by decide)]
     refine q_nil (q_done ⟨F',_,rfl,rfl,fn',fr',⟨k,hk⟩,fun x hx xV=>?_⟩)
     rw [tk] at hx
     rcases List.mem_append.mp hx with z | z
     ·exact fc' x z xV
     ·simp at z; subst z; exact Classical.byContradiction fun z=>q ⟨xV,z⟩
  ·rintro _ _ ⟨F',w,rfl,rfl,fn',fr',⟨k,hk⟩,fc'⟩
   rw [e2',st_len,List.take_length] at fc'
   refine q_set (.int ((i + 1:Nat):Int)) [some ah,some (.tup (stD V)),some (.int (one:Nat)),some (.ref h.length),some (.int ((i + 1:Nat):Int)),w] rfl rfl ?_
   have lk:F'.length = F.length + k.length:=by rw [hk]; simp
   refine q_done ⟨m - 1,Nat.le_refl _,F',i + 1,w,rfl,rfl,fn',fr',by rw [hk]; exact List.mem_append_left _ fo,by omega,fun t a ht ea b hb bV=>?_,by omega⟩
   by_cases ti:t = i
   ·subst ti
    rw [hk,List.getElem?_append_left hi,ey] at ea
    cases ea
    exact fc' b hb bV
   ·rw [hk,List.getElem?_append_left (by omega)] at ea
    rw [hk]
    exact List.mem_append_left _ (fc t a (by omega) ea b hb bV)
 ·rw [decide_eq_false hi,if_neg (by decide)]
  refine q_reth (.ref h.length) (var_h rfl) ⟨rfl,F,rfl,fn,fun a=>⟨fun ha=>(fr a ha).2,fun ha=>?_⟩⟩
  induction ha with
  | here=>exact fo
  | step h1 h2 ih =>
   obtain ⟨t,ht,et⟩:=List.getElem_of_mem ih
   obtain ⟨h3,h4⟩:=(hs _ (fr _ ih).1 _).mp h2
   exact fc t _ (by omega) (by rw [← et]; exact List.getElem?_eq_getElem ht) _ h3 h4
def refsR (c n:Nat):List D:=(List.range n).map fun x=>.ref (c + x)
theorem refsR_succ (c n:Nat):refsR c (n + 1) = refsR c n++[.ref (c + n)]:=by unfold refsR; rw [List.range_succ,List.map_append]; rfl
theorem refsR_len (c n:Nat):(refsR c n).length = n:=by unfold refsR; simp
theorem refsR_at {c n x:Nat} (h:x < n):atI (refsR c n) (x:Int) = some (.ref (c + x)):=by
 refine atI_nat ?_
 unfold refsR
 rw [List.getElem?_map,List.getElem?_range h]
 rfl
theorem rowsR_succ (f:Nat→List Nat) (n:Nat):rowsH f (List.range (n + 1)) = rowsH f (List.range n)++[.lst (stD (f n))]:=by unfold rowsH; rw [List.range_succ,List.map_append]; rfl
theorem rowsR_len (f:Nat→List Nat) (n:Nat):(rowsH f (List.range n)).length = n:=by unfold rowsH; simp
theorem rowsR_at {f:Nat→List Nat} {n x:Nat} (h:x < n):(rowsH f (List.range n))[x]? = some (.lst (stD (f x))):=by
 unfold rowsH
 rw [List.getElem?_map,List.getElem?_range h]
 rfl
theorem comp_rows {cap:List (Option Nat)} {mi:G→M Src} {γ:G} {h:AH} {n:Nat} {gg:D→G→M G} (hi:mi γ h = .ok (.con (intsD n)) h) (hn:n ≤ 1000) (hg:∀ x,∃ γ1,∀ h,gg (.int x) (capG cap γ) h = .ok γ1 h):eComp cap mi gg (fun _=>pure true) (eLst aNil) γ h = .ok (.ref h.length) (h++(.lst (refsR (h.length + 1) n) :: rowsH (fun _=>[]) (List.range n))):=by
 have:W (eComp cap mi gg (fun _=>pure true) (eLst aNil) γ) h fun d h'=>d = .ref h.length∧h' = h++(.lst (refsR (h.length + 1) n) :: rowsH (fun _=>[]) (List.range n)):=by
  refine comp_w ?_
  refine W_of hi ⟨fun i h'=>h' = h++(.lst (refsR (h.length + 1) i) :: rowsH (fun _=>[]) (List.range i)),rfl,fun _ _ _=>trivial,?_,?_⟩
  ·rintro i d _ e rfl
   obtain ⟨rfl,ci⟩:=intsD_get e
   obtain ⟨γ1,e1⟩:=hg i
   refine W_of (e1 _) (W_of (v:=true) rfl ?_)
   rw [if_pos rfl]
   have len:(h++(O.lst (refsR (h.length + 1) i) :: rowsH (fun _=>[]) (List.range i))).length = h.length + 1 + i:=by simp [rowsR_len]; omega
   have e4:eLst aNil γ1 (h++(O.lst (refsR (h.length + 1) i) :: rowsH (fun _=>[]) (List.range i))) = .ok (.ref (h.length + 1 + i)) (h++(O.lst (refsR (h.length + 1) i) :: rowsH (fun _=>[]) (List.range i))++[.lst []]):=by
    show newL [] _ = _
    rw [new_h (by simp),len]
   refine W_of e4 ?_
   refine W_of (append_h (i:=h.length) (xs:=refsR (h.length + 1) i) (at_app am0) (by rw [refsR_len]; omega)) ?_
   rw [List.append_assoc,List.cons_append,sm0,← refsR_succ]
   show _ = h++(O.lst (refsR (h.length + 1) (i + 1)) :: rowsH (fun _=>[]) (List.range (i + 1)))
   rw [rowsR_succ]
   rfl
  ·rintro _ rfl
   rw [show (Src.con (intsD n)).items.length = n by simp [Src.items,intsD]]
   exact ⟨rfl,rfl⟩
 obtain ⟨d,h',e,rfl,rfl⟩:=this
 exact e
theorem rowsR_set {f:Nat→List Nat} {n y:Nat} {l:List Nat} (hy:y < n):(rowsH f (List.range n)).set y (.lst (stD l)) = rowsH (fun x=>if x = y then l else f x) (List.range n):=by
 have:=rowsH_set (f:=f) (y:=y) (l:=l) (V:=List.range n) List.nodup_range (by simpa using hy)
 rw [show (List.range n).idxOf y = y from ?_] at this
 ·exact this
 ·have hi:=List.idxOf_lt_length_of_mem (show y ∈ List.range n by simpa using hy)
  have:=List.getElem_idxOf hi
  rw [List.getElem_range] at this
  exact this
theorem back_run {st:List (List Nat)} {mk:List (List Str)} {h:AH} (q:SQ st) (sr:∀ l ∈ st,l.Pairwise (· < ·)):runF 4 b__law_back [maD st mk] h = .ok (.ref h.length) (h++(.lst (refsR (h.length + 1) st.length) :: rowsH (whoTo st) (List.range st.length))):=by
 have l1:=q.l1
 have l2:=q.l2
 refine run_h ?_
 show W (b__law_back [some (maD st mk),none,none,none]) h _
 unfold b__law_back sComp'
 have c1:=comp_rows (cap:=[none]) (mi:=iRange (eCall fLen (aCons (e2 fIx (eVar 0) (fun _=>pure (.int 0))) aNil))) (γ:=[some (maD st mk),none,none,none]) (h:=h) (n:=st.length) (gg:=gN 0) (range_src (call1_h (e2_h (var_h rfl) (y:=.int 0) rfl (by rw [ix_ma0]; rfl)) (by rw [len_tup,sts_len]; rfl)) (by omega)) (by omega) fun x=>⟨[some (.int x)],fun _=>rfl⟩
 refine q_seth (.ref h.length) [some (maD st mk),some (.ref h.length),none,none] c1 rfl ?_
 rw [w_cons]
 refine for_range (fun i γ h'=>∃ w2 w3,γ = [some (maD st mk),some (.ref h.length),w2,w3]∧h' = h++(.lst (refsR (h.length + 1) st.length) :: rowsH (fun x=>(List.range i).filter fun one=>decide (x ∈ nx st one)) (List.range st.length))) (fun _ _=>False) ?_
 refine W_of (v:=.int (st.length:Nat)) (h1:=h++(.lst (refsR (h.length + 1) st.length) :: rowsH (fun _=>[]) (List.range st.length))) (call1_h (var_h rfl) (by rw [len_h am0,refsR_len])) ⟨st.length,rfl,by omega,⟨none,none,rfl,congrArg (fun z=>h++(O.lst (refsR (h.length + 1) st.length) :: z)) (rowsH_congr fun x _=>rfl)⟩,?_,?_,fun _ _ q=>q.elim⟩
 ·rintro one _ _ hone ⟨w2,w3,rfl,rfl⟩
  have rw1:=sr _ (List.mem_of_getElem? (nx_get hone))
  have fnd:=rise_nd rw1
  have fsub:=q.s2 _ (List.mem_of_getElem? (nx_get hone))
  show W (bCons _ _ [some (maD st mk),some (.ref h.length),some (.int one),w3]) _ _
  rw [w_cons]
  refine for_src (fun e γ h'=>∃ w3,γ = [some (maD st mk),some (.ref h.length),some (.int one),w3]∧h' = h++(.lst (refsR (h.length + 1) st.length) :: rowsH (fun x=>((List.range one).filter fun one=>decide (x ∈ nx st one))++if x ∈ (nx st one).take e then [one] else []) (List.range st.length))) (fun _ _=>False) ?_
  refine W_of (seqT_h (e2_h (e2_h (var_h rfl) (y:=.int 0) rfl (by rw [ix_ma0]; rfl)) (var_h rfl) (by rw [ix_row hone]; rfl))) ⟨⟨w3,rfl,congrArg (fun z=>h++(O.lst (refsR (h.length + 1) st.length) :: z)) (rowsH_congr fun x _=>by rw [List.take_zero,if_neg (by simp),List.append_nil])⟩,fun _ _ _ _=>trivial,?_,?_,fun _ _ q=>q.elim⟩
  ·rintro e d _ _ ed ⟨w,rfl,rfl⟩
   obtain ⟨y,rfl,ey⟩:=st_get ed
   have yn:=fsub y (List.mem_of_getElem? ey)
   obtain ⟨he,ye⟩:=List.getElem?_eq_some_iff.mp ey
   have ynt:y ∉ (nx st one).take e:=fun q=>by
    obtain ⟨t,ht,et⟩:=List.getElem_of_mem q
    rw [List.length_take] at ht
    rw [List.getElem_take] at et
    exact (List.pairwise_iff_getElem.mp fnd t e (by omega) he (by omega)) (et.trans ye.symm)
   refine W_of (v:=[some (maD st mk),some (.ref h.length),some (.int one),some (.int y)]) rfl ?_
   refine q_appO (i:=h.length + 1 + y) (xs:=stD (((List.range one).filter fun one=>decide (y ∈ nx st one))++if y ∈ (nx st one).take e then [one] else [])) (e2_h (var_h rfl) (var_h rfl) (ix_h am0 (refsR_at yn))) (by rw [List.getElem?_append_right (by omega),show h.length + 1 + y - h.length = y + 1 by omega,List.getElem?_cons_succ]; exact rowsR_at yn) (var_h rfl) ?_ ?_
   ·rw [st_len,List.length_append]
    have h1:=List.length_filter_le (fun one=>decide (y ∈ nx st one)) (List.range one)
    rw [List.length_range] at h1
    split <;> simp <;> omega
   ·refine q_done ⟨_,rfl,?_⟩
    rw [st_snoc,List.set_append_right _ _ (by omega),show h.length + 1 + y - h.length = y + 1 by omega,List.set_cons_succ,rowsR_set yn]
    refine congrArg (fun z=>h++(O.lst (refsR (h.length + 1) st.length) :: z)) (rowsH_congr fun x hx=>?_)
    rw [List.take_succ_eq_append_getElem he,ye]
    by_cases xy:x = y
    ·subst xy
     rw [if_pos rfl,if_neg ynt,if_pos (by simp)]
     simp
    ·rw [if_neg xy]
     refine congrArg (fun z=>((List.range one).filter fun one=>decide (x ∈ nx st one))++z) ?_
     simp [xy]
  ·rintro _ _ ⟨w,rfl,rfl⟩
   refine q_done ⟨_,_,rfl,?_⟩
   refine congrArg (fun z=>h++(O.lst (refsR (h.length + 1) st.length) :: z)) (rowsH_congr fun x hx=>?_)
   rw [show (Src.con (stD (nx st one))).items.length = (nx st one).length from st_len _,List.take_length,List.range_succ,List.filter_append]
   refine congrArg (fun z=>((List.range one).filter fun one=>decide (x ∈ nx st one))++z) ?_
   by_cases q:x ∈ nx st one
   ·rw [if_pos q,List.filter_cons,if_pos (by simpa using q)]; rfl
   ·rw [if_neg q,List.filter_cons,if_neg (by simpa using q)]; rfl
 ·rintro _ _ ⟨w2,w3,rfl,rfl⟩
  exact q_reth (.ref h.length) (var_h rfl) ⟨rfl,congrArg (fun z=>h++(O.lst (refsR (h.length + 1) st.length) :: z)) (rowsH_congr fun x _=>rfl)⟩
theorem refsF {k n:Nat} (h:1 ≤ n):refLts k (refsR (k + 1) n) = false:=by
 cases n with
 | zero=>omega
 | succ n =>
  unfold refsR
  rw [List.range_succ_eq_map,List.map_cons]
  show (refLt k (.ref (k + 1 + 0)) && _) = false
  rw [show refLt k (.ref (k + 1 + 0)) = false by simp [refLt]]
  rfl
theorem back_h {st:List (List Nat)} {mk:List (List Str)} {h:AH} (q:SQ st) (sr:∀ l ∈ st,l.Pairwise (· < ·)):m__law_back [maD st mk] h = .ok (.ref h.length) (h++(.lst (refsR (h.length + 1) st.length) :: rowsH (whoTo st) (List.range st.length))):=by
 have z:W (cln (runF 4 b__law_back [maD st mk])) h fun d h'=>d = .ref h.length∧h' = h++(.lst (refsR (h.length + 1) st.length) :: rowsH (whoTo st) (List.range st.length)) :=
  W_clnR ⟨_,_,back_run (mk:=mk) (h:=h) q sr,h.length,_,rfl,Nat.le_refl _,am0,refsF q.l1,rfl,rfl⟩
 obtain ⟨d,h',e,e1,e2⟩:=z
 subst e1 e2
 exact e
theorem isl_h {h:AH} {a:Nat} {xs:List D} {γ:G} {k:Nat} (eg:γ[k]? = some (some (.ref a))) (e:h[a]? = some (.lst xs)):eIsi "list" (eVar k) γ h = .ok (.bl true) h:=by
 have t:tyD (.ref a) h = .ok "list" h:=by unfold tyD; dsimp only; rw [e]
 have f:fIsi "list" (.ref a) h = .ok (.bl true) h:=by
  unfold fIsi
  rw [M.bind_ok t]
  have:subT "list" "list" = true:=by decide
  rw [this]
  rfl
 unfold eIsi
 show (eVar k γ >>= _) h = _
 rw [M.bind_ok (var_h eg)]
 exact f
def plD (n:Nat) (a:Nat→Int):List D:=(List.range n).map fun x=>.int (a x)
theorem plD_len (n:Nat) (a:Nat→Int):(plD n a).length = n:=by unfold plD; simp
theorem plD_at {n x:Nat} {a:Nat→Int} (h:x < n):atI (plD n a) (x:Int) = some (.int (a x)):=by
 refine atI_nat ?_
 unfold plD
 rw [List.getElem?_map,List.getElem?_range h]
 rfl
theorem plD_set {n y:Nat} {a:Nat→Int} {v:Int} (h:y < n):(plD n a).set y (.int v) = plD n fun x=>if x = y then v else a x:=by
 refine List.ext_getElem? fun i=>?_
 unfold plD
 by_cases hi:i < n
 ·rw [List.getElem?_map,List.getElem?_range hi]
  by_cases e:i = y
  ·subst e
   rw [List.getElem?_set_self (by simpa using hi)]
   simp
  ·rw [List.getElem?_set_ne (Ne.symm e),List.getElem?_map,List.getElem?_range hi]
   simp [e]
 ·rw [List.getElem?_eq_none (by simpa using hi),List.getElem?_eq_none (by simpa using hi)]
theorem q_ixset {ma:G→M D} {mt:G→M Out} {γ:G} {h:AH} {b c i y:Nat} {xs:List D} {v:D} {Q:Out→AH→Prop} (e:ma γ h = .ok v h) (eb:γ[b]? = some (some (.ref i))) (ec:γ[c]? = some (some (.int (y:Nat)))) (ei:h[i]? = some (.lst xs)) (hy:y < xs.length) (z:W (mt γ) (h.set i (.lst (xs.set y v))) Q):W (bCons (sAsg ma (gIx (eVar b) (eVar c))) mt γ) h Q:=by
 rw [w_cons]
 unfold sAsg gIx
 rw [W_bind]
 refine W_of e ?_
 rw [W_bind,W_bind]
 refine W_of (var_h eb) ?_
 rw [W_bind]
 refine W_of (var_h ec) ?_
 rw [W_bind]
 have f1:fSet (.ref i) (.int (y:Nat)) v h = .ok () (h.set i (.lst (xs.set y v))):=by
  unfold fSet
  dsimp only
  rw [ei]
  dsimp only
  have:ixN xs.length (y:Int) = some y:=by
   unfold ixN
   simp [hy]
  rw [this]
 refine W_of f1 ?_
 rw [W_pure,W_pure]
 exact z
structure PL (P:List (List Nat)) (n k:Nat) (a:Nat→Int):Prop where
 y:∀ (j:Nat) p,j < k→P[j]? = some p→∀ x ∈ p,a x = (j:Int)
 n:∀ x,x < n→x ∉ (P.take k).flatten→a x = -1
theorem placed_h {st:List (List Nat)} {mk:List (List Str)} {V:List Nat} {P:List (List Nat)} {fd:Nat} {h:AH} (q:SQ st) (vl:V.length ≤ 40) (hV:∀ x ∈ V,x < st.length) (e:h[fd]? = some (.lst (stsD P))) (pl:P.length ≤ 40) (pr:∀ p ∈ P,p.Pairwise (· < ·)∧p ≠ []) (pn:P.flatten.Nodup) (pm:∀ a,a ∈ P.flatten ↔ a ∈ V) :
 ∃ a,m__law_placed [maD st mk,.tup (stD V),.ref fd] h = .ok (.ref h.length) (h++[.lst (plD st.length a)])∧PL P st.length P.length a:=by
 have l1:=q.l1
 have l2:=q.l2
 have pin:∀ p ∈ P,∀ x ∈ p,x ∈ V:=fun p hp x hx=>(pm x).mp (List.mem_flatten.mpr ⟨p,hp,hx⟩)
 suffices z:W (runF 6 b__law_placed [maD st mk,.tup (stD V),.ref fd]) h fun d h'=>d = .ref (h.length + 1)∧∃ a,h' = h++[.lst [.int (-1)],.lst (plD st.length a)]∧PL P st.length P.length a by
  obtain ⟨d,h',e1,rfl,a,rfl,pa⟩:=z
  refine ⟨a,cln_ref e1 (by omega) (am1 (j:=[])) (by unfold plD; exact refLts_map fun _=>rfl),pa⟩
 refine w_run ?_
 show W (b__law_placed [some (maD st mk),some (.tup (stD V)),some (.ref fd),none,none,none]) h _
 unfold b__law_placed
 refine q_ifh false (cn_h (b:=true) (cv_h (isl_h rfl e))) ?_
 rw [if_neg (by decide)]
 refine q_nil ?_
 have pl0:(List.replicate st.length [D.int (-1)]).flatten = plD st.length fun _=>-1:=by
  unfold plD
  generalize st.length = n
  induction n with
  | zero=>rfl
  | succ n ih=>rw [List.replicate_succ',List.flatten_append,ih,List.range_succ,List.map_append]; rfl
 have m1:e2 fMul2 (eLst (aCons (eNeg (fun _=>pure (.int 1))) aNil)) (eCall fLen (aCons (e2 fIx (eVar 0) (fun _=>pure (.int 0))) aNil)) [some (maD st mk),some (.tup (stD V)),some (.ref fd),none,none,none] h = .ok (.ref (h.length + 1)) (h++[.lst [.int (-1)],.lst (plD st.length fun _=>-1)]):=by
  refine e2_h (x:=.ref h.length) (y:=.int (st.length:Nat)) (h1:=h++[.lst [.int (-1)]]) (h2:=h++[.lst [.int (-1)]]) (by show newL [.int (-1)] h = _; exact new_h (by simp)) (call1_h (e2_h (var_h rfl) (y:=.int 0) rfl (by rw [ix_ma0]; rfl)) (by rw [len_tup,sts_len]; rfl)) ?_
  rw [mul_rn at_nw (by omega) (by simp; omega),pl0]
  simp
 refine q_seth (.ref (h.length + 1)) [some (maD st mk),some (.tup (stD V)),some (.ref fd),some (.ref (h.length + 1)),none,none] m1 rfl ?_
 have fdl:=(List.getElem?_eq_some_iff.mp e).1
 have afd:∀ a:Nat→Int,(h++[O.lst [.int (-1)],.lst (plD st.length a)])[fd]? = some (.lst (stsD P)):=fun a=>at_app e
 have apl:∀ a:Nat→Int,(h++[O.lst [.int (-1)],.lst (plD st.length a)])[h.length + 1]? = some (.lst (plD st.length a)):=fun a=>am1
 have row:∀ {k:Nat} {p:List Nat} (a:Nat→Int),P[k]? = some p→fIx (.ref fd) (.int (k:Nat)) (h++[O.lst [.int (-1)],.lst (plD st.length a)]) = .ok (.tup (stD p)) (h++[O.lst [.int (-1)],.lst (plD st.length a)]):=fun {k p} a ep=>ix_h (afd a) (atI_nat (by unfold stsD; rw [List.getElem?_map,ep]; rfl))
 refine w_seq (fun γ h'=>∃ w4 w5 a,γ = [some (maD st mk),some (.tup (stD V)),some (.ref fd),some (.ref (h.length + 1)),w4,w5]∧h' = h++[.lst [.int (-1)],.lst (plD st.length a)]∧PL P st.length P.length a) ?_ ?_
 ·refine for_range (fun k γ h'=>∃ w4 w5 a,γ = [some (maD st mk),some (.tup (stD V)),some (.ref fd),some (.ref (h.length + 1)),w4,w5]∧h' = h++[.lst [.int (-1)],.lst (plD st.length a)]∧PL P st.length k a) (fun _ _=>False) ?_
  refine W_of (v:=.int (P.length:Nat)) (h1:=h++[.lst [.int (-1)],.lst (plD st.length fun _=>-1)]) (call1_h (var_h rfl) (by rw [len_h (afd _),sts_len])) ⟨P.length,rfl,by omega,⟨none,none,_,rfl,rfl,⟨fun j p hj=>by omega,fun x _ _=>rfl⟩⟩,?_,fun γ h' z=>z,fun _ _ q=>q.elim⟩
  rintro k _ _ hk ⟨w4,w5,a,rfl,rfl,pa⟩
  obtain ⟨p,ep⟩:∃ p,P[k]? = some p:=⟨_,List.getElem?_eq_getElem hk⟩
  have pP:=List.mem_of_getElem? ep
  obtain ⟨prs,pne⟩:=pr p pP
  have plt:∀ x ∈ p,x < st.length:=fun x hx=>hV x (pin p pP x hx)
  show W (bCons _ _ [some (maD st mk),some (.tup (stD V)),some (.ref fd),some (.ref (h.length + 1)),some (.int k),w5]) _ _
  refine q_ifh false ?_ ?_
  ·refine (corh_f (cn_h (b:=true) (cv_h (fn_h (ds:=[.tup (stD p),.int (st.length:Nat)]) (ac_h (e2_h (var_h rfl) (var_h rfl) (row a ep)) (ac_h (call1_h (var_h rfl) (by rw [len_h (apl a),plD_len])) rfl)) rfl (by rw [good_p (by omega) prs plt]; rfl))))).trans ?_
   refine (cb_h (e2_h (call1_h (e2_h (var_h rfl) (var_h rfl) (row a ep)) (d:=.tup (stD p)) (by rw [len_tup,st_len]; rfl)) (y:=.int 0) rfl (show fEq false (.int (p.length:Nat)) (.int 0) _ = .ok (.bl false) _ from ?_))).trans rfl
   have:p.length ≠ 0:=fun z=>pne (List.length_eq_zero_iff.mp z)
   rw [eq_ii,decide_eq_false (by omega)]
   rfl
  rw [if_neg (by decide)]
  refine q_nil ?_
  rw [w_cons]
  refine for_src (fun c γ h'=>∃ w5 a',γ = [some (maD st mk),some (.tup (stD V)),some (.ref fd),some (.ref (h.length + 1)),some (.int k),w5]∧h' = h++[.lst [.int (-1)],.lst (plD st.length a')]∧(∀ x,x ∈ p.take c→a' x = (k:Int))∧∀ x,x ∉ p.take c→a' x = a x) (fun _ _=>False) ?_
  refine W_of (seqT_h (e2_h (var_h rfl) (var_h rfl) (row a ep))) ⟨⟨w5,a,rfl,rfl,by simp,by simp⟩,fun _ _ _ _=>trivial,?_,?_,fun _ _ q=>q.elim⟩
  ·rintro c d _ _ ed ⟨w,a',rfl,rfl,y1,y2⟩
   obtain ⟨y,rfl,ey⟩:=st_get ed
   obtain ⟨hc,yc⟩:=List.getElem?_eq_some_iff.mp ey
   have yp:=List.mem_of_getElem? ey
   have yV:=pin p pP y yp
   have yl:=plt y yp
   have yn:y ∉ p.take c:=fun z=>by
    obtain ⟨t,ht,et⟩:=List.getElem_of_mem z
    rw [List.length_take] at ht
    rw [List.getElem_take] at et
    exact (List.pairwise_iff_getElem.mp (rise_nd prs) t c (by omega) hc (by omega)) (et.trans yc.symm)
   have ynP:y ∉ (P.take k).flatten:=fun z=>by
    have e0:P = P.take k++p :: P.drop (k + 1):=by
     conv=>lhs; rw [← List.take_append_drop k P,List.drop_eq_getElem_cons hk]
     rw [(List.getElem?_eq_some_iff.mp ep).2]
    rw [e0,List.flatten_append,List.nodup_append] at pn
    exact pn.2.2 y z y (by simp [yp]) rfl
   have ya:a' y = -1:=by rw [y2 y yn]; exact pa.n y yl ynP
   refine W_of (v:=[some (maD st mk),some (.tup (stD V)),some (.ref fd),some (.ref (h.length + 1)),some (.int k),some (.int y)]) rfl ?_
   refine q_ifh false ?_ ?_
   ·refine (corh_f (cb_h (e2_h (e2_h (var_h rfl) (var_h rfl) (ix_h (apl a') (plD_at yl))) (y:=.int 0) rfl (show fGe (.int (a' y)) (.int 0) _ = .ok (.bl false) _ by rw [ya]; rfl)))).trans ?_
    refine (cb_h (e2_h (var_h rfl) (var_h rfl) inT_h)).trans ?_
    rw [decide_eq_true yV]; rfl
   rw [if_neg (by decide)]
   refine q_nil ?_
   refine q_ixset (b:=3) (c:=5) (i:=h.length + 1) (y:=y) (xs:=plD st.length a') (v:=.int k) (var_h rfl) rfl rfl (apl a') (by rw [plD_len]; exact yl) ?_
   rw [plD_set yl,sm1]
   refine q_done ⟨_,_,rfl,rfl,fun x hx=>?_,fun x hx=>?_⟩
   ·rw [List.take_succ_eq_append_getElem hc,yc] at hx
    rcases List.mem_append.mp hx with z | z
    ·show (if x = y then (k:Int) else a' x) = _
     split
     ·rfl
     ·exact y1 x z
    ·simp at z; subst z; simp
   ·rw [List.take_succ_eq_append_getElem hc,yc] at hx
    show (if x = y then (k:Int) else a' x) = _
    rw [if_neg fun z=>hx (by subst z; simp)]
    exact y2 x fun z=>hx (List.mem_append_left _ z)
  ·rintro _ _ ⟨w,a',rfl,rfl,y1,y2⟩
   rw [show (Src.con (stD p)).items.length = p.length from st_len _,List.take_length] at y1 y2
   refine q_done ⟨_,_,a',rfl,rfl,⟨fun j p' hj ep' x hx=>?_,fun x hx hn=>?_⟩⟩
   ·by_cases jk:j = k
    ·subst jk
     rw [ep] at ep'; cases ep'
     exact y1 x hx
    ·have:x ∉ p:=fun z=>by
      have e0:P = P.take k++p :: P.drop (k + 1):=by
       conv=>lhs; rw [← List.take_append_drop k P,List.drop_eq_getElem_cons hk]
       rw [(List.getElem?_eq_some_iff.mp ep).2]
      have xin:x ∈ (P.take k).flatten:=List.mem_flatten.mpr ⟨p',List.mem_of_getElem? (show (P.take k)[j]? = some p' by rw [List.getElem?_take,if_pos (by omega)]; exact ep'),hx⟩
      rw [e0,List.flatten_append,List.nodup_append] at pn
      exact pn.2.2 x xin x (by simp [z]) rfl
     rw [y2 x this]
     exact pa.y j p' (by omega) ep' x hx
   ·rw [List.take_succ_eq_append_getElem hk,(List.getElem?_eq_some_iff.mp ep).2,List.flatten_append,List.mem_append,not_or] at hn
    rw [y2 x (by simpa using hn.2)]
    exact pa.n x hx hn.1
 ·rintro _ _ ⟨w4,w5,a,rfl,rfl,pa⟩
  have c1:eComp [some 3,none] (iSeqT (eVar 1)) (gN 1) (fun γ=>do let d ← e2 fLt (e2 fIx (eVar 0) (eVar 1)) (fun _=>pure (.int 0)) γ; asB d) (eVar 1) [some (maD st mk),some (.tup (stD V)),some (.ref fd),some (.ref (h.length + 1)),w4,w5] (h++[.lst [.int (-1)],.lst (plD st.length a)]) = newL [] (h++[.lst [.int (-1)],.lst (plD st.length a)]):=by
   refine (comp_st (l:=V) (src:=.con (stD V)) (fun _=>false) (fun x=>.int x) (seqT_h (var_h rfl)) rfl (fun _=>trivial) (by omega) fun x hx=>⟨[some (.ref (h.length + 1)),some (.int x)],fun _=>rfl,fun j=>?_,fun z=>by cases z⟩).trans ?_
   ·refine cb_h (e2_h (e2_h (var_h rfl) (var_h rfl) (ix_h (at_app (apl a)) (plD_at (hV x hx)))) (y:=.int 0) rfl ?_)
    obtain ⟨p,hp,xp⟩:=List.mem_flatten.mp ((pm x).mpr hx)
    obtain ⟨j,hj,ej⟩:=List.getElem_of_mem hp
    rw [pa.y j p hj (by rw [← ej]; exact List.getElem?_eq_getElem hj) x xp,lt_ii,decide_eq_false (by omega)]
    rfl
   ·rw [new_h (by simp),List.filter_eq_nil_iff.mpr (by simp)]
    rfl
  refine q_ifh false (ctX_nil (j:=[]) (xs:=[]) (neg:=true) (by rw [List.append_nil]; exact c1) (by simp)) ?_
  rw [if_neg (by decide)]
  refine q_nil ?_
  exact q_reth (.ref (h.length + 1)) (var_h rfl) ⟨rfl,a,rfl,pa⟩
theorem eqX_wk {l m:List (List Nat)} {h:AH} {i j:Nat} {neg:Bool} (hi:h[i]? = some (.lst (stsD l))) (hj:h[j]? = some (.lst (stsD m))):fEqX neg (.ref i) (.ref j) h = .ok (.bl (decide (l = m) != neg)) h:=eqX_of (eqN_ref (enc:=fun r=>.tup (stD r)) (eqN_tup (enc:=fun (i:Nat)=>.int i) eqN_int) hi hj)
structure LP (st:List (List Nat)) (V:List Nat) (P:List (List Nat)):Prop where
 q:SQ st
 sr:∀ l ∈ st,l.Pairwise (· < ·)
 rs:V.Pairwise (· < ·)
 hV:∀ x ∈ V,x < st.length
 eP:P = prts st.length V (inV st V)
section
variable {st:List (List Nat)} {V:List Nat} {P:List (List Nat)}
theorem LP.fv (g:LP st V P):∀ x ∈ V,∀ y ∈ inV st V x,y ∈ V:=fun x hx y hy=>by simpa using (List.mem_filter.mp hy).2
theorem LP.vl (g:LP st V P):V.length ≤ 40:=Nat.le_trans (nodup_len (rise_nd g.rs) g.hV) g.q.l2
theorem LP.pf (g:LP st V P):PF (gS st.length V (inV st V)) V P∧∀ a,a ∈ P.flatten ↔ a ∈ V:=by
 rw [g.eP]
 exact pf_prts (rise_nd g.rs) g.hV g.q.l2 g.fv
theorem LP.pr (g:LP st V P):∀ p ∈ P,p.Pairwise (· < ·)∧p ≠ []:=fun p hp=>by
 obtain ⟨x,xV,rfl⟩:=g.pf.1.is p hp
 refine ⟨by unfold scc; exact g.rs.filter _,fun e=>?_⟩
 have:x ∈ scc (gS st.length V (inV st V)) V x:=scc_mem.mpr ⟨xV,Mut2.refl⟩
 rw [e] at this
 cases this
theorem LP.pl (g:LP st V P):P.length ≤ 40:=by
 have h1:P.length ≤ P.flatten.length:=by
  have:∀ L:List (List Nat),(∀ p ∈ L,p ≠ [])→L.length ≤ L.flatten.length:=fun L=>by
   induction L with
   | nil=>intro _; simp
   | cons a L ih =>
    intro h
    have h1:=ih fun p hp=>h p (by simp [hp])
    have h2:1 ≤ a.length:=Nat.pos_of_ne_zero fun e=>h a (by simp) (List.length_eq_zero_iff.mp e)
    rw [List.flatten_cons,List.length_append,List.length_cons]
    omega
  exact this P fun p hp=>(g.pr p hp).2
 have h2:=List.Nodup.length_le_of_subset g.pf.1.nd fun a ha=>(g.pf.2 a).mp ha
 have:=g.vl
 omega
theorem LP.nx1 (g:LP st V P):∀ a ∈ V,∀ b,b ∈ nx (gS st.length V (inV st V)) a ↔ b ∈ nx st a∧b ∈ V:=fun a ha b=>by
 rw [nx_gS g.hV,if_pos ha]
 unfold inV
 simp
theorem LP.nx2 (g:LP st V P):∀ a ∈ V,∀ b,b ∈ nx (gS st.length V (trn V (inV st V))) a ↔ b ∈ whoTo st a∧b ∈ V:=fun a ha b=>by
 rw [nx_gS g.hV,if_pos ha]
 unfold trn whoTo inV
 simp only [List.mem_filter,decide_eq_true_eq,List.mem_range]
 constructor
 ·rintro ⟨h1,h2,_⟩; exact ⟨⟨g.hV b h1,h2⟩,h1⟩
 ·rintro ⟨⟨_,h2⟩,h1⟩; exact ⟨h1,h2,ha⟩
end
theorem flat_at {P:List (List Nat)} {x k:Nat} (h:x ∈ (P.take k).flatten):∃ j p,j < k∧P[j]? = some p∧x ∈ p:=by
 obtain ⟨p,hp,hx⟩:=List.mem_flatten.mp h
 obtain ⟨j,hj,e⟩:=List.getElem_of_mem hp
 rw [List.length_take] at hj
 rw [List.getElem_take] at e
 exact ⟨j,p,by omega,by rw [← e]; exact List.getElem?_eq_getElem (by omega),hx⟩
theorem at_flat {P:List (List Nat)} {x k j:Nat} {p:List Nat} (hj:j < k) (e:P[j]? = some p) (h:x ∈ p):x ∈ (P.take k).flatten :=
 List.mem_flatten.mpr ⟨p,List.mem_of_getElem? (i:=j) (by rw [List.getElem?_take_of_lt hj]; exact e),h⟩
theorem LP.place {st:List (List Nat)} {V:List Nat} {P:List (List Nat)} (g:LP st V P) {n:Nat} {a:Nat→Int} (pa:PL P n P.length a) {x y:Nat} (xV:x ∈ V) (yV:y ∈ V) (e:y ∈ nx st x):¬ a x < a y:=by
 obtain ⟨pf,pm⟩:=g.pf
 have hx:x ∈ (P.take P.length).flatten:=by rw [List.take_length]; exact (pm x).mpr xV
 obtain ⟨j,p,hj,ej,xp⟩:=flat_at hx
 have hy:=pf.cl (j + 1) x y (at_flat (by omega) ej xp) ((g.nx1 x xV y).mpr ⟨e,yV⟩)
 obtain ⟨i,q,hi,ei,yq⟩:=flat_at hy
 have hiP:i < P.length:=(List.getElem?_eq_some_iff.mp ei).1
 rw [pa.y j p hj ej x xp,pa.y i q hiP ei y yq]
 omega
theorem st0_h {y:Nat} {p:List Nat} {h:AH}:fIx (.tup (stD (y :: p))) (.int 0) h = .ok (.int (y:Nat)) h:=congrFun (ix0 (a:=.int (y:Nat)) (r:=stD p)) h
theorem m0_h {f:Nat→M D} {mo:G→M D} {γ:G} {h h1:AH} {i:Nat} {xs:List D} {r:Res D} (e:mo γ h = .ok (.ref i) h1) (q:h1[i]? = some (.lst xs)) (e2:f i h1 = r):eM0 f mo γ h = r:=by
 show (mo γ >>= fun o=>asRef o >>= fun n=>f n) h = _
 rw [M.bind_ok e,M.bind_ok (show asRef (D.ref i) h1 = Res.ok i h1 by unfold asRef; dsimp only; rw [q])]
 exact e2
theorem list_h {h:AH} {i:Nat} {xs:List D} (e:h[i]? = some (.lst xs)) (l:xs.length ≤ 1000):fList [.ref i] h = .ok (.ref h.length) (h++[.lst xs]):=by
 have g:seqD (.ref i) h = .ok xs h:=by
  show getL i h = _
  unfold getL; rw [e]
 show (seqD (.ref i) >>= fun xs=>newL xs) h = _
 rw [M.bind_ok g]
 exact new_h (by omega)
theorem part_ok {st:List (List Nat)} {mk:List (List Str)} {V:List Nat} {P:List (List Nat)} (g:LP st V P) {p:List Nat} (hp:p ∈ P) {y:Nat} {F1 F2:List Nat} (hy:y ∈ p) (n1:F1.Nodup) (m1:∀ a,a ∈ F1 ↔ Rch (gS st.length V (inV st V)) y a) (m2:∀ a,a ∈ F2 ↔ Rch (gS st.length V (trn V (inV st V))) y a):p = sortN (F1.filter fun a=>decide (a ∈ F2)):=by
 have tr:=trn_gS g.hV g.fv
 have hv1:∀ x ∈ V,∀ y ∈ nx (gS st.length V (inV st V)) x,y ∈ V:=fun x hx y hy=>(gS_in g.hV g.fv hy).2.1
 obtain ⟨x,xV,rfl⟩:=g.pf.1.is p hp
 obtain ⟨yV,xy⟩:=scc_mem.mp hy
 refine rise_ext (g.pr _ hp).1 (sortN_rise (n1.filter _)) fun a=>?_
 rw [sortN_mem,List.mem_filter,scc_mem,m1 a,decide_eq_true_eq,m2 a]
 constructor
 ·rintro ⟨_,h⟩
  have ya:=xy.symm.trans h
  exact ⟨ya.1,ya.2.back tr⟩
 ·rintro ⟨h1,h2⟩
  exact ⟨h1.inV hv1 yV,xy.trans ⟨h1,h2.turn tr⟩⟩
theorem math0 {ns:List Int} (hn:ns.length ≤ 63):W (m_law [.fl (ns.map .int)]) [] (fun d _=>d = .bl true):=by
 refine w_run ?_
 show W (b_law [some (.fl (ns.map .int)),none,none,none,none,none,none,none,none,none,none,none,none,none]) [] _
 unfold b_law
 refine q_setJ (fun d h1=>d = .ref 2∧PS h1 0 []) ?_ ?_
 ·simp only [List.getElem?_cons_zero,List.length_cons,List.length_nil,Nat.reduceAdd,W_bad,W_bind,W_ite,W_pure,aCons,aNil,eFn,eVar,if_true]
  exact law_pool hn
 rintro _ h1 ⟨rfl,p1⟩
 refine q_setJ (fun d h1=>∃ b:Bool,d = .bl b∧PS h1 1 []) ?_ ?_
 ·simp only [List.getElem?_cons_succ,List.getElem?_cons_zero,List.length_cons,List.length_nil,List.set_cons_succ,List.set_cons_zero,Nat.reduceAdd,W_bad,W_bind,W_ite,W_pure,aCons,aNil,e2,eFn,eVar,if_true]
  refine w_draw p1 (by omega) (by decide) (by decide) fun d h2 d0 d1 p2=>?_
  exact W_of (v:=.bl (decide (d = 0) != false)) (by rw [eq_ii]; rfl) ⟨_,rfl,p2⟩
 rintro _ h2 ⟨b,rfl,p2⟩
 refine q_setJ (fun d h1=>∃ st mk r,d = maD st mk∧MA st mk∧PS h1 300 r) ?_ ?_
 ·simp only [List.getElem?_cons_succ,List.getElem?_cons_zero,List.length_cons,List.length_nil,List.set_cons_succ,List.set_cons_zero,Nat.reduceAdd,W_bad,W_bind,W_ite,W_pure,aCons,aNil,eFn,eVar,if_true]
  refine law_names (n:=1) p2 .nil (by omega) (by decide) fun nn h3 ln nS p3=>?_
  exact law_machine (i:=0) p3 (by omega) rfl (by omega) nS fun st mk h4 ma p4=>⟨st,mk,_,rfl,ma,p4.up (by omega)⟩
 rintro _ h3 ⟨st,mk,r,rfl,ma,p3⟩
 refine w_seq (fun γ h=>∃ st mk r,γ = [some (.fl (ns.map .int)),some (.ref 2),some (.bl b),some (maD st mk),none,none,none,none,none,none,none,none,none,none]∧MA st mk∧PS h 320 r) ?_ ?_
 ·show W (sIf _ _ _ [some (.fl (ns.map .int)),some (.ref 2),some (.bl b),some (maD st mk),none,none,none,none,none,none,none,none,none,none]) h3 _
  unfold sIf
  have c0:cVal (eVar 2) [some (.fl (ns.map .int)),some (.ref 2),some (.bl b),some (maD st mk),none,none,none,none,none,none,none,none,none,none] = pure b:=rfl
  rw [c0,bindP]
  cases b with
  | true =>
   rw [if_pos rfl]
   refine q_setJ (fun d h1=>∃ st mk,d = maD st mk∧MA st mk∧PS h1 320 r) ?_ ?_
   ·simp only [List.getElem?_cons_succ,List.getElem?_cons_zero,List.length_cons,List.length_nil,Nat.reduceAdd,W_bad,W_bind,W_ite,W_pure,aCons,aNil,eFn,eVar,if_true]
    exact ring_w p3 (by omega) ma fun st' h4 ma' p4=>⟨st',mk,rfl,ma',p4.up (by omega)⟩
   ·rintro _ h4 ⟨st,mk,rfl,ma,p4⟩
    exact q_done ⟨st,mk,r,rfl,ma,p4⟩
  | false =>
   rw [if_neg (by decide)]
   exact q_done ⟨st,mk,r,rfl,ma,p3.up (by omega)⟩
 rintro _ h4 ⟨st,mk,r,rfl,ma,p4⟩
 have l1:=ma.l1
 have l2:=ma.l2
 have sq:SQ st:=⟨ma.l1,ma.l2,ma.s2⟩
 refine q_setJ (fun d _=>∃ V:List Nat,d = .tup (stD V)∧V.Pairwise (· < ·)∧∀ x ∈ V,x < st.length) ?_ ?_
 ·simp only [List.getElem?_cons_succ,List.getElem?_cons_zero,List.length_cons,List.length_nil,Nat.reduceAdd,W_bad,W_bind,W_ite,W_pure,aCons,aNil,e2,eCall,eFn,eVar,if_true,ix_ma0,len_tup,sts_len]
  exact some_w p4 (by omega) l2 fun V h5 v1 v2 _=>⟨V,rfl,v1,v2⟩
 rintro _ h ⟨V,rfl,rs,hV⟩
 obtain ⟨P,eP⟩:∃ P,P = prts st.length V (inV st V):=⟨_,rfl⟩
 have g:LP st V P:=⟨sq,ma.s1,rs,hV,eP⟩
 obtain ⟨pf,pm⟩:=g.pf
 have vl:=g.vl
 have pl:=g.pl
 have nd:=rise_nd rs
 have str:∀ h:AH,m_strong_parts [maD st mk,.tup (stD V)] h = .ok (.ref h.length) (h++[.lst (stsD P)]):=fun h=>by
  rw [strong_p sq ma.s1 rs hV,← eP]
  exact new_h (by rw [sts_len]; omega)
 show W (bCons _ _ [some (.fl (ns.map .int)),some (.ref 2),some (.bl b),some (maD st mk),some (.tup (stD V)),none,none,none,none,none,none,none,none,none]) h _
 refine q_seth (.ref h.length) [some (.fl (ns.map .int)),some (.ref 2),some (.bl b),some (maD st mk),some (.tup (stD V)),some (.ref h.length),none,none,none,none,none,none,none,none] (fn_h (ds:=[maD st mk,.tup (stD V)]) (ac_h (var_h rfl) (ac_h (var_h rfl) rfl)) rfl (str h)) rfl ?_
 obtain ⟨a,ea,pa⟩:=placed_h (mk:=mk) (h:=h++[.lst (stsD P)]) (fd:=h.length) sq vl hV at_nw pl g.pr pf.nd pm
 have lp:(h++[O.lst (stsD P)]).length = h.length + 1:=by simp
 rw [lp] at ea
 refine q_seth (.ref (h.length + 1)) [some (.fl (ns.map .int)),some (.ref 2),some (.bl b),some (maD st mk),some (.tup (stD V)),some (.ref h.length),some (.ref (h.length + 1)),none,none,none,none,none,none,none] (fn_h (ds:=[maD st mk,.tup (stD V),.ref h.length]) (ac_h (var_h rfl) (ac_h (var_h rfl) (ac_h (var_h rfl) rfl))) rfl ea) rfl ?_
 refine q_ifh false (cb_h (e2_h (var_h rfl) (y:=.non) rfl rfl)) ?_
 rw [if_neg (by decide)]
 refine q_nil ?_
 have eb:=back_h (mk:=mk) (h:=h++[.lst (stsD P)]++[.lst (plD st.length a)]) sq ma.s1
 have lb:(h++[O.lst (stsD P)]++[O.lst (plD st.length a)]).length = h.length + 2:=by simp
 rw [lb] at eb
 refine q_seth (.ref (h.length + 2)) [some (.fl (ns.map .int)),some (.ref 2),some (.bl b),some (maD st mk),some (.tup (stD V)),some (.ref h.length),some (.ref (h.length + 1)),some (.ref (h.length + 2)),none,none,none,none,none,none] (fn_h (ds:=[maD st mk]) (ac_h (var_h rfl) rfl) rfl eb) rfl ?_
 generalize hB:h++[O.lst (stsD P)]++[O.lst (plD st.length a)]++(O.lst (refsR (h.length + 2 + 1) st.length) :: rowsH (whoTo st) (List.range st.length)) = B
 have bP:B[h.length]? = some (.lst (stsD P)):=by rw [← hB]; exact at_app (at_app at_nw)
 have bA:B[h.length + 1]? = some (.lst (plD st.length a)):=by rw [← hB,← lp]; exact at_app at_nw
 have bR:B[h.length + 2]? = some (.lst (refsR (h.length + 2 + 1) st.length)):=by rw [← hB,← lb]; exact am0
 have bW:∀ x,x < st.length→B[h.length + 2 + 1 + x]? = some (.lst (stD (whoTo st x))):=fun x hx=>by
  rw [← hB,List.getElem?_append_right (by omega),lb,show h.length + 2 + 1 + x - (h.length + 2) = x + 1 by omega,List.getElem?_cons_succ]
  exact rowsR_at hx
 refine w_seq (fun γ h'=>∃ w8 w9 w10 j,γ = [some (.fl (ns.map .int)),some (.ref 2),some (.bl b),some (maD st mk),some (.tup (stD V)),some (.ref h.length),some (.ref (h.length + 1)),some (.ref (h.length + 2)),w8,w9,w10,none,none,none]∧h' = B++j) ?_ ?_
 ·refine for_src (fun k γ h'=>∃ w8 w9 w10 j,γ = [some (.fl (ns.map .int)),some (.ref 2),some (.bl b),some (maD st mk),some (.tup (stD V)),some (.ref h.length),some (.ref (h.length + 1)),some (.ref (h.length + 2)),w8,w9,w10,none,none,none]∧h' = B++j) (fun _ _=>False) ?_
  refine W_of (seqL_h (var_h rfl) bP) ⟨⟨none,none,none,[],rfl,by simp⟩,?_,?_,fun γ h' z=>z,fun _ _ q=>q.elim⟩
  ·rintro k _ _ ⟨w8,w9,w10,j,rfl,rfl⟩
   exact at_app bP
  ·rintro k d _ _ ed ⟨w8,w9,w10,j,rfl,rfl⟩
   obtain ⟨p,rfl,ep⟩:∃ p,d = .tup (stD p)∧P[k]? = some p:=by
    have ed:(stsD P)[k]? = some d:=ed
    unfold stsD at ed
    rw [List.getElem?_map] at ed
    cases h:P[k]? with
    | none=>rw [h] at ed; cases ed
    | some p=>rw [h] at ed; exact ⟨p,(Option.some.inj ed).symm,rfl⟩
   have pP:=List.mem_of_getElem? ep
   obtain ⟨prs,pne⟩:=g.pr p pP
   obtain ⟨y,p',rfl⟩:=List.exists_cons_of_ne_nil pne
   have yV:y ∈ V:=(pm y).mp (List.mem_flatten.mpr ⟨_,pP,by simp⟩)
   have pV:∀ x ∈ y :: p',x ∈ V:=fun x hx=>(pm x).mp (List.mem_flatten.mpr ⟨_,pP,hx⟩)
   refine W_of (v:=[some (.fl (ns.map .int)),some (.ref 2),some (.bl b),some (maD st mk),some (.tup (stD V)),some (.ref h.length),some (.ref (h.length + 1)),some (.ref (h.length + 2)),some (.tup (stD (y :: p'))),w9,w10,none,none,none]) rfl ?_
   obtain ⟨F1,e1,n1,m1⟩:=walk_h (ah:=.tup (stsD st)) (nb:=nx st) (V:=V) (s:=gS st.length V (inV st V)) (one:=y) (h:=B++j) nd vl yV g.nx1 fun x hx h' gr me γ em e0=>⟨.con (stD (nx st x)),orT_h (e2_h (var_h e0) em (by rw [ix_row (hV x hx)]; rfl)),rfl,fun _ _=>trivial⟩
   refine q_seth (.ref (B++j).length) [some (.fl (ns.map .int)),some (.ref 2),some (.bl b),some (maD st mk),some (.tup (stD V)),some (.ref h.length),some (.ref (h.length + 1)),some (.ref (h.length + 2)),some (.tup (stD (y :: p'))),some (.ref (B++j).length),w10,none,none,none] (fn_h (ds:=[.tup (stsD st),.tup (stD V),.int (y:Nat)]) (ac_h (e2_h (var_h rfl) (y:=.int 0) rfl (by rw [ix_ma0]; rfl)) (ac_h (var_h rfl) (ac_h (e2_h (var_h rfl) (y:=.int 0) rfl st0_h) rfl))) rfl e1) rfl ?_
   obtain ⟨F2,e2',n2,m2⟩:=walk_h (ah:=.ref (h.length + 2)) (nb:=whoTo st) (V:=V) (s:=gS st.length V (trn V (inV st V))) (one:=y) (h:=B++j++[.lst (stD F1)]) nd vl yV g.nx2 fun x hx h' gr me γ em e0=>⟨.lst (h.length + 2 + 1 + x) (stD (whoTo st x)),orL_h (e2_h (var_h e0) em (ix_h (gr _ _ (at_app (at_app bR))) (refsR_at (hV x hx)))) (gr _ _ (at_app (at_app (bW x (hV x hx))))),rfl,fun h'' gr2=>gr2 _ _ (at_app (at_app (bW x (hV x hx))))⟩
   refine q_seth (.ref (B++j++[O.lst (stD F1)]).length) [some (.fl (ns.map .int)),some (.ref 2),some (.bl b),some (maD st mk),some (.tup (stD V)),some (.ref h.length),some (.ref (h.length + 1)),some (.ref (h.length + 2)),some (.tup (stD (y :: p'))),some (.ref (B++j).length),some (.ref (B++j++[O.lst (stD F1)]).length),none,none,none] (fn_h (ds:=[.ref (h.length + 2),.tup (stD V),.int (y:Nat)]) (ac_h (var_h rfl) (ac_h (var_h rfl) (ac_h (e2_h (var_h rfl) (y:=.int 0) rfl st0_h) rfl))) rfl e2') rfl ?_
   have f1l:F1.length ≤ 40:=by
    have hv1:∀ x ∈ V,∀ y ∈ nx (gS st.length V (inV st V)) x,y ∈ V:=fun x hx y hy=>(gS_in g.hV g.fv hy).2.1
    have:=List.Nodup.length_le_of_subset n1 fun x hx=>((m1 x).mp hx).inV hv1 yV
    omega
   have pll:(y :: p').length ≤ 40:=by
    have:=List.Nodup.length_le_of_subset (rise_nd prs) fun x hx=>pV x hx
    omega
   have eqp:=part_ok (mk:=mk) g pP (y:=y) (by simp) n1 m1 m2
   generalize hC:B++j++[O.lst (stD F1)]++[O.lst (stD F2)] = C
   have cF1:C[(B++j).length]? = some (.lst (stD F1)):=by rw [← hC]; exact at_app at_nw
   have cF2:C[(B++j++[O.lst (stD F1)]).length]? = some (.lst (stD F2)):=by rw [← hC]; exact at_nw
   generalize (B++j).length = i1 at *
   generalize (B++j++[O.lst (stD F1)]).length = i2 at *
   have k1:eCall fList (aCons (eVar 8) aNil) [some (.fl (ns.map .int)),some (.ref 2),some (.bl b),some (maD st mk),some (.tup (stD V)),some (.ref h.length),some (.ref (h.length + 1)),some (.ref (h.length + 2)),some (.tup (stD (y :: p'))),some (.ref i1),some (.ref i2),none,none,none] C = .ok (.ref C.length) (C++[.lst (stD (y :: p'))]):=call1_h (var_h rfl) (new_h (by rw [st_len]; omega))
   have k2:eCall fSorted (aCons (eComp [some 10,none] (iSeqL (eVar 9)) (gN 1) (fun γ=>do let d ← e2 (fIn false) (eVar 1) (eVar 0) γ; asB d) (eVar 1)) aNil) [some (.fl (ns.map .int)),some (.ref 2),some (.bl b),some (maD st mk),some (.tup (stD V)),some (.ref h.length),some (.ref (h.length + 1)),some (.ref (h.length + 2)),some (.tup (stD (y :: p'))),some (.ref i1),some (.ref i2),none,none,none] (C++[.lst (stD (y :: p'))]) = .ok (.ref (C.length + 2)) (C++[.lst (stD (y :: p'))]++[.lst (stD (F1.filter fun x=>decide (x ∈ F2)))]++[.lst (stD (sortN (F1.filter fun x=>decide (x ∈ F2))))]):=by
    have cc:=comp_st (cap:=[some 10,none]) (mi:=iSeqL (eVar 9)) (g:=gN 1) (kb:=fun γ=>do let d ← e2 (fIn false) (eVar 1) (eVar 0) γ; asB d) (me:=eVar 1) (γ:=[some (.fl (ns.map .int)),some (.ref 2),some (.bl b),some (maD st mk),some (.tup (stD V)),some (.ref h.length),some (.ref (h.length + 1)),some (.ref (h.length + 2)),some (.tup (stD (y :: p'))),some (.ref i1),some (.ref i2),none,none,none]) (h:=C++[.lst (stD (y :: p'))]) (src:=.lst i1 (stD F1)) (l:=F1) (fun x=>decide (x ∈ F2)) (fun x=>.int x) (seqL_h (var_h rfl) (at_app cF1)) rfl (fun k=>at_app (at_app cF1)) (by omega) fun x hx=>⟨[some (.ref i2),some (.int x)],fun _=>rfl,fun k=>(cb_h (e2_h (var_h rfl) (var_h rfl) (in_refh (at_app (at_app cF2))))).trans (by simp),fun _ _=>rfl⟩
    refine call1_h cc ?_
    show fSorted [.ref (C++[O.lst (stD (y :: p'))]).length] (C++[O.lst (stD (y :: p'))]++[O.lst (stD (F1.filter fun x=>decide (x ∈ F2)))]) = _
    have fl:=List.length_filter_le (fun x=>decide (x ∈ F2)) F1
    rw [sortN_h (S:=F1.filter fun x=>decide (x ∈ F2)) (by omega) at_nw,show (C++[O.lst (stD (y :: p'))]++[O.lst (stD (F1.filter fun x=>decide (x ∈ F2)))]).length = C.length + 2 by simp]
   have k3:=cb_h (e2_h (f:=fEqX true) k1 k2 (eqX_lst (neg:=true) (l:=y :: p') (m:=sortN (F1.filter fun x=>decide (x ∈ F2))) (at_app (at_app at_nw)) (by rw [show C.length + 2 = (C++[O.lst (stD (y :: p'))]++[O.lst (stD (F1.filter fun x=>decide (x ∈ F2)))]).length by simp]; exact at_nw)))
   refine q_ifw (W_of k3 ?_)
   rw [show (decide (y :: p' = sortN (F1.filter fun x=>decide (x ∈ F2))) != true) = false by rw [← eqp]; simp]
   rw [if_neg (by decide)]
   refine q_nil (q_done ⟨_,_,_,j++[O.lst (stD F1)]++[O.lst (stD F2)]++[.lst (stD (y :: p'))]++[.lst (stD (F1.filter fun x=>decide (x ∈ F2)))]++[.lst (stD (sortN (F1.filter fun x=>decide (x ∈ F2))))],rfl,?_⟩)
   rw [← hC]
   simp
 rintro _ _ ⟨w8,w9,w10,j,rfl,rfl⟩
 refine w_seq (fun γ h'=>∃ w8 w9 w10 w11 w12,γ = [some (.fl (ns.map .int)),some (.ref 2),some (.bl b),some (maD st mk),some (.tup (stD V)),some (.ref h.length),some (.ref (h.length + 1)),some (.ref (h.length + 2)),w8,w9,w10,w11,w12,none]∧h' = B++j) ?_ ?_
 ·refine for_src (fun k γ h'=>∃ w8 w9 w10 w11 w12,γ = [some (.fl (ns.map .int)),some (.ref 2),some (.bl b),some (maD st mk),some (.tup (stD V)),some (.ref h.length),some (.ref (h.length + 1)),some (.ref (h.length + 2)),w8,w9,w10,w11,w12,none]∧h' = B++j) (fun _ _=>False) ?_
  refine W_of (seqT_h (var_h rfl)) ⟨⟨w8,w9,w10,none,none,rfl,rfl⟩,fun _ _ _ _=>trivial,?_,fun γ h' z=>z,fun _ _ q=>q.elim⟩
  rintro k d _ _ ed ⟨w8,w9,w10,w11,w12,rfl,rfl⟩
  obtain ⟨x,rfl,ex⟩:=st_get ed
  have xV:=List.mem_of_getElem? ex
  refine W_of (v:=[some (.fl (ns.map .int)),some (.ref 2),some (.bl b),some (maD st mk),some (.tup (stD V)),some (.ref h.length),some (.ref (h.length + 1)),some (.ref (h.length + 2)),w8,w9,w10,some (.int x),w12,none]) rfl ?_
  rw [w_cons]
  refine for_src (fun k γ h'=>∃ w12,γ = [some (.fl (ns.map .int)),some (.ref 2),some (.bl b),some (maD st mk),some (.tup (stD V)),some (.ref h.length),some (.ref (h.length + 1)),some (.ref (h.length + 2)),w8,w9,w10,some (.int x),w12,none]∧h' = B++j) (fun _ _=>False) ?_
  refine W_of (seqT_h (e2_h (e2_h (var_h rfl) (y:=.int 0) rfl (by rw [ix_ma0]; rfl)) (var_h rfl) (by rw [ix_row (hV x xV)]; rfl))) ⟨⟨w12,rfl,rfl⟩,fun _ _ _ _=>trivial,?_,?_,fun _ _ q=>q.elim⟩
  ·rintro e d _ _ ed ⟨w12,rfl,rfl⟩
   obtain ⟨y,rfl,ey⟩:=st_get ed
   have yn:y ∈ nx st x:=List.mem_of_getElem? ey
   refine W_of (v:=[some (.fl (ns.map .int)),some (.ref 2),some (.bl b),some (maD st mk),some (.tup (stD V)),some (.ref h.length),some (.ref (h.length + 1)),some (.ref (h.length + 2)),w8,w9,w10,some (.int x),some (.int y),none]) rfl ?_
   refine q_ifh false ?_ ?_
   ·by_cases yV:y ∈ V
    ·rw [candh_t ((cb_h (e2_h (var_h rfl) (var_h rfl) inT_h)).trans (by simp [yV]))]
     exact (cb_h (e2_h (e2_h (var_h rfl) (var_h rfl) (ix_h (at_app bA) (plD_at (hV y yV)))) (e2_h (var_h rfl) (var_h rfl) (ix_h (at_app bA) (plD_at (hV x xV)))) (by rw [gt_ii]; rfl))).trans (by rw [decide_eq_false (g.place pa xV yV yn)])
    ·exact candh_f ((cb_h (e2_h (var_h rfl) (var_h rfl) inT_h)).trans (by simp [yV]))
   ·rw [if_neg (by decide)]
    exact q_nil (q_done ⟨_,rfl,rfl⟩)
  ·rintro _ _ ⟨w12,rfl,rfl⟩
   exact q_done ⟨_,_,_,_,_,rfl,rfl⟩
 rintro _ _ ⟨w8,w9,w10,w11,w12,rfl,rfl⟩
 refine q_seth (.ref (B++j).length) [some (.fl (ns.map .int)),some (.ref 2),some (.bl b),some (maD st mk),some (.tup (stD V)),some (.ref h.length),some (.ref (h.length + 1)),some (.ref (h.length + 2)),w8,w9,w10,w11,w12,some (.ref (B++j).length)] (call1_h (var_h rfl) (list_h (at_app bP) (by rw [sts_len]; omega))) rfl ?_
 have hB2:h.length < (B++j).length:=(List.getElem?_eq_some_iff.mp (at_app (j:=j) bP)).1
 have ecl:eM0 fClear (eVar 5) [some (.fl (ns.map .int)),some (.ref 2),some (.bl b),some (maD st mk),some (.tup (stD V)),some (.ref h.length),some (.ref (h.length + 1)),some (.ref (h.length + 2)),w8,w9,w10,w11,w12,some (.ref (B++j).length)] (B++j++[O.lst (stsD P)]) = .ok .non ((B++j++[O.lst (stsD P)]).set h.length (O.lst [])):=m0_h (var_h rfl) (at_app (at_app bP)) (updL_h (f:=fun _=>some (.non,[])) (at_app (at_app bP)) rfl (by simp))
 refine q_expr (W_of ecl ?_)
 rw [List.set_append_left _ _ hB2]
 have e9:((B++j).set h.length (O.lst [])++[O.lst (stsD P)])[(B++j).length]? = some (.lst (stsD P)):=by
  rw [← List.length_set (as:=B++j) (i:=h.length) (a:=O.lst [])]
  exact at_nw
 refine q_reth (.bl true) (e2_h (fn_h (ds:=[maD st mk,.tup (stD V)]) (ac_h (var_h rfl) (ac_h (var_h rfl) rfl)) rfl (str _)) (var_h rfl) ((eqX_wk (l:=P) (m:=P) (neg:=false) at_nw (at_app e9)).trans (by rw [decide_eq_true rfl]; rfl))) rfl
theorem math:∀ ns:List Int,ns.length ≤ 63→∃ h',m_law [.fl (ns.map .int)] [] = .ok (.bl true) h':=fun ns hn=>by
 obtain ⟨d,h',e,ed⟩:=math0 hn
 exact ⟨h',by rw [e,ed]⟩
end FT
set_option maxHeartbeats 4000000
namespace FT
open PySem PySem.Spec PyProof.Rows L2
theorem okL_law {P:Program} {w:World} {K:PySem.W.Frag} {mg:Str→Option Value} {base:Heap} {f:Addr} {fd:FuncData} (F:Fun K "law" "law" (top 24) f fd) (z_len:mg "len" = none) (z_list:mg "list" = none) (z_sorted:mg "sorted" = none) (F__law_back:Fn P w K mg base 1 "_law_back" 1 m__law_back) (F__law_draw:Fn P w K mg base 1 "_law_draw" 2 m__law_draw) (F__law_great_machine:Fn P w K mg base 2 "_law_great_machine" 2 m__law_great_machine) (F__law_names:Fn P w K mg base 3 "_law_names" 2 m__law_names) (F__law_placed:Fn P w K mg base 3 "_law_placed" 3 m__law_placed) (F__law_pool:Fn P w K mg base 1 "_law_pool" 1 m__law_pool) (F__law_ring:Fn P w K mg base 2 "_law_ring" 2 m__law_ring) (F__law_some:Fn P w K mg base 2 "_law_some" 2 m__law_some) (F__law_walk:Fn P w K mg base 1 "_law_walk" 3 m__law_walk) (F_strong_parts:Fn P w K mg base 4 "strong_parts" 2 m_strong_parts):FnOk P w K mg base CX0 5 f fd ["_law_script"] (spB K m_law 1) :=
 fn_ok F sc_law rfl fun cdv A outer s H E hr=>(show SB (cxOf CX0 P w K mg base ["_law_script","_law_pool_here","_law_ring_here","_law_machine","_law_within","_law_found","_law_place","_law_back_here","_law_part","_law_there","_law_here","_law_one","_law_to","_law_kept"] "law" (defScope (top 24)) f cdv A outer s H E).nox EX0 (defBody (top 24)) b_law from
  have nd:(["_law_script","_law_pool_here","_law_ring_here","_law_machine","_law_within","_law_found","_law_place","_law_back_here","_law_part","_law_there","_law_here","_law_one","_law_to","_law_kept"]:List Str).Nodup:=sc_law.nd
  (sb_cons (s_set 1 nd (se_call F__law_pool (hr.mono (by decide)) rfl (sa_cons (se_var 0) sa_nil))) (sb_cons (s_set 2 nd (se_c co_eq (se_call F__law_draw (hr.mono (by decide)) rfl (sa_cons (se_var 1) (sa_cons se_int sa_nil))) se_int)) (sb_cons (s_set 3 nd (se_call F__law_great_machine (hr.mono (by decide)) rfl (sa_cons (se_var 1) (sa_cons (se_call F__law_names (hr.mono (by decide)) rfl (sa_cons (se_var 1) (sa_cons se_int sa_nil))) sa_nil)))) (sb_cons (s_if (sc_val (se_var 2)) (sb_cons (s_set 3 nd (se_call F__law_ring (hr.mono (by decide)) rfl (sa_cons (se_var 1) (sa_cons (se_var 3) sa_nil)))) sb_nil) sb_nil) (sb_cons (s_set 4 nd (se_call F__law_some (hr.mono (by decide)) rfl (sa_cons (se_var 1) (sa_cons (se_len rfl z_len (sa_cons (se_ix (se_var 3) se_int) sa_nil)) sa_nil)))) (sb_cons (s_set 5 nd (se_call F_strong_parts (hr.mono (by decide)) rfl (sa_cons (se_var 3) (sa_cons (se_var 4) sa_nil)))) (sb_cons (s_set 6 nd (se_call F__law_placed (hr.mono (by decide)) rfl (sa_cons (se_var 3) (sa_cons (se_var 4) (sa_cons (se_var 5) sa_nil))))) (sb_cons (s_if (sc_c co_is (se_var 6) se_non) (sb_cons (s_ret se_bl) sb_nil) sb_nil) (sb_cons (s_set 7 nd (se_call F__law_back (hr.mono (by decide)) rfl (sa_cons (se_var 3) sa_nil))) (sb_cons (s_for PassesOwn.never rfl (si_list (se_var 5)) (sg_name 8 nd) (sb_cons (s_set 9 nd (se_call F__law_walk (hr.mono (by decide)) rfl (sa_cons (se_ix (se_var 3) se_int) (sa_cons (se_var 4) (sa_cons (se_ix (se_var 8) se_int) sa_nil))))) (sb_cons (s_set 10 nd (se_call F__law_walk (hr.mono (by decide)) rfl (sa_cons (se_var 7) (sa_cons (se_var 4) (sa_cons (se_ix (se_var 8) se_int) sa_nil))))) (sb_cons (s_if (sc_c (co_neX (hu30 hr)) (se_list rfl z_list (sa_cons (se_var 8) sa_nil)) (se_sorted rfl rfl z_sorted (sa_cons (se_comp (N':=["_law_here","_law_one"]) (cap:=[some 10,none]) rfl (cs_mk (by first | rfl | kernel_rfl!)) (si_list (se_var 9)) (fun _ _ _ _=>(sgk_name 1 (show (["_law_here","_law_one"]:List Str).Nodup by decide +kernel))) (fun _ _ _ _=>(scs_one (sc_c co_in (se_var 1) (se_var 0)))) (fun _ _ _ _=>(se_var 1))) sa_nil))) (sb_cons (s_ret se_bl) sb_nil) sb_nil) sb_nil)))) (sb_cons (s_for PassesOwn.never rfl (si_tup (se_var 4)) (sg_name 11 nd) (sb_cons (s_for PassesOwn.never rfl (si_tup (se_ix (se_ix (se_var 3) se_int) (se_var 11))) (sg_name 12 nd) (sb_cons (s_if (SW.sc (sw_and (sc_c co_in (se_var 12) (se_var 4)) (sw_and1 (sc_c co_gt (se_ix (se_var 6) (se_var 12)) (se_ix (se_var 6) (se_var 11)))))) (sb_cons (s_ret se_bl) sb_nil) sb_nil) sb_nil)) sb_nil)) (sb_cons (s_set 13 nd (se_list rfl z_list (sa_cons (se_var 5) sa_nil))) (sb_cons (s_expr (se_clear (se_var 5))) (sb_cons (s_ret (se_c (co_eqX (hu30 hr)) (se_call F_strong_parts (hr.mono (by decide)) rfl (sa_cons (se_var 3) (sa_cons (se_var 4) sa_nil))) (se_var 13))) sb_nil)))))))))))))))
end FT
open PySem PySem.W PyProof.Rows
set_option maxRecDepth 100000 in
set_option maxHeartbeats 0 in
theorem PySem.Challenge.cw_fairtrees_k27_whole_strong_parts_holds : PySem.Challenge.rw_fairtrees_k27_whole_strong_parts.Holds := by
 w_on; o_law; k_head; (case hw=>w_witness2)
 k_fill
 refine FT.law_walk (l:=PySem.Challenge.rw_fairtrees_k27_whole_strong_parts) (lev:=5) (p:="_law_script") (m:=FT.m_law) rfl rfl ⟨rfl,by decide,by decide⟩ (fun w h Y=>PySem.W.kIn_of Y) ?F FT.math
 case F =>
  intro w mg fa h KX G hmg
  have T_set_of:FT.DefAt (L2.KOf KX) "set_of" (FT.top 1):=by
   dsimp only [L2.KOf]
   refine' FT.defAt_mk ?a ?l ?c ?k
   (case a=>k_is); (case l=>k_is); (case c=>k_is); (case k=>k_is)
  have T_ending_order:FT.DefAt (L2.KOf KX) "ending_order" (FT.top 5):=by
   dsimp only [L2.KOf]
   refine' FT.defAt_mk ?a ?l ?c ?k
   (case a=>k_is); (case l=>k_is); (case c=>k_is); (case k=>k_is)
  have T_turned:FT.DefAt (L2.KOf KX) "turned" (FT.top 4):=by
   dsimp only [L2.KOf]
   refine' FT.defAt_mk ?a ?l ?c ?k
   (case a=>k_is); (case l=>k_is); (case c=>k_is); (case k=>k_is)
  have T_take_from:FT.DefAt (L2.KOf KX) "take_from" (FT.top 6):=by
   dsimp only [L2.KOf]
   refine' FT.defAt_mk ?a ?l ?c ?k
   (case a=>k_is); (case l=>k_is); (case c=>k_is); (case k=>k_is)
  have T_knots:FT.DefAt (L2.KOf KX) "knots" (FT.top 3):=by
   dsimp only [L2.KOf]
   refine' FT.defAt_mk ?a ?l ?c ?k
   (case a=>k_is); (case l=>k_is); (case c=>k_is); (case k=>k_is)
  have T_steps_inside:FT.DefAt (L2.KOf KX) "steps_inside" (FT.top 9):=by
   dsimp only [L2.KOf]
   refine' FT.defAt_mk ?a ?l ?c ?k
   (case a=>k_is); (case l=>k_is); (case c=>k_is); (case k=>k_is)
  have T_strong_parts:FT.DefAt (L2.KOf KX) "strong_parts" (FT.top 8):=by
   dsimp only [L2.KOf]
   refine' FT.defAt_mk ?a ?l ?c ?k
   (case a=>k_is); (case l=>k_is); (case c=>k_is); (case k=>k_is)
  have T__law_pool:FT.DefAt (L2.KOf KX) "_law_pool" (FT.top 11):=by
   dsimp only [L2.KOf]
   refine' FT.defAt_mk ?a ?l ?c ?k
   (case a=>k_is); (case l=>k_is); (case c=>k_is); (case k=>k_is)
  have T__law_draw:FT.DefAt (L2.KOf KX) "_law_draw" (FT.top 12):=by
   dsimp only [L2.KOf]
   refine' FT.defAt_mk ?a ?l ?c ?k
   (case a=>k_is); (case l=>k_is); (case c=>k_is); (case k=>k_is)
  have T__law_name:FT.DefAt (L2.KOf KX) "_law_name" (FT.top 13):=by
   dsimp only [L2.KOf]
   refine' FT.defAt_mk ?a ?l ?c ?k
   (case a=>k_is); (case l=>k_is); (case c=>k_is); (case k=>k_is)
  have T__law_names:FT.DefAt (L2.KOf KX) "_law_names" (FT.top 14):=by
   dsimp only [L2.KOf]
   refine' FT.defAt_mk ?a ?l ?c ?k
   (case a=>k_is); (case l=>k_is); (case c=>k_is); (case k=>k_is)
  have T__law_great_machine:FT.DefAt (L2.KOf KX) "_law_great_machine" (FT.top 15):=by
   dsimp only [L2.KOf]
   refine' FT.defAt_mk ?a ?l ?c ?k
   (case a=>k_is); (case l=>k_is); (case c=>k_is); (case k=>k_is)
  have T__law_number:FT.DefAt (L2.KOf KX) "_law_number" (FT.top 16):=by
   dsimp only [L2.KOf]
   refine' FT.defAt_mk ?a ?l ?c ?k
   (case a=>k_is); (case l=>k_is); (case c=>k_is); (case k=>k_is)
  have T__law_tuple:FT.DefAt (L2.KOf KX) "_law_tuple" (FT.top 17):=by
   dsimp only [L2.KOf]
   refine' FT.defAt_mk ?a ?l ?c ?k
   (case a=>k_is); (case l=>k_is); (case c=>k_is); (case k=>k_is)
  have T__law_good_set:FT.DefAt (L2.KOf KX) "_law_good_set" (FT.top 18):=by
   dsimp only [L2.KOf]
   refine' FT.defAt_mk ?a ?l ?c ?k
   (case a=>k_is); (case l=>k_is); (case c=>k_is); (case k=>k_is)
  have T__law_some:FT.DefAt (L2.KOf KX) "_law_some" (FT.top 19):=by
   dsimp only [L2.KOf]
   refine' FT.defAt_mk ?a ?l ?c ?k
   (case a=>k_is); (case l=>k_is); (case c=>k_is); (case k=>k_is)
  have T__law_ring:FT.DefAt (L2.KOf KX) "_law_ring" (FT.top 20):=by
   dsimp only [L2.KOf]
   refine' FT.defAt_mk ?a ?l ?c ?k
   (case a=>k_is); (case l=>k_is); (case c=>k_is); (case k=>k_is)
  have T__law_walk:FT.DefAt (L2.KOf KX) "_law_walk" (FT.top 21):=by
   dsimp only [L2.KOf]
   refine' FT.defAt_mk ?a ?l ?c ?k
   (case a=>k_is); (case l=>k_is); (case c=>k_is); (case k=>k_is)
  have T__law_back:FT.DefAt (L2.KOf KX) "_law_back" (FT.top 22):=by
   dsimp only [L2.KOf]
   refine' FT.defAt_mk ?a ?l ?c ?k
   (case a=>k_is); (case l=>k_is); (case c=>k_is); (case k=>k_is)
  have T__law_placed:FT.DefAt (L2.KOf KX) "_law_placed" (FT.top 23):=by
   dsimp only [L2.KOf]
   refine' FT.defAt_mk ?a ?l ?c ?k
   (case a=>k_is); (case l=>k_is); (case c=>k_is); (case k=>k_is)
  have T_law:FT.DefAt (L2.KOf KX) "law" (FT.top 24):=by
   dsimp only [L2.KOf]
   refine' FT.defAt_mk ?a ?l ?c ?k
   (case a=>k_is); (case l=>k_is); (case c=>k_is); (case k=>k_is)
  have z_set:mg "set" = none:=PySem.W.mg_none_of KX G (by k_is)
  have z_sorted:mg "sorted" = none:=PySem.W.mg_none_of KX G (by k_is)
  have z_tuple:mg "tuple" = none:=PySem.W.mg_none_of KX G (by k_is)
  have z_reversed:mg "reversed" = none:=PySem.W.mg_none_of KX G (by k_is)
  have z_len:mg "len" = none:=PySem.W.mg_none_of KX G (by k_is)
  have z_range:mg "range" = none:=PySem.W.mg_none_of KX G (by k_is)
  have z_bool:mg "bool" = none:=PySem.W.mg_none_of KX G (by k_is)
  have z_int:mg "int" = none:=PySem.W.mg_none_of KX G (by k_is)
  have z_isinstance:mg "isinstance" = none:=PySem.W.mg_none_of KX G (by k_is)
  have z_list:mg "list" = none:=PySem.W.mg_none_of KX G (by k_is)
  obtain ⟨f,fd,hf,F⟩:=T_law
  have e:=hmg.symm.trans (PySem.W.mg_of KX G hf)
  cases e
  refine ⟨fd,FT.bindsTo1 F (fun _ _ _ _ _ _ _=>rfl),fun base _ _=>?_⟩
  have F_set_of:=FT.ok_set_of (P:=PySem.Challenge.rw_fairtrees_k27_whole_strong_parts.prog) (w:=w) (base:=base) T_set_of (fun v e=>PySem.W.mg_of KX G e) z_set z_sorted z_tuple
  have F_ending_order:=FT.ok_ending_order (P:=PySem.Challenge.rw_fairtrees_k27_whole_strong_parts.prog) (w:=w) (base:=base) T_ending_order (fun v e=>PySem.W.mg_of KX G e) z_set
  have F_turned:=FT.ok_turned (P:=PySem.Challenge.rw_fairtrees_k27_whole_strong_parts.prog) (w:=w) (base:=base) T_turned (fun v e=>PySem.W.mg_of KX G e)
  have F_take_from:=FT.ok_take_from (P:=PySem.Challenge.rw_fairtrees_k27_whole_strong_parts.prog) (w:=w) (base:=base) T_take_from (fun v e=>PySem.W.mg_of KX G e) F_set_of
  have F_knots:=FT.ok_knots (P:=PySem.Challenge.rw_fairtrees_k27_whole_strong_parts.prog) (w:=w) (base:=base) T_knots (fun v e=>PySem.W.mg_of KX G e) z_reversed F_ending_order F_take_from F_turned
  have F_steps_inside:=FT.ok_steps_inside (P:=PySem.Challenge.rw_fairtrees_k27_whole_strong_parts.prog) (w:=w) (base:=base) T_steps_inside (fun v e=>PySem.W.mg_of KX G e)
  have F_strong_parts:=FT.ok_strong_parts (P:=PySem.Challenge.rw_fairtrees_k27_whole_strong_parts.prog) (w:=w) (base:=base) T_strong_parts (fun v e=>PySem.W.mg_of KX G e) F_knots F_steps_inside
  have F__law_pool:=FT.ok__law_pool (P:=PySem.Challenge.rw_fairtrees_k27_whole_strong_parts.prog) (w:=w) (base:=base) T__law_pool (fun v e=>PySem.W.mg_of KX G e)
  have F__law_draw:=FT.ok__law_draw (P:=PySem.Challenge.rw_fairtrees_k27_whole_strong_parts.prog) (w:=w) (base:=base) T__law_draw (fun v e=>PySem.W.mg_of KX G e) z_len
  have F__law_name:=FT.ok__law_name (P:=PySem.Challenge.rw_fairtrees_k27_whole_strong_parts.prog) (w:=w) (base:=base) T__law_name (fun v e=>PySem.W.mg_of KX G e) z_range F__law_draw
  have F__law_names:=FT.ok__law_names (P:=PySem.Challenge.rw_fairtrees_k27_whole_strong_parts.prog) (w:=w) (base:=base) T__law_names (fun v e=>PySem.W.mg_of KX G e) z_range F__law_draw F__law_name
  have F__law_great_machine:=FT.ok__law_great_machine (P:=PySem.Challenge.rw_fairtrees_k27_whole_strong_parts.prog) (w:=w) (base:=base) T__law_great_machine (fun v e=>PySem.W.mg_of KX G e) z_len z_range z_sorted z_tuple F__law_draw
  have F__law_number:=FT.ok__law_number (P:=PySem.Challenge.rw_fairtrees_k27_whole_strong_parts.prog) (w:=w) (base:=base) T__law_number (fun v e=>PySem.W.mg_of KX G e) z_bool z_int z_isinstance
  have F__law_tuple:=FT.ok__law_tuple (P:=PySem.Challenge.rw_fairtrees_k27_whole_strong_parts.prog) (w:=w) (base:=base) T__law_tuple (fun v e=>PySem.W.mg_of KX G e) z_isinstance z_len z_tuple
  have F__law_good_set:=FT.ok__law_good_set (P:=PySem.Challenge.rw_fairtrees_k27_whole_strong_parts.prog) (w:=w) (base:=base) T__law_good_set (fun v e=>PySem.W.mg_of KX G e) z_len z_range F__law_number F__law_tuple
  have F__law_some:=FT.ok__law_some (P:=PySem.Challenge.rw_fairtrees_k27_whole_strong_parts.prog) (w:=w) (base:=base) T__law_some (fun v e=>PySem.W.mg_of KX G e) z_range z_tuple F__law_draw
  have F__law_ring:=FT.ok__law_ring (P:=PySem.Challenge.rw_fairtrees_k27_whole_strong_parts.prog) (w:=w) (base:=base) T__law_ring (fun v e=>PySem.W.mg_of KX G e) z_int z_len z_range z_tuple F__law_draw
  have F__law_walk:=FT.ok__law_walk (P:=PySem.Challenge.rw_fairtrees_k27_whole_strong_parts.prog) (w:=w) (base:=base) T__law_walk (fun v e=>PySem.W.mg_of KX G e) z_len
  have F__law_back:=FT.ok__law_back (P:=PySem.Challenge.rw_fairtrees_k27_whole_strong_parts.prog) (w:=w) (base:=base) T__law_back (fun v e=>PySem.W.mg_of KX G e) z_len z_range
  have F__law_placed:=FT.ok__law_placed (P:=PySem.Challenge.rw_fairtrees_k27_whole_strong_parts.prog) (w:=w) (base:=base) T__law_placed (fun v e=>PySem.W.mg_of KX G e) z_isinstance z_len z_list z_range F__law_good_set
  exact FT.okL_law F z_len z_list z_sorted F__law_back F__law_draw F__law_great_machine F__law_names F__law_placed F__law_pool F__law_ring F__law_some F__law_walk F_strong_parts
