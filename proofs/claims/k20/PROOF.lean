import PyProof.Rows.All
import Wide.All
import OpenK.AllK
import Wide.FinOn
import Lean
import PyProof.EqAt
import PyProof.EqKinds
import PyProof.TupleCall
import PyProof.NeKinds
import PyProof.ListRange
import PyProof.TupleOfSeq
import PyProof.SeqI3
import PyProof.DictCompW
import PyProof.DictWalks
import PyProof.SetNew
import PyProof.ReprReads
import PyProof.StrHeap
import PyProof.ReprLen
import PySem.Challenge.RW_fairtrees_k20_right_runs
set_option Elab.async false
set_option linter.all false
set_option maxRecDepth 100000
namespace L2
open PySem PySem.Spec PyProof.Rows
abbrev Key := Sum Int Str
def keyIs : Key → Value → Bool
  | .inl k, v => Value.isInt k v
  | .inr x, v => Value.isStrOf x v
def keyH (w : World) : Key → Int
  | .inl k => hashInt k
  | .inr x => hashStr w x
theorem keyIs_shape : ∀ {k : Key} {v : Value}, keyIs k v = true → (∃ i t, k = Sum.inl i ∧ v = Value.int i t) ∨ (∃ x t, k = Sum.inr x ∧ v = Value.str x t)
  | .inl i, v, h => by
    obtain ⟨t, e⟩ := Value.isInt_shape (k := i) (v := v) h
    exact .inl ⟨i, t, rfl, e⟩
  | .inr x, v, h => by
    obtain ⟨t, e⟩ := Value.isStrOf_shape (x := x) (v := v) h
    exact .inr ⟨x, t, rfl, e⟩
theorem keyIs_int (i : Int) (t : Tok) : keyIs (.inl i) (.int i t) = true := by simp [keyIs, Value.isInt]
theorem keyIs_str (x : Str) (t : Tok) : keyIs (.inr x) (.str x t) = true := by simp [keyIs, Value.isStrOf]
theorem key_ll (a b : Int) : decide ((Sum.inl a : Key) = Sum.inl b) = (a == b) := by
  by_cases e : a = b
  · subst e; simp
  · have h : ¬ (Sum.inl a : Key) = Sum.inl b := fun q => e (Sum.inl.inj q)
    rw [decide_eq_false h]
    exact (beq_eq_false_iff_ne.mpr e).symm
theorem key_rr (a b : Str) : decide ((Sum.inr a : Key) = Sum.inr b) = decide (a = b) := by
  by_cases e : a = b
  · subst e; simp
  · have h : ¬ (Sum.inr a : Key) = Sum.inr b := fun q => e (Sum.inr.inj q)
    rw [decide_eq_false h, decide_eq_false e]
theorem key_lr (a : Int) (b : Str) : decide ((Sum.inl a : Key) = Sum.inr b) = false := decide_eq_false (fun q => nomatch q)
theorem key_rl (a : Str) (b : Int) : decide ((Sum.inr a : Key) = Sum.inl b) = false := decide_eq_false (fun q => nomatch q)
def mixKind (prog : Program) (w : World) : PySem.KeyKind prog w Key where
  is := keyIs
  hash := keyH w
  inj := fun v a b ha hb => by
    rcases keyIs_shape ha with ⟨i, t, rfl, rfl⟩ | ⟨x, t, rfl, rfl⟩
    · rcases keyIs_shape hb with ⟨j, u, rfl, e⟩ | ⟨y, u, rfl, e⟩
      · injection e with e1 _; rw [e1]
      · exact nomatch e
    · rcases keyIs_shape hb with ⟨j, u, rfl, e⟩ | ⟨y, u, rfl, e⟩
      · exact nomatch e
      · injection e with e1 _; rw [e1]
  byValue := fun k v h => by
    rcases keyIs_shape h with ⟨i, t, rfl, rfl⟩ | ⟨x, t, rfl, rfl⟩ <;> rfl
  pyHash := fun hv h => by
    rcases keyIs_shape hv with ⟨i, t, rfl, rfl⟩ | ⟨x, t, rfl, rfl⟩
    · exact wpAny_pyHash_int h
    · exact wpAny_pyHash_str h
  eqBool := fun hu hv h => by
    rcases keyIs_shape hu with ⟨i, t, rfl, rfl⟩ | ⟨x, t, rfl, rfl⟩
    · rcases keyIs_shape hv with ⟨j, u, rfl, rfl⟩ | ⟨y, u, rfl, rfl⟩
      · rw [key_ll] at h; exact wpAny_eqBool_int h
      · rw [key_lr] at h; exact SeqAt.EqAt.int_str i t y u _ _ _ _ h
    · rcases keyIs_shape hv with ⟨j, u, rfl, rfl⟩ | ⟨y, u, rfl, rfl⟩
      · rw [key_rl] at h; exact SeqAt.EqAt.str_int x t j u _ _ _ _ h
      · rw [key_rr] at h; exact wpAny_eqBool_str h
  «strs» := fun k x t v h => by
    rcases keyIs_shape h with ⟨i, u, rfl, e⟩ | ⟨y, u, rfl, e⟩
    · exact nomatch e
    · injection e with e1 _
      subst e1
      cases v <;> rfl
theorem mixKind_int (prog : Program) (w : World) (i : Int) (t : Tok) : (mixKind prog w).is (.inl i) (.int i t) = true := keyIs_int i t
theorem mixKind_str (prog : Program) (w : World) (x : Str) (t : Tok) : (mixKind prog w).is (.inr x) (.str x t) = true := keyIs_str x t
end L2
namespace FT
open PySem PySem.Spec PyProof.Rows L2
abbrev Rise (xs : Array Nat) : Prop := xs.toList.Pairwise (· < ·)
instance keyMem (k : Key) (ks : List Key) : Decidable (k ∈ ks) := @List.instDecidableMemOfLawfulBEq Key instBEqOfDecidableEq inferInstance k ks
section
variable (w : World)
def KE (k : Key) (e : Int × Value) : Prop := keyIs k e.2 = true ∧ e.1 = keyH w k
def SetAt (h : Heap) (a : Addr) (ks : List Key) : Prop :=
  ∃ o es ep t ks', h.get? a = some o ∧ o.ExactSet ∧ o.data = .set es ep t ∧ Paired (KE w) ks' es.toList ∧ ks'.Perm ks ∧ ks.Nodup ∧ es.size < scanBound ∧ t.fits es.size = true ∧ Rise t.place ∧
    (t.led = true ∨ w.params.followText "set-order" = true)
end
def IsTup0 (h : Heap) (a : Addr) (items : Array Value) : Prop := ∃ o, h.get? a = some o ∧ (o.cls = .type "tuple" ∧ o.dict = none) ∧ ∃ n, o.data = .seq items n
theorem IsTup0.new (h : Heap) (items : Array Value) : IsTup0 (h.push { cls := .type "tuple", data := .seq items }) h.objs.size items := ⟨_, Heap.get?_push_size _ rfl, ⟨rfl, rfl⟩, _, rfl⟩
theorem IsTup0.tup {h : Heap} {a : Addr} {items : Array Value} (x : IsTup0 h a items) : IsTup h a items := let ⟨o, e, c, d⟩ := x; ⟨o, e, c.1, d⟩
theorem IsTup0.lt {h : Heap} {a : Addr} {items : Array Value} (x : IsTup0 h a items) : a < h.objs.size := let ⟨_, e, _⟩ := x; Heap.lt_size e
end FT
namespace L2
open PySem PySem.Spec PyProof.Rows
inductive V where
  | non | bl (b : Bool) | int (i : Int) | str (x : Str) | byt (b : Array UInt8) | flt (b : UInt64) | ref (a : Addr) | ty (n : String)
  deriving DecidableEq
def RelV : V → Value → Prop
  | .non, u => u = Value.none
  | .bl b, u => u = Value.bool b
  | .int i, u => ∃ t, u = Value.int i t
  | .str x, u => ∃ t, u = Value.str x t
  | .byt b, u => ∃ t, u = Value.bytes b t
  | .flt b, u => ∃ t, u = Value.float b t
  | .ref a, u => u = Value.ref a
  | .ty n, u => u = Value.type n
abbrev Vals : List V → List Value → Prop := Paired RelV
theorem Vals.length {xs : List V} {us : List Value} (r : Vals xs us) : xs.length = us.length := Paired.length r
theorem Vals.get : ∀ {xs : List V} {us : List Value} {i : Nat} {x : V}, Vals xs us → xs[i]? = some x → ∃ u, us[i]? = some u ∧ RelV x u
  | _, _, _, _, .nil, e => by simp at e
  | _, _, 0, _, .cons r _, e => by simp at e; subst e; exact ⟨_, rfl, r⟩
  | _, _, i + 1, x, .cons _ t, e => by
    obtain ⟨u, h1, h2⟩ := Vals.get (i := i) (x := x) t (by simpa using e)
    exact ⟨u, by simpa using h1, h2⟩
theorem Vals.set {x : V} {u : Value} (r : RelV x u) : ∀ {xs : List V} {us : List Value} (i : Nat), Vals xs us → Vals (xs.set i x) (us.set i u)
  | _, _, _, .nil => .nil
  | _, _, 0, .cons _ t => .cons r t
  | _, _, i + 1, .cons q t => .cons q (Vals.set r i t)
theorem Vals.append : ∀ {xs ys : List V} {us ws : List Value}, Vals xs us → Vals ys ws → Vals (xs ++ ys) (us ++ ws)
  | _, _, _, _, .nil, s => s
  | _, _, _, _, .cons r t, s => .cons r (Vals.append t s)
theorem Vals.take : ∀ {xs : List V} {us : List Value} (n : Nat), Vals xs us → Vals (xs.take n) (us.take n)
  | _, _, 0, _ => .nil
  | _, _, _ + 1, .nil => .nil
  | _, _, n + 1, .cons r t => .cons r (Vals.take n t)
theorem Vals.drop : ∀ {xs : List V} {us : List Value} (n : Nat), Vals xs us → Vals (xs.drop n) (us.drop n)
  | _, _, 0, r => r
  | _, _, _ + 1, .nil => .nil
  | _, _, n + 1, .cons _ t => Vals.drop n t
def RelO : Option V → Option Value → Prop
  | some v, some u => RelV v u
  | none, none => True
  | _, _ => False
def KV {κ : Type} : List (κ × V) → List (κ × Value) → Prop := Paired fun (p : κ × V) (q : κ × Value) => p.1 = q.1 ∧ RelV p.2 q.2
def kV : Key → V
  | .inl i => .int i
  | .inr x => .str x
inductive HO where
  | lst (xs : List V)
  | tup (xs : List V)
  | dK (kvs : List (Key × V)) | dT (kvs : List (List Key × V))
  | set (ks : List Key)
  | ins (C dx : Addr) (fs : List (Str × V))
  | own (x : Addr)
  | xd (fs : List (Str × V))
  | met (f x : Addr)
  | rng (lo hi : Int)
  | frz (o : Obj) (u : HO)
  | tbl (ps : Array Value)
  | ext (φ : Heap → Prop)
abbrev Hp := Addr → Option HO
def upd (H : Hp) (a : Addr) (o : HO) : Hp := fun b => if b = a then some o else H b
theorem upd_same {H : Hp} {a : Addr} {o : HO} : upd H a o a = some o := by unfold upd; rw [if_pos rfl]
theorem upd_ne {H : Hp} {a b : Addr} {o : HO} (h : b ≠ a) : upd H a o b = H b := by unfold upd; rw [if_neg h]
theorem ne_of_none {H : Hp} {a b : Addr} {o : HO} (h : H a = some o) (h' : H b = none) : a ≠ b := by
  intro e; subst e; rw [h] at h'; cases h'
section
variable (P : Program) (w : World)
def ObjOk (H : Hp) (h : Heap) (a : Addr) : HO → Prop
  | .lst xs => xs.length ≤ sizeLine ∧ ∃ (its : List Value) (n : Nat), Vals xs its ∧ h.get? a = some { cls := .type "list", data := .seq its.toArray n }
  | .tup xs => xs.length ≤ sizeLine ∧ ∃ its : List Value, Vals xs its ∧ FT.IsTup0 h a its.toArray
  | .dK kvs => kvs.length ≤ sizeLine ∧ (a == sysModules) = false ∧ ∃ vs, KV kvs vs ∧ h.DictOf (mixKind P w) a vs
  | .dT kvs => kvs.length ≤ sizeLine ∧ (a == sysModules) = false ∧ ∃ xs : List (List Key × Addr × Value),
      Paired (fun (p : List Key × V) (q : List Key × Addr × Value) => p.1 = q.1 ∧ H q.2.1 = some (.tup (p.1.map kV)) ∧ RelV p.2 q.2.2) kvs xs ∧
      ∃ o es ep, h.get? a = some o ∧ o.ExactDict ∧ o.data = .dict es ep ∧ es.toList = xs.map (entryOfKey (tupleKind (mixKind P w))) ∧ (xs.map (·.1)).Nodup
  | .set ks => FT.SetAt w h a ks
  | .ins C dx fs => H dx = some (.own a) ∧ fs.length ≤ 1000 ∧ dx ≠ a ∧ h.get? a = some (PySem.W.instObj C dx) ∧
      ∃ mA, h.Ns1 dx mA ∧ (∀ f, RelO (fs.lookup f) (mA f)) ∧ PySem.Within mA (fs.map (·.1))
  | .own _ => ∃ o, h.get? a = some o
  | .xd fs => ∃ mA, h.Ns1 a mA ∧ ∀ f, RelO (fs.lookup f) (mA f)
  | .rng lo hi => ∃ t u v, h.get? a = some { cls := .type "range", data := .fields #[.int lo t, .int hi u, .int 1 v] }
  | .frz o u => h.get? a = some o ∧ ObjOk H h a u
  | .tbl ps => h.get? a = some { cls := .none, data := .fields ps }
  | .met f x => h.get? a = some (PySem.W.methodObj (.ref f) (.ref x))
  | .ext φ => φ h ∧ (∃ o, h.get? a = some o) ∧ ∀ h1 h2 : Heap, φ h1 → (∀ o, h1.get? a = some o → h2.get? a = some o) → φ h2
def HOk (H : Hp) (h : Heap) : Prop := ∀ a o, H a = some o → ObjOk P w H h a o
end
section
variable {P : Program} {w : World} {H H' : Hp} {h h' : Heap} {a : Addr} {o : HO}
theorem ObjOk.lt (x : ObjOk P w H h a o) : a < h.objs.size := by
  cases o with
  | lst xs => obtain ⟨_, _, _, _, e⟩ := x; exact Heap.lt_size e
  | tup xs => obtain ⟨_, _, _, p⟩ := x; exact p.lt
  | dK kvs => obtain ⟨_, _, _, _, o, _, _, e, _⟩ := x; exact Heap.lt_size e
  | dT kvs => obtain ⟨_, _, _, _, o, _, _, e, _⟩ := x; exact Heap.lt_size e
  | set ks => obtain ⟨o, _, _, _, _, e, _⟩ := x; exact Heap.lt_size e
  | ins C dx fs => obtain ⟨_, _, _, e, _⟩ := x; exact Heap.lt_size e
  | own y => obtain ⟨_, e⟩ := x; exact Heap.lt_size e
  | xd fs => obtain ⟨_, ⟨_, _, _, e, _⟩, _⟩ := x; exact Heap.lt_size e
  | rng lo hi => obtain ⟨_, _, _, e⟩ := x; exact Heap.lt_size e
  | frz ob u => obtain ⟨e, _⟩ := x; exact Heap.lt_size e
  | tbl ps => exact Heap.lt_size (show h.get? a = some _ from x)
  | met f y => exact Heap.lt_size (show h.get? a = some _ from x)
  | ext φ => obtain ⟨_, ⟨_, e⟩, _⟩ := x; exact Heap.lt_size e
theorem Paired.mapP {α β : Type} {F G : α → β → Prop} : ∀ {l₁ : List α} {l₂ : List β}, Paired F l₁ l₂ → (∀ a b, F a b → G a b) → Paired G l₁ l₂
  | _, _, .nil, _ => .nil
  | _, _, .cons r t, f => .cons (f _ _ r) (Paired.mapP t f)
theorem ObjOk.stay (x : ObjOk P w H h a o) (k : ∀ b u, (b = a ∨ H b = some (.own a)) → h.get? b = some u → h'.get? b = some u)
    (ho : ∀ b, H b = some (.own a) → H' b = some (.own a)) (ht : ∀ b xs, H b = some (.tup xs) → H' b = some (.tup xs)) : ObjOk P w H' h' a o := by
  induction o with
  | lst xs => obtain ⟨z, its, n, r, e⟩ := x; exact ⟨z, its, n, r, k _ _ (.inl rfl) e⟩
  | tup xs => obtain ⟨z, its, r, ob, e, c⟩ := x; exact ⟨z, its, r, ob, k _ _ (.inl rfl) e, c⟩
  | dK kvs => obtain ⟨z, y, vs, r, ob, es, ep, e, c⟩ := x; exact ⟨z, y, vs, r, ob, es, ep, k _ _ (.inl rfl) e, c⟩
  | dT kvs =>
    obtain ⟨z, y, xs, r, ob, es, ep, e, c⟩ := x
    exact ⟨z, y, xs, Paired.mapP r fun p q z => ⟨z.1, ht _ _ z.2.1, z.2.2⟩, ob, es, ep, k _ _ (.inl rfl) e, c⟩
  | set ks => obtain ⟨ob, es, ep, t, k', e, c⟩ := x; exact ⟨ob, es, ep, t, k', k _ _ (.inl rfl) e, c⟩
  | ins C dx fs =>
    obtain ⟨d, z, ne, e, mA, ⟨od, es, ep, e2, c⟩, r⟩ := x
    exact ⟨ho _ d, z, ne, k _ _ (.inl rfl) e, mA, ⟨od, es, ep, k _ _ (.inr d) e2, c⟩, r⟩
  | own y => obtain ⟨ob, e⟩ := x; exact ⟨ob, k _ _ (.inl rfl) e⟩
  | xd fs => obtain ⟨mA, ⟨od, es, ep, e, c⟩, r⟩ := x; exact ⟨mA, ⟨od, es, ep, k _ _ (.inl rfl) e, c⟩, r⟩
  | rng lo hi => obtain ⟨t, u, v, e⟩ := x; exact ⟨t, u, v, k _ _ (.inl rfl) e⟩
  | frz ob u ih => obtain ⟨e, q⟩ := x; exact ⟨k _ _ (.inl rfl) e, ih q⟩
  | tbl ps =>
    have e : h.get? a = some { cls := .none, data := .fields ps } := x
    show h'.get? a = some { cls := .none, data := .fields ps }
    exact k a _ (.inl rfl) e
  | met f y =>
    have e : h.get? a = some (PySem.W.methodObj (.ref f) (.ref y)) := x
    show h'.get? a = some (PySem.W.methodObj (.ref f) (.ref y))
    exact k a _ (.inl rfl) e
  | ext φ => obtain ⟨p, ⟨o, e⟩, st⟩ := x; exact ⟨st _ _ p fun o q => k _ _ (.inl rfl) q, ⟨o, k _ _ (.inl rfl) e⟩, st⟩
theorem HOk.lt (x : HOk P w H h) (e : H a = some o) : a < h.objs.size := (x a o e).lt
theorem HOk.fresh (x : HOk P w H h) (e : h.objs.size ≤ a) : H a = none := by
  cases q : H a with
  | none => rfl
  | some u => exact absurd (Nat.lt_of_lt_of_le (x.lt q) e) (Nat.lt_irrefl _)
theorem HOk.kept (x : HOk P w H h) (k : ∀ b u, h.get? b = some u → h'.get? b = some u) : HOk P w H h' := fun a o e =>
  (x a o e).stay (fun b u _ q => k b u q) (fun _ q => q) fun _ _ q => q
theorem HOk.laid (x : HOk P w H h) (k : ∀ b u, h.get? b = some u → h'.get? b = some u) (hp : h.objs.size ≤ a) (new : ObjOk P w (upd H a o) h' a o) : HOk P w (upd H a o) h' := fun b u e => by
  have hn := x.fresh hp
  by_cases hb : b = a
  · subst hb; rw [upd_same] at e; cases e; exact new
  · rw [upd_ne hb] at e
    exact (x b u e).stay (fun c v _ q => k c v q) (fun c q => by rw [upd_ne (ne_of_none q hn)]; exact q) fun c xs q => by rw [upd_ne (ne_of_none q hn)]; exact q
end
def Rd (H : Hp) (a : Addr) (u : HO) : Prop := H a = some u ∨ ∃ o, H a = some (.frz o u)
theorem Rd.of {H : Hp} {a : Addr} {u : HO} (h : H a = some u) : Rd H a u := .inl h
theorem Rd.ok {P : Program} {w : World} {H : Hp} {h : Heap} {a : Addr} {u : HO} (r : Rd H a u) (x : HOk P w H h) : ObjOk P w H h a u := by
  rcases r with r | ⟨o, r⟩
  · exact x a u r
  · obtain ⟨_, q⟩ := x a _ r
    exact q
def Mut : Option HO → Prop
  | some (.lst _) => True
  | some (.dK _) => True
  | some (.dT _) => True
  | some (.set _) => True
  | some (.ins _ _ _) => True
  | some (.ext _) => True
  | _ => False
section
variable {P : Program} {w : World} {H : Hp} {h h' : Heap} {x e : Addr} {o' : HO}
theorem HOk.write (ok : HOk P w H h) (mu : Mut (H x)) (he : e = x ∨ H e = some (.own x)) (k : ∀ b u, b ≠ e → h.get? b = some u → h'.get? b = some u) (heo : ∃ u, h'.get? e = some u)
    (new : ObjOk P w (upd H x o') h' x o') : HOk P w (upd H x o') h' := fun b u q => by
  have nown : ∀ c y, H c = some (.own y) → c ≠ x := fun c y r z => by subst z; rw [r] at mu; exact mu
  have ntup : ∀ c xs, H c = some (.tup xs) → c ≠ x := fun c xs r z => by subst z; rw [r] at mu; exact mu
  by_cases hb : b = x
  · subst hb; rw [upd_same] at q; cases q; exact new
  · rw [upd_ne hb] at q
    by_cases hbe : b = e
    · have q' : H b = some (.own x) := by
        rcases he with z | z
        · exact absurd (hbe.trans z) hb
        · rw [hbe]; exact z
      rw [q] at q'; cases q'
      obtain ⟨v, hv⟩ := heo
      exact ⟨v, by rw [hbe]; exact hv⟩
    · refine (ok b u q).stay (fun c v hc r => k c v ?_ r) (fun c r => by rw [upd_ne (nown c b r)]; exact r) fun c xs r => by rw [upd_ne (ntup c xs r)]; exact r
      rcases hc with rfl | hc
      · exact hbe
      · rintro rfl
        rcases he with z | z
        · exact nown c b hc z
        · rw [hc] at z; cases z; exact hb rfl
end
structure Un (fs ex : List Addr) (H H' : Hp) (h h' : Heap) : Prop where
  keep : ∀ b o, h.get? b = some o → H b = none → b ∉ fs → b ∉ ex → h'.get? b = some o
  slot : ∀ b o, h.get? b = some o → H b = none → b ∈ fs → b ∉ ex → ∃ sl, h'.get? b = some { o with slots := sl }
  free : ∀ b o, h.get? b = some o → H b = none → b ∉ ex → H' b = none
  there : ∀ b o, h.get? b = some o → b ∉ ex → ∃ o', h'.get? b = some o'
  tups : ∀ b xs, H b = some (.tup xs) → H' b = some (.tup xs)
  frzs : ∀ b o u, H b = some (.frz o u) → H' b = some (.frz o u)
  tbls : ∀ b ps, H b = some (.tbl ps) → ∃ more, H' b = some (.tbl (ps ++ more))
section
variable {fs fs' ex ex' : List Addr} {H H1 H2 : Hp} {h h1 h2 h' : Heap} {a x e : Addr} {o : HO}
theorem Un.any (u : Un fs ex H H1 h h1) {b : Addr} {ob : Obj} (q : h.get? b = some ob) (n : H b = none) (hx : b ∉ ex) : ∃ sl, h1.get? b = some { ob with slots := sl } := by
  by_cases hb : b ∈ fs
  · exact u.slot b ob q n hb hx
  · exact ⟨ob.slots, u.keep b ob q n hb hx⟩
theorem Un.trans (a : Un fs ex H H1 h h1) (b : Un fs ex H1 H2 h1 h2) : Un fs ex H H2 h h2 where
  keep := fun c ob q n hc hx => b.keep c ob (a.keep c ob q n hc hx) (a.free c ob q n hx) hc hx
  slot := fun c ob q n hc hx => by
    obtain ⟨sl, e1⟩ := a.slot c ob q n hc hx
    obtain ⟨sl', e2⟩ := b.slot c _ e1 (a.free c ob q n hx) hc hx
    exact ⟨sl', e2⟩
  free := fun c ob q n hx => by
    obtain ⟨o', e1⟩ := a.there c ob q hx
    exact b.free c o' e1 (a.free c ob q n hx) hx
  there := fun c ob q hx => by
    obtain ⟨o', e1⟩ := a.there c ob q hx
    exact b.there c o' e1 hx
  tups := fun c xs q => b.tups c xs (a.tups c xs q)
  frzs := fun c ob xs q => b.frzs c ob xs (a.frzs c ob xs q)
  tbls := fun c ps q => by
    obtain ⟨m1, e1⟩ := a.tbls c ps q
    obtain ⟨m2, e2⟩ := b.tbls c _ e1
    exact ⟨m1 ++ m2, by rw [e2, Array.append_assoc]⟩
theorem Un.kept (k : ∀ b u, h.get? b = some u → h'.get? b = some u) : Un fs ex H H h h' :=
  ⟨fun b ob q _ _ _ => k b ob q, fun b ob q _ _ _ => ⟨ob.slots, k b ob q⟩, fun _ _ _ n _ => n, fun b ob q _ => ⟨ob, k b ob q⟩, fun _ _ q => q, fun _ _ _ q => q, fun _ ps q => ⟨#[], by rw [q]; simp⟩⟩
theorem Un.refl : Un fs ex H H h h := Un.kept fun _ _ q => q
theorem Un.laid (k : ∀ b u, h.get? b = some u → h'.get? b = some u) (hp : h.objs.size ≤ a) (hn : H a = none) : Un fs ex H (upd H a o) h h' where
  keep := fun b u q _ _ _ => k b u q
  slot := fun b u q _ _ _ => ⟨u.slots, k b u q⟩
  free := fun b u q n _ => by rw [upd_ne (Nat.ne_of_lt (Nat.lt_of_lt_of_le (Heap.lt_size q) hp))]; exact n
  there := fun b u q _ => ⟨u, k b u q⟩
  tups := fun b xs q => by rw [upd_ne (ne_of_none q hn)]; exact q
  frzs := fun b u xs q => by rw [upd_ne (ne_of_none q hn)]; exact q
  tbls := fun b ps q => ⟨#[], by rw [upd_ne (ne_of_none q hn), q]; simp⟩
theorem Un.write (mu : Mut (H x)) (he : e = x ∨ H e = some (.own x)) (k : ∀ b u, b ≠ e → h.get? b = some u → h'.get? b = some u) (heo : ∃ u, h'.get? e = some u) : Un fs ex H (upd H x o) h h' := by
  have hx : ∀ b, H b = none → b ≠ x := fun b n z => by subst z; rw [n] at mu; exact mu
  have hb : ∀ b, H b = none → b ≠ e := fun b n z => by
    subst z
    rcases he with r | r
    · exact hx b n r
    · rw [n] at r; cases r
  have hm : ∀ b u, H b = some u → ¬ Mut (some u) → b ≠ x := fun b u q nm z => by subst z; rw [q] at mu; exact nm mu
  refine ⟨fun b u q n _ _ => k b u (hb b n) q, fun b u q n _ _ => ⟨u.slots, k b u (hb b n) q⟩, fun b u q n _ => by rw [upd_ne (hx b n)]; exact n, fun b u q _ => ?_,
    fun b xs q => by rw [upd_ne (hm b _ q fun z => z)]; exact q, fun b u xs q => by rw [upd_ne (hm b _ q fun z => z)]; exact q, fun b ps q => ⟨#[], by rw [upd_ne (hm b _ q fun z => z), q]; simp⟩⟩
  by_cases hbe : b = e
  · subst hbe; exact heo
  · exact ⟨u, k b u hbe q⟩
theorem Un.mono (u : Un fs ex H H1 h h1) (hs : ∀ b ∈ fs, b ∈ fs') (hx : ∀ b ∈ ex, b ∈ ex') : Un fs' ex' H H1 h h1 :=
  ⟨fun b ob q n hb he => u.keep b ob q n (fun z => hb (hs b z)) fun z => he (hx b z), fun _ _ q n _ he => u.any q n fun z => he (hx _ z), fun b ob q n he => u.free b ob q n fun z => he (hx b z), fun b ob q he => u.there b ob q fun z => he (hx b z), u.tups, u.frzs, u.tbls⟩
end
def trk (h : Heap) (H : Hp) : List Addr := (List.range h.objs.size).filter fun a => (H a).isSome
def hidT (h : Heap) (H : Hp) : Heap := PySem.W.hideAll h (trk h H)
theorem hidT_size (h : Heap) (H : Hp) : (hidT h H).objs.size = h.objs.size := PySem.W.hideAll_size _ _
theorem hidT_get {h : Heap} {H : Hp} {b : Addr} {o : Obj} (e : h.get? b = some o) (n : H b = none) : (hidT h H).get? b = some o :=
  PySem.W.hideAll_get _ e fun hm => by
    have q : (H b).isSome = true := (List.mem_filter.mp hm).2
    rw [n] at q; simp at q
theorem of_hidT {h : Heap} {H : Hp} {b : Addr} {o : Obj} (e : (hidT h H).get? b = some o) : h.get? b = some o ∧ H b = none := by
  have e' : h.get? b = some o := PySem.W.of_hideAll (trk h H) e
  refine ⟨e', ?_⟩
  cases q : H b with
  | none => rfl
  | some x =>
    have hm : b ∈ trk h H := List.mem_filter.mpr ⟨List.mem_range.mpr (Heap.lt_size e'), by simp [q]⟩
    have z : (hidT h H).get? b = none := PySem.W.hideAll_none (trk h H) hm
    rw [z] at e; cases e
def allNews (g h : Heap) (L : Addr) : List (Addr × Obj) := (List.range h.objs.size).filterMap fun a => if a = L ∨ (g.get? a).isSome = true then none else (h.get? a).map fun o => (a, o)
def rest (g h : Heap) (L d : Addr) : List (Addr × Obj) := (allNews g h L).filter fun p => decide (p.1 ≠ d)
end L2
namespace L2
open PySem PySem.Spec PyProof.Rows
structure Mod (K : PySem.W.Frag) (mg : Str → Option Value) (base : Heap) : Prop where
  kin : K.In base
  glob : base.Ns mainGlobals mg
  blt : ∃ mb, base.Ns builtinsNs mb ∧ ∀ x : Str, x ≠ "__name__" → mb x = bootBuiltins x
  nolimit : base.NoLimit
structure Cx where
  prog : Program
  w : World
  K : PySem.W.Frag
  mg : Str → Option Value
  base : Heap
  A : Around
  N : List Str
  s₀ : Shared
  H₀ : Hp
  env : Env
  outer : List Env
  stack : List Env
  ex : List Addr
  fn : Str → Bool
  calm : Bool
  pn : List (Addr × Obj)
  xe : Value → Shared → Prop
def frs (l : List Env) : List Addr := l.filterMap (·.frame)
abbrev Cx.fs (X : Cx) : List Addr := frs X.outer
def Vis (sc : Scope) (x : Str) : Prop := sc.names.lookup x = some .local ∨ sc.names.lookup x = some .cell ∨ sc.names.lookup x = some .free
def Loc (sc : Scope) (x : Str) : Prop := sc.names.lookup x = some .local ∨ sc.names.lookup x = some .cell
def Look (env : Env) (h : Heap) (m : Str → Option Value) (x : Str) (u : Value) : Prop :=
  (env.kindOf x = some .local ∧ m x = some u) ∨ ((env.kindOf x = some .cell ∨ env.kindOf x = some .free) ∧ ∃ c, env.cells.lookup x = some c ∧ h.IsCell c (some u))
structure Cx.Ok (X : Cx) : Prop where
  mod : Mod X.K X.mg X.base
  kind : X.env.scope.kind = .function
  glob : X.env.globals = mainGlobals
  blt : X.env.builtins = builtinsNs
  above : X.s₀.heap.objs.size ≤ X.env.locals
  inj : ∀ x y c, X.env.cells.lookup x = some c → X.env.cells.lookup y = some c → x = y
  has : ∀ x, (X.env.kindOf x = some .cell ∨ X.env.kindOf x = some .free) → ∃ c, X.env.cells.lookup x = some c
  cab : ∀ x c, X.fn x = true → X.env.cells.lookup x = some c → X.s₀.heap.objs.size ≤ c
  hd : X.calm = true → X.A.handled = none
  frames : X.A.frames = some X.stack
  stk : X.stack = X.outer ∨ (X.stack = X.env :: X.outer ∧ X.env.frame = some X.env.locals)
  exf : ∀ b ∈ X.ex, b ≠ X.env.locals ∧ ∀ x c, X.env.cells.lookup x = some c → c ≠ b
  bs : ∀ b o, X.base.get? b = some o → X.s₀.heap.get? b = some o ∧ X.H₀ b = none
  bsz : X.base.objs.size ≤ X.s₀.heap.objs.size
  noex : ∀ b o, X.base.get? b = some o → b ∉ X.ex
  exfs : ∀ b ∈ X.ex, b ∉ X.fs
  funs : X.s₀.heap.FunFrames X.base X.outer
  frf : ∀ b ∈ X.fs, X.H₀ b = none
structure Inv (X : Cx) (pins : List (Addr × Obj)) (σ : List (Option V)) (H : Hp) (s : Shared) : Prop where
  ok : X.Ok
  os : s.os = X.s₀.os
  bare : AllBare s.gens
  base : Un X.fs X.ex X.H₀ H X.s₀.heap s.heap
  loc : ∃ m, s.heap.Ns X.env.locals m ∧ ∀ (i : Nat) (x : Str) (v : V), X.N[i]? = some x → σ[i]? = some (some v) → Vis X.env.scope x → ∃ u, RelV v u ∧ Look X.env s.heap m x u
  cell : ∀ x c, X.env.cells.lookup x = some c → ∃ v, s.heap.IsCell c v
  free : H X.env.locals = none
  freeC : ∀ x c, X.env.cells.lookup x = some c → H c = none
  pin : ∀ p ∈ X.pn ++ pins, s.heap.get? p.1 = some p.2 ∧ H p.1 = none ∧ p.1 ≠ X.env.locals ∧ p.1 ∉ X.fs ∧ ∀ v, p.2.data ≠ .cell v
  hok : HOk X.prog X.w H s.heap
  len : σ.length = X.N.length
section
variable {X : Cx} {pins : List (Addr × Obj)} {σ : List (Option V)} {H H' : Hp} {s : Shared} {h' : Heap}
theorem Cx.Ok.nofr (ok : X.Ok) {b : Addr} {o : Obj} (e : X.base.get? b = some o) : b ∉ X.fs := fun hb => by
  have := (ok.funs.mem hb).1
  rw [e] at this; cases this
theorem Inv.bs (I : Inv X pins σ H s) : ∀ b o, X.base.get? b = some o → s.heap.get? b = some o ∧ H b = none := fun b o e =>
  ⟨I.base.keep b o (I.ok.bs b o e).1 (I.ok.bs b o e).2 (I.ok.nofr e) (I.ok.noex b o e), I.base.free b o (I.ok.bs b o e).1 (I.ok.bs b o e).2 (I.ok.noex b o e)⟩
theorem Inv.bk (I : Inv X pins σ H s) : ∀ b o, X.base.get? b = some o → s.heap.get? b = some o := fun b o e => (I.bs b o e).1
theorem Inv.mod (I : Inv X pins σ H s) : Mod X.K X.mg X.base := I.ok.mod
theorem Inv.kIn (I : Inv X pins σ H s) : X.K.In s.heap := I.ok.mod.kin.keeps I.bk
theorem Inv.nolimit (I : Inv X pins σ H s) : s.heap.NoLimit := I.ok.mod.nolimit.keeps I.bk
theorem Inv.fr (I : Inv X pins σ H s) : ∃ m, Fr X.base X.env.locals s.heap m :=
  let ⟨m, hn, _⟩ := I.loc
  ⟨m, hn, I.bk, Nat.le_trans I.ok.bsz I.ok.above⟩
theorem Inv.lt (I : Inv X pins σ H s) : X.env.locals < s.heap.objs.size := let ⟨_, hn, _⟩ := I.loc; hn.lt
theorem Inv.sz (I : Inv X pins σ H s) : X.s₀.heap.objs.size ≤ s.heap.objs.size := Nat.le_trans I.ok.above (Nat.le_of_lt I.lt)
theorem Inv.nofs (I : Inv X pins σ H s) {a : Addr} (h : s.heap.objs.size ≤ a) : a ∉ X.fs := fun hb => by
  obtain ⟨_, o, ho, _⟩ := I.ok.funs.mem hb
  exact absurd (Nat.lt_of_lt_of_le (Heap.lt_size ho) (Nat.le_trans I.sz h)) (Nat.lt_irrefl _)
theorem Inv.cne (I : Inv X pins σ H s) : ∀ x c, X.env.cells.lookup x = some c → c ≠ X.env.locals := fun x c e z => by
  obtain ⟨v, o, ho, hd⟩ := I.cell x c e
  obtain ⟨m, ⟨o', es, ep, ho', hd', _⟩, _⟩ := I.loc
  rw [z, ho'] at ho; cases ho; rw [hd'] at hd; cases hd
theorem Inv.funs (I : Inv X pins σ H s) : s.heap.FunFrames X.base X.outer := by
  have all : ∀ (l : List Env), (∀ b ∈ frs l, b ∈ X.fs) → X.s₀.heap.FunFrames X.base l → s.heap.FunFrames X.base l := by
    intro l
    induction l with
    | nil => intro _ _; trivial
    | cons env r ih =>
      intro hs hl
      obtain ⟨hk, ⟨L, o, hf, hn, ho, hd⟩, hr⟩ := hl
      have hL : L ∈ X.fs := hs L (by unfold frs; rw [List.filterMap_cons, hf]; exact List.mem_cons_self)
      obtain ⟨sl, e⟩ := I.base.slot L o ho (I.ok.frf L hL) hL fun z => I.ok.exfs L z hL
      exact ⟨hk, ⟨L, _, hf, hn, e, hd⟩, ih (fun b hb => hs b (by unfold frs; rw [List.filterMap_cons, hf]; exact List.mem_cons_of_mem _ hb)) hr⟩
  exact all X.outer (fun _ hb => hb) I.ok.funs
theorem Inv.stack (I : Inv X pins σ H s) : s.heap.FunFrames X.base X.stack := by
  rcases I.ok.stk with e | ⟨e, hf⟩
  · rw [e]; exact I.funs
  · rw [e]
    obtain ⟨m, hn, _⟩ := I.loc
    refine .cons (by rw [I.ok.kind]; decide) hf hn ?_ I.funs
    exact Heap.get?_none_of_le (Nat.le_trans I.ok.bsz I.ok.above)
theorem Inv.stkSub (I : Inv X pins σ H s) : ∀ b ∈ frs X.stack, b ∈ X.env.locals :: X.fs := fun b hb => by
  rcases I.ok.stk with e | ⟨e, hf⟩
  · rw [e] at hb; exact List.mem_cons_of_mem _ hb
  · rw [e] at hb
    unfold frs at hb
    rw [List.filterMap_cons, hf] at hb
    exact hb
theorem Inv.stkFree (I : Inv X pins σ H s) : ∀ b ∈ frs X.stack, H b = none := fun b hb => by
  rcases List.mem_cons.mp (I.stkSub b hb) with e | hb
  · rw [e]; exact I.free
  · obtain ⟨_, o, ho, _⟩ := I.ok.funs.mem hb
    exact I.base.free b o ho (I.ok.frf b hb) fun z => I.ok.exfs b z hb
theorem Inv.step {g' : Array GenState} {t' : Nat} {d' : Drawn} {ch : List Addr} (I : Inv X pins σ H s)
    (hch : ∀ b ∈ ch, (b ∈ X.ex ∨ X.s₀.heap.objs.size ≤ b) ∧ b ≠ X.env.locals ∧ (∀ x c, X.env.cells.lookup x = some c → c ≠ b) ∧ ∀ p ∈ X.pn ++ pins, p.1 ≠ b)
    (keep : ∀ b o, b ≠ X.env.locals → b ∉ X.fs → b ∉ ch → s.heap.get? b = some o → H b = none → h'.get? b = some o)
    (slot : ∀ b o, b ≠ X.env.locals → b ∈ X.fs → b ∉ ch → s.heap.get? b = some o → H b = none → ∃ sl, h'.get? b = some { o with slots := sl }) (free : ∀ b o, b ∉ ch → s.heap.get? b = some o → H b = none → H' b = none)
    (there : ∀ b o, b ∉ ch → s.heap.get? b = some o → ∃ o', h'.get? b = some o')
    (tups : ∀ b xs, H b = some (.tup xs) → H' b = some (.tup xs)) (frzs : ∀ b o u, H b = some (.frz o u) → H' b = some (.frz o u)) (tbls : ∀ b ps, H b = some (.tbl ps) → ∃ more, H' b = some (.tbl (ps ++ more)))
    (ns : ∀ m, s.heap.Ns X.env.locals m → h'.Ns X.env.locals m) (hok : HOk X.prog X.w H' h') (hg : AllBare g') :
    Inv X pins σ H' { s with heap := h', gens := g', drawn := d', toks := t' } := by
  have neL : ∀ b o, X.s₀.heap.get? b = some o → b ≠ X.env.locals := fun b o e => Nat.ne_of_lt (Nat.lt_of_lt_of_le (Heap.lt_size e) I.ok.above)
  have neC : ∀ b o, X.s₀.heap.get? b = some o → b ∉ X.ex → b ∉ ch := fun b o e hx hb => by
    rcases (hch b hb).1 with z | z
    · exact hx z
    · exact absurd (Nat.lt_of_lt_of_le (Heap.lt_size e) z) (Nat.lt_irrefl _)
  have cellK : ∀ x c, X.env.cells.lookup x = some c → ∀ v, s.heap.IsCell c v → h'.IsCell c v := fun x c e v ⟨o, ho, hd⟩ => by
    have nch : c ∉ ch := fun z => (hch c z).2.2.1 x c e rfl
    by_cases hc : c ∈ X.fs
    · obtain ⟨sl, q⟩ := slot c o (I.cne x c e) hc nch ho (I.freeC x c e)
      exact ⟨_, q, hd⟩
    · exact ⟨o, keep c o (I.cne x c e) hc nch ho (I.freeC x c e), hd⟩
  refine ⟨I.ok, I.os, hg, ⟨fun b o e n hb hx => ?_, fun b o e n hb hx => ?_, fun b o e n hx => ?_, fun b o e hx => ?_, fun b xs e => tups b xs (I.base.tups b xs e), fun b o xs e => frzs b o xs (I.base.frzs b o xs e), fun b ps e => ?_⟩, ?_, fun x c e => ?_, ?_, fun x c e => ?_, fun p hp => ?_, hok, I.len⟩
  · exact keep b o (neL b o e) hb (neC b o e hx) (I.base.keep b o e n hb hx) (I.base.free b o e n hx)
  · obtain ⟨sl, e1⟩ := I.base.slot b o e n hb hx
    obtain ⟨sl', e2⟩ := slot b _ (neL b o e) hb (neC b o e hx) e1 (I.base.free b o e n hx)
    exact ⟨sl', e2⟩
  · obtain ⟨o', e1⟩ := I.base.there b o e hx
    exact free b o' (neC b o e hx) e1 (I.base.free b o e n hx)
  · obtain ⟨o', e1⟩ := I.base.there b o e hx
    exact there b o' (neC b o e hx) e1
  · obtain ⟨m1, e1⟩ := I.base.tbls b ps e
    obtain ⟨m2, e2⟩ := tbls b _ e1
    exact ⟨m1 ++ m2, by rw [e2, Array.append_assoc]⟩
  · obtain ⟨m, hn, hl⟩ := I.loc
    refine ⟨m, ns m hn, fun i x v e1 e2 e3 => ?_⟩
    obtain ⟨u, r, l⟩ := hl i x v e1 e2 e3
    refine ⟨u, r, ?_⟩
    rcases l with l | ⟨k, c, e, z⟩
    · exact .inl l
    · exact .inr ⟨k, c, e, cellK x c e _ z⟩
  · obtain ⟨v, z⟩ := I.cell x c e
    exact ⟨v, cellK x c e v z⟩
  · obtain ⟨m, ⟨o, _, _, ho, _⟩, _⟩ := I.loc
    exact free _ o (fun z => (hch _ z).2.1 rfl) ho I.free
  · obtain ⟨v, o, ho, hd⟩ := I.cell x c e
    exact free c o (fun z => (hch c z).2.2.1 x c e rfl) ho (I.freeC x c e)
  · obtain ⟨e, n, ne, nf, d⟩ := I.pin p hp
    have nch : p.1 ∉ ch := fun z => (hch p.1 z).2.2.2 p hp rfl
    exact ⟨keep p.1 p.2 ne nf nch e n, free p.1 p.2 nch e n, ne, nf, d⟩
theorem Inv.un {t' : Nat} (I : Inv X pins σ H s) (u : Un X.fs [] H H' s.heap h') (hok : HOk X.prog X.w H' h') : Inv X pins σ H' { s with heap := h', toks := t' } := by
  obtain ⟨m, ⟨o, es, ep, ho, r⟩, _⟩ := id I.loc
  obtain ⟨sl, hL⟩ := u.any ho I.free (by simp)
  exact I.step (g' := s.gens) (d' := s.drawn) (ch := []) (fun _ z => nomatch z) (fun b o _ hb _ e n => u.keep b o e n hb (by simp)) (fun b o _ hb _ e n => u.slot b o e n hb (by simp)) (fun b o _ e n => u.free b o e n (by simp)) (fun b o _ e => u.there b o e (by simp)) u.tups u.frzs u.tbls (fun m' hm => by
    obtain ⟨o', es', ep', ho', r'⟩ := hm
    rw [ho] at ho'; cases ho'
    exact ⟨_, es', ep', hL, r'⟩) hok I.bare
theorem Inv.call {g' : Array GenState} {t' : Nat} {d' : Drawn} {ch : List Addr} (I : Inv X pins σ H s) (u : Un (frs X.stack) ch H H' s.heap h') (hok : HOk X.prog X.w H' h') (hg : AllBare g')
    (hch : ∀ b ∈ ch, (b ∈ X.ex ∨ X.s₀.heap.objs.size ≤ b) ∧ b ≠ X.env.locals ∧ (∀ x c, X.env.cells.lookup x = some c → c ≠ b) ∧ ∀ p ∈ X.pn ++ pins, p.1 ≠ b) :
    Inv X pins σ H' { s with heap := h', gens := g', drawn := d', toks := t' } := by
  obtain ⟨m, ⟨o, es, ep, ho, r⟩, _⟩ := id I.loc
  obtain ⟨sl, hL⟩ := u.any ho I.free fun z => (hch _ z).2.1 rfl
  exact I.step (ch := ch) hch (fun b o hL hb hc e n => u.keep b o e n (fun z => (List.mem_cons.mp (I.stkSub b z)).elim hL hb) hc) (fun b o _ _ hc e n => u.any e n hc) (fun b o hc e n => u.free b o e n hc) (fun b o hc e => u.there b o e hc) u.tups u.frzs u.tbls (fun m' hm => by
    obtain ⟨o', es', ep', ho', r'⟩ := hm
    rw [ho] at ho'; cases ho'
    exact ⟨_, es', ep', hL, r'⟩) hok hg
theorem Inv.turned {t' : Nat} {it : Addr} (I : Inv X pins σ H s) (k : ∀ b o, b ≠ it → s.heap.get? b = some o → h'.get? b = some o) (hn : H it = none) (hL : it ≠ X.env.locals)
    (h1 : it ∈ X.ex ∨ X.s₀.heap.objs.size ≤ it) (h2 : ∀ x c, X.env.cells.lookup x = some c → c ≠ it) (h3 : ∀ p ∈ X.pn ++ pins, p.1 ≠ it) : Inv X pins σ H { s with heap := h', toks := t' } := by
  have nit : ∀ b u, H b = some u → b ≠ it := fun b u e z => by rw [z, hn] at e; cases e
  refine I.step (g' := s.gens) (d' := s.drawn) (ch := [it]) (fun b hb => ?_) (fun b o _ _ hc e _ => k b o (fun z => hc (by simp [z])) e) (fun b o _ _ hc e _ => ⟨o.slots, k b o (fun z => hc (by simp [z])) e⟩) (fun _ _ _ _ n => n)
    (fun b o hc e => ⟨o, k b o (fun z => hc (by simp [z])) e⟩) (fun _ _ e => e) (fun _ _ _ e => e) (fun b ps e => ⟨#[], by rw [e]; simp⟩) (fun m hm => ?_) (fun b u e => ?_) I.bare
  · have e : b = it := by simpa using hb
    subst e
    exact ⟨h1, hL, h2, h3⟩
  · obtain ⟨o, es, ep, ho, r⟩ := hm
    exact ⟨o, es, ep, k _ o (Ne.symm hL) ho, r⟩
  · refine (I.hok b u e).stay (fun c v hc q => k c v ?_ q) (fun _ q => q) fun _ _ q => q
    rcases hc with z | z
    · rw [z]; exact nit b u e
    · exact nit c _ z
theorem Inv.tok (I : Inv X pins σ H s) (t : Nat) : Inv X pins σ H { s with toks := t } := I.un (h' := s.heap) (t' := t) Un.refl I.hok
theorem Inv.kept {t' : Nat} (I : Inv X pins σ H s) (k : ∀ b u, s.heap.get? b = some u → h'.get? b = some u) : Inv X pins σ H { s with heap := h', toks := t' } := I.un (Un.kept k) (I.hok.kept k)
theorem Inv.laid {a : Addr} {o : HO} {t' : Nat} (I : Inv X pins σ H s) (k : ∀ b u, s.heap.get? b = some u → h'.get? b = some u) (hp : s.heap.objs.size ≤ a) (new : ObjOk X.prog X.w (upd H a o) h' a o) :
    Inv X pins σ (upd H a o) { s with heap := h', toks := t' } := I.un (Un.laid k hp (I.hok.fresh hp)) (I.hok.laid k hp new)
theorem Inv.write {x e : Addr} {o : HO} {t' : Nat} (I : Inv X pins σ H s) (mu : Mut (H x)) (he : e = x ∨ H e = some (.own x)) (k : ∀ b u, b ≠ e → s.heap.get? b = some u → h'.get? b = some u) (heo : ∃ u, h'.get? e = some u)
    (new : ObjOk X.prog X.w (upd H x o) h' x o) : Inv X pins σ (upd H x o) { s with heap := h', toks := t' } := I.un (Un.write mu he k heo) (I.hok.write mu he k heo new)
theorem Inv.weak {σ' : List (Option V)} (I : Inv X pins σ H s) (hl : σ'.length = σ.length) (w : ∀ (i : Nat) v, σ'[i]? = some (some v) → σ[i]? = some (some v)) : Inv X pins σ' H s :=
  ⟨I.ok, I.os, I.bare, I.base, let ⟨m, hn, hl'⟩ := I.loc; ⟨m, hn, fun i x v e1 e2 e3 => hl' i x v e1 (w i v e2) e3⟩, I.cell, I.free, I.freeC, I.pin, I.hok, hl.trans I.len⟩
theorem Inv.pins_of {pins' : List (Addr × Obj)} (I : Inv X pins σ H s) (h : ∀ p ∈ pins', s.heap.get? p.1 = some p.2 ∧ H p.1 = none ∧ p.1 ≠ X.env.locals ∧ p.1 ∉ X.fs ∧ ∀ v, p.2.data ≠ .cell v) : Inv X pins' σ H s :=
  ⟨I.ok, I.os, I.bare, I.base, I.loc, I.cell, I.free, I.freeC, fun p hp => (List.mem_append.mp hp).elim (fun z => I.pin p (List.mem_append_left _ z)) (h p), I.hok, I.len⟩
theorem nodup_ix {N : List Str} (hN : N.Nodup) {i j : Nat} {x : Str} (a : N[i]? = some x) (b : N[j]? = some x) : i = j := by
  obtain ⟨h1, e1⟩ := List.getElem?_eq_some_iff.mp a
  obtain ⟨h2, e2⟩ := List.getElem?_eq_some_iff.mp b
  exact (List.getElem_inj hN).mp (e1.trans e2.symm)
theorem store_ok2 {M : Model} {A : Around} {E : Value → Shared → Prop} {i : Nat} {x : Str} {v : V} {u : Value} {Q : Unit → Shared → Prop} (I : Inv X pins σ H s) (hN : X.N.Nodup) (hi : X.N[i]? = some x) (hx : Loc X.env.scope x) (r : RelV v u)
    (h : ∀ s', Inv X pins (σ.set i (some v)) H s' → (∃ a, Heap.SameBut a s.heap s'.heap ∧ (a = X.env.locals ∨ X.env.cells.lookup x = some a)) → Q () s') (hf : X.fn x = true ∨ X.env.scope.names.lookup x = some .local := by first | exact .inl rfl | exact .inr rfl | assumption) : wpAny M A (storeName X.env x u) Q E s := by
  obtain ⟨m, hn, hl⟩ := id I.loc
  have hcls : (X.env.scope.kind == .class || (X.env.scope.kind == .module && X.env.locals != X.env.globals)) = false := by rw [I.ok.kind]; rfl
  have hiσ : i < σ.length := by rw [I.len]; exact (List.getElem?_eq_some_iff.mp hi).1
  have cne := I.cne
  have tracked : ∀ {a : Addr} {h' : Heap}, (∃ o, s.heap.get? a = some o ∧ H a = none) → Heap.SameBut a s.heap h' → HOk X.prog X.w H h' := fun {a h'} ha hs b ob e => by
    obtain ⟨_, _, hfree⟩ := ha
    refine (I.hok b ob e).stay (fun c w' hc q => (hs.2 c ?_).trans q) (fun _ q => q) fun _ _ q => q
    rintro rfl
    rcases hc with rfl | hc
    · rw [hfree] at e; cases e
    · rw [hfree] at hc; cases hc
  rcases hx with hk | hk
  · refine wpAny_storeName_local hk hn (fun h' hn' hs => ?_) hcls
    obtain ⟨oL, _, _, hoL, _⟩ := id hn
    refine h _ ⟨I.ok, I.os, I.bare, ⟨fun b o e n hb hx => ?_, fun b o e n hb hx => ?_, I.base.free, fun b o e hx => ?_, I.base.tups, I.base.frzs, I.base.tbls⟩, ⟨_, hn', fun j y v' e1 e2 e3 => ?_⟩, fun y c e => ?_, I.free, I.freeC, fun p hp => ?_, tracked ⟨oL, hoL, I.free⟩ hs, by simpa using I.len⟩ ⟨_, hs, .inl rfl⟩
    · exact (hs.2 b (Nat.ne_of_lt (Nat.lt_of_lt_of_le (Heap.lt_size e) I.ok.above))).trans (I.base.keep b o e n hb hx)
    · obtain ⟨sl, e1⟩ := I.base.slot b o e n hb hx
      exact ⟨sl, (hs.2 b (Nat.ne_of_lt (Nat.lt_of_lt_of_le (Heap.lt_size e) I.ok.above))).trans e1⟩
    · obtain ⟨o', e1⟩ := I.base.there b o e hx
      exact ⟨o', (hs.2 b (Nat.ne_of_lt (Nat.lt_of_lt_of_le (Heap.lt_size e) I.ok.above))).trans e1⟩
    · by_cases hj : j = i
      · subst hj
        rw [hi] at e1; cases e1
        rw [List.getElem?_set_self hiσ] at e2
        cases e2
        exact ⟨u, r, .inl ⟨hk, by simp⟩⟩
      · rw [List.getElem?_set_ne (Ne.symm hj)] at e2
        obtain ⟨u', r', q⟩ := hl j y v' e1 e2 e3
        refine ⟨u', r', ?_⟩
        rcases q with ⟨k, e⟩ | ⟨k, c, e, z⟩
        · refine .inl ⟨k, ?_⟩
          have : y ≠ x := fun e => hj (nodup_ix hN e1 (e ▸ hi))
          simp [this, e]
        · exact .inr ⟨k, c, e, z.sameBut hs (cne y c e)⟩
    · obtain ⟨w', z⟩ := I.cell y c e
      exact ⟨w', z.sameBut hs (cne y c e)⟩
    · obtain ⟨e, n, ne, nf, d⟩ := I.pin p hp
      exact ⟨(hs.2 p.1 ne).trans e, n, ne, nf, d⟩
  · have hfn : X.fn x = true := by
      rcases hf with z | z
      · exact z
      · rw [z] at hk; cases hk
    obtain ⟨c, hc⟩ := I.ok.has x (.inl hk)
    obtain ⟨w', z⟩ := I.cell x c hc
    refine wpAny_storeName_cell I.ok.kind hk hc z (fun h' hc' hs => ?_)
    obtain ⟨oc, hoc, hocd⟩ := id z
    refine h { s with heap := h' } ⟨I.ok, I.os, I.bare, ⟨fun b o e n hb hx => ?_, fun b o e n hb hx => ?_, I.base.free, fun b o e hx => ?_, I.base.tups, I.base.frzs, I.base.tbls⟩, ⟨m, hn.sameBut hs (Ne.symm (cne x c hc)), fun j y v' e1 e2 e3 => ?_⟩, fun y c' e => ?_, I.free, I.freeC, fun p hp => ?_, tracked ⟨oc, hoc, I.freeC x c hc⟩ hs, by simpa using I.len⟩ ⟨c, hs, .inr hc⟩
    · exact (hs.2 b (Nat.ne_of_lt (Nat.lt_of_lt_of_le (Heap.lt_size e) (I.ok.cab x c hfn hc)))).trans (I.base.keep b o e n hb hx)
    · obtain ⟨sl, e1⟩ := I.base.slot b o e n hb hx
      exact ⟨sl, (hs.2 b (Nat.ne_of_lt (Nat.lt_of_lt_of_le (Heap.lt_size e) (I.ok.cab x c hfn hc)))).trans e1⟩
    · obtain ⟨o', e1⟩ := I.base.there b o e hx
      exact ⟨o', (hs.2 b (Nat.ne_of_lt (Nat.lt_of_lt_of_le (Heap.lt_size e) (I.ok.cab x c hfn hc)))).trans e1⟩
    · by_cases hj : j = i
      · subst hj
        rw [hi] at e1; cases e1
        rw [List.getElem?_set_self hiσ] at e2
        cases e2
        exact ⟨u, r, .inr ⟨.inl hk, c, hc, hc'⟩⟩
      · rw [List.getElem?_set_ne (Ne.symm hj)] at e2
        obtain ⟨u', r', q⟩ := hl j y v' e1 e2 e3
        refine ⟨u', r', ?_⟩
        rcases q with q | ⟨k, c', e, z'⟩
        · exact .inl q
        · refine .inr ⟨k, c', e, z'.sameBut hs ?_⟩
          rintro rfl
          exact hj (nodup_ix hN e1 (I.ok.inj _ _ _ e hc ▸ hi))
    · by_cases hcc : c' = c
      · subst hcc; exact ⟨_, hc'⟩
      · obtain ⟨w2, z2⟩ := I.cell y c' e
        exact ⟨w2, z2.sameBut hs hcc⟩
    · obtain ⟨e, n, ne, nf, d⟩ := I.pin p hp
      refine ⟨(hs.2 p.1 ?_).trans e, n, ne, nf, d⟩
      intro q
      rw [q, hoc] at e
      have q' : oc = p.2 := Option.some.inj e
      exact d w' (by rw [← q']; exact hocd)
theorem store_ok {M : Model} {A : Around} {E : Value → Shared → Prop} {i : Nat} {x : Str} {v : V} {u : Value} {Q : Unit → Shared → Prop} (I : Inv X pins σ H s) (hN : X.N.Nodup) (hi : X.N[i]? = some x) (hx : Loc X.env.scope x) (r : RelV v u)
    (h : ∀ s', Inv X pins (σ.set i (some v)) H s' → Q () s') (hf : X.fn x = true ∨ X.env.scope.names.lookup x = some .local := by first | exact .inl rfl | exact .inr rfl | assumption) : wpAny M A (storeName X.env x u) Q E s :=
  store_ok2 I hN hi hx r (fun s' I' _ => h s' I') hf
theorem Inv.call' {s' : Shared} {ch : List Addr} (I : Inv X pins σ H s) (ho : s'.os = s.os) (u : Un (frs X.stack) ch H H' s.heap s'.heap) (hok : HOk X.prog X.w H' s'.heap) (hg : AllBare s'.gens)
    (hch : ∀ b ∈ ch, (b ∈ X.ex ∨ X.s₀.heap.objs.size ≤ b) ∧ b ≠ X.env.locals ∧ (∀ x c, X.env.cells.lookup x = some c → c ≠ b) ∧ ∀ p ∈ X.pn ++ pins, p.1 ≠ b) : Inv X pins σ H' s' := by
  obtain ⟨h', g', d', t', o'⟩ := s'
  have e : o' = s.os := ho
  subst e
  exact I.call (g' := g') (t' := t') (d' := d') u hok hg hch
end
abbrev XK := Value → Option Addr → Hp → Prop
abbrev St := List (Option V)
abbrev VK := V → Hp → Prop
abbrev TE := St → Hp → VK → Prop
abbrev TT := St → Hp → (Bool → Hp → Prop) → Prop
abbrev TA := St → Hp → (List V → Hp → Prop) → Prop
structure Ends where
  nx : St → Hp → Prop
  rt : VK
  bk : St → Hp → Prop := fun _ _ => False
  ct : St → Hp → Prop := fun _ _ => False
abbrev TS := Ends → St → Hp → Prop
def EP (X : Cx) (pins : List (Addr × Obj)) (σ : St) (Q : VK) (u : Value) (s' : Shared) : Prop := ∃ v H', Inv X pins σ H' s' ∧ RelV v u ∧ Q v H'
def TP (X : Cx) (pins : List (Addr × Obj)) (σ : St) (Q : Bool → Hp → Prop) (b : Bool) (s' : Shared) : Prop := ∃ H', Inv X pins σ H' s' ∧ Q b H'
def AP (X : Cx) (pins : List (Addr × Obj)) (σ : St) (Q : List V → Hp → Prop) (us : List Value) (s' : Shared) : Prop := ∃ vs H', Inv X pins σ H' s' ∧ Vals vs us ∧ Q vs H'
def SP (X : Cx) (pins : List (Addr × Obj)) (D : Ends) (f : Flow) (s' : Shared) : Prop :=
  match f with
  | .next => ∃ σ' H', Inv X pins σ' H' s' ∧ D.nx σ' H'
  | .brk => ∃ σ' H', Inv X pins σ' H' s' ∧ D.bk σ' H'
  | .cont => ∃ σ' H', Inv X pins σ' H' s' ∧ D.ct σ' H'
  | .ret u => ∃ v σ' H', Inv X pins σ' H' s' ∧ RelV v u ∧ D.rt v H'
def PE (X : Cx) (e : Expr) (t : TE) : Prop :=
  ∀ (pins : List (Addr × Obj)) (s : Shared) (σ : St) (H : Hp) (Q : VK), Inv X pins σ H s → t σ H Q → wpAny (model X.prog X.w) X.A (eval e X.env) (EP X pins σ Q) X.xe s
def PT (X : Cx) (e : Expr) (t : TT) : Prop :=
  ∀ (pins : List (Addr × Obj)) (s : Shared) (σ : St) (H : Hp) (Q : Bool → Hp → Prop), Inv X pins σ H s → t σ H Q → wpAny (model X.prog X.w) X.A (isTrue e X.env (eval e X.env)) (TP X pins σ Q) X.xe s
def PW (X : Cx) (e : Expr) (t : TT) : Prop :=
  ∀ (whole : Sem Value) (pins : List (Addr × Obj)) (s : Shared) (σ : St) (H : Hp) (Q : Bool → Hp → Prop), Inv X pins σ H s → t σ H Q → wpAny (model X.prog X.w) X.A (isTrue e X.env whole) (TP X pins σ Q) X.xe s
theorem PW.pt {X : Cx} {e : Expr} {t : TT} (h : PW X e t) : PT X e t := h _
def PA (X : Cx) (es : List Expr) (t : TA) : Prop :=
  ∀ (pos : Pos) (pins : List (Addr × Obj)) (s : Shared) (σ : St) (H : Hp) (Q : List V → Hp → Prop), Inv X pins σ H s → t σ H Q → wpAny (model X.prog X.w) X.A (spliced (backTo pos (starEach es X.env))) (AP X pins σ Q) X.xe s
def PS (X : Cx) (st : Stmt) (t : TS) : Prop :=
  ∀ (pins : List (Addr × Obj)) (s : Shared) (σ : St) (H : Hp) (D : Ends), Inv X pins σ H s → t D σ H → wpAny (model X.prog X.w) X.A (exec st X.env) (SP X pins D) X.xe s
def PSs (X : Cx) (st : List Stmt) (t : TS) : Prop :=
  ∀ (pins : List (Addr × Obj)) (s : Shared) (σ : St) (H : Hp) (D : Ends), Inv X pins σ H s → t D σ H → wpAny (model X.prog X.w) X.A (execs st X.env) (SP X pins D) X.xe s
theorem thn {α : Type} {t : Sem α} {Q Q' : α → Shared → Prop} {M : Model} {A : Around} {E : Value → Shared → Prop} {s : Shared} (h : wpAny M A t Q E s) (hQ : ∀ a s, Q a s → Q' a s) : wpAny M A t Q' E s := wpAny_mono h hQ fun _ _ x => x
end L2
namespace L2
open PySem PySem.Spec PyProof.Rows
section
variable {X : Cx}
def tVar (i : Nat) : TE := fun σ H Q => ∃ v, σ[i]? = some (some v) ∧ Q v H
def tC (v : V) : TE := fun _ H Q => Q v H
theorem pe_var {i : Nat} {x : Str} {pos : Pos} (hN : X.N[i]? = some x) (hv : Vis X.env.scope x) (hd : (x == ("__debug__" : Str)) = false := by decide) (hcd : (x == ("__classdict__" : Str)) = false := by decide) : PE X (.Name x pos) (tVar i) := by
  intro pins s σ H Q I h
  obtain ⟨v, e, h⟩ := h
  obtain ⟨m, hn, hl⟩ := I.loc
  obtain ⟨u, r, l⟩ := hl i x v hN e hv
  have fin : EP X pins σ Q u s := ⟨v, H, I, r, h⟩
  rcases l with ⟨hk, hm⟩ | ⟨hk, c, hc, hcell⟩
  · exact wpAny_Name (wpAny_loadName_local I.ok.kind hk hn hm fin) hd
  · rcases hk with hk | hk
    · exact wpAny_Name (wpAny_loadName_cell I.ok.kind hk hc hcell fin) hd
    · exact wpAny_Name (wpAny_loadName_free I.ok.kind hk hc hcell fin hcd) hd
theorem pe_int {i j pos} : PE X (.Constant (.int i) j pos) (tC (.int i)) := fun _ _ _ H _ I h => wpAny_Constant_int ⟨.int i, H, I.tok _, ⟨_, rfl⟩, h⟩
theorem pe_bl {b j pos} : PE X (.Constant (.bool b) j pos) (tC (.bl b)) := fun _ _ _ H _ I h => Constant_bool ⟨.bl b, H, I, rfl, h⟩
theorem pe_non {j pos} : PE X (.Constant .none j pos) (tC .non) := fun _ _ _ H _ I h => Constant_none ⟨.non, H, I, rfl, h⟩
theorem pe_str {x j pos} : PE X (.Constant (.str x) j pos) (tC (.str x)) := fun _ _ _ H _ I h => Calls.Constant_str ⟨.str x, H, I.tok _, ⟨_, rfl⟩, h⟩
def Gl (X : Cx) (x : Str) : Prop := X.env.kindOf x = some .globalImplicit
theorem ld_glob {E : Value → Shared → Prop} {pins : List (Addr × Obj)} {s : Shared} {σ : St} {H : Hp} {x : Str} {u : Value} {pos : Pos} {Q : Value → Shared → Prop} (I : Inv X pins σ H s) (hg : Gl X x) (hm : X.mg x = some u) (h : Q u s)
    (hd : (x == ("__debug__" : Str)) = false := by decide) : wpAny (model X.prog X.w) X.A (eval (.Name x pos) X.env) Q E s :=
  Calls.Name_function_global I.ok.kind hg (Calls.loadGlobal_global (by rw [I.ok.glob]; exact I.mod.glob.keeps I.bk) hm h) hd
theorem ld_blt {E : Value → Shared → Prop} {pins : List (Addr × Obj)} {s : Shared} {σ : St} {H : Hp} {x : Str} {u : Value} {pos : Pos} {Q : Value → Shared → Prop} (I : Inv X pins σ H s) (hg : Gl X x) (hm : X.mg x = none) (hv : bootBuiltins x = some u) (h : Q u s)
    (hn : x ≠ "__name__" := by decide) (hd : (x == ("__debug__" : Str)) = false := by decide) : wpAny (model X.prog X.w) X.A (eval (.Name x pos) X.env) Q E s := by
  obtain ⟨mb, h1, h2⟩ := I.mod.blt
  exact Calls.Name_function_global I.ok.kind hg (Calls.loadGlobal_builtin (by rw [I.ok.glob]; exact I.mod.glob.keeps I.bk) hm (by rw [I.ok.blt]; exact h1.keeps I.bk) ((h2 x hn).trans hv) h) hd
theorem pe_glob {x : Str} {v : V} {u : Value} {pos : Pos} (hg : Gl X x) (hm : X.mg x = some u) (r : RelV v u) (hd : (x == ("__debug__" : Str)) = false := by decide) : PE X (.Name x pos) (tC v) :=
  fun _ _ _ H _ I h => ld_glob I hg hm ⟨v, H, I, r, h⟩ hd
theorem pe_bltn {x : Str} {v : V} {u : Value} {pos : Pos} (hg : Gl X x) (hm : X.mg x = none) (hv : bootBuiltins x = some u) (r : RelV v u) (hn : x ≠ "__name__" := by decide) (hd : (x == ("__debug__" : Str)) = false := by decide) : PE X (.Name x pos) (tC v) :=
  fun _ _ _ H _ I h => ld_blt I hg hm hv ⟨v, H, I, r, h⟩ hn hd
variable {a b : Expr} {ta tb : TE} {pos : Pos}
def tB (t : TE) : TT := fun σ H Q => t σ H fun x H1 => ∃ c, x = .bl c ∧ Q c H1
variable {tA tB' : TT} {rest : List Expr}
def tAnd (t u : TT) : TT := fun σ H Q => t σ H fun c H1 => if c = true then u σ H1 Q else Q false H1
def tOr (t u : TT) : TT := fun σ H Q => t σ H fun c H1 => if c = true then Q true H1 else u σ H1 Q
def tNot (t : TT) : TT := fun σ H Q => t σ H fun c H1 => Q (!c) H1
theorem pw_and1 (ha : PT X a tA) : PW X (.BoolOp .And [a] pos) tA := by
  intro wh pins s σ H Q I h
  refine isTrue_and (thn (ha pins s σ H Q I h) fun c s1 e => ?_)
  cases c with
  | true => exact isTrue_and_nil e
  | false => exact e
theorem pw_or1 (ha : PT X a tA) : PW X (.BoolOp .Or [a] pos) tA := by
  intro wh pins s σ H Q I h
  refine isTrue_or (thn (ha pins s σ H Q I h) fun c s1 e => ?_)
  cases c with
  | false => exact isTrue_or_nil e
  | true => exact e
theorem pw_and (ha : PT X a tA) (hb : PW X (.BoolOp .And (b :: rest) pos) tB') : PW X (.BoolOp .And (a :: b :: rest) pos) (tAnd tA tB') := by
  intro wh pins s σ H Q I h
  refine isTrue_and (thn (ha pins s σ H _ I h) fun c s1 ⟨H1, I1, q1⟩ => ?_)
  cases c with
  | true => exact hb wh pins s1 σ H1 Q I1 q1
  | false => exact ⟨H1, I1, q1⟩
theorem pw_or (ha : PT X a tA) (hb : PW X (.BoolOp .Or (b :: rest) pos) tB') : PW X (.BoolOp .Or (a :: b :: rest) pos) (tOr tA tB') := by
  intro wh pins s σ H Q I h
  refine isTrue_or (thn (ha pins s σ H _ I h) fun c s1 ⟨H1, I1, q1⟩ => ?_)
  cases c with
  | true => exact ⟨H1, I1, q1⟩
  | false => exact hb wh pins s1 σ H1 Q I1 q1
theorem pt_not (ha : PT X a tA) : PT X (.UnaryOp .Not a pos) (tNot tA) := by
  intro pins s σ H Q I h
  exact isTrue_not (ha pins s σ H (fun c H1 => Q (!c) H1) I h)
def tAndV (ta tb : TE) : TE := fun σ H Q => ta σ H fun x H1 => ∃ c, x = .bl c ∧ if c = true then tb σ H1 Q else Q (.bl false) H1
def tNotV (ta : TE) : TE := fun σ H Q => ta σ H fun x H1 => ∃ c, x = .bl c ∧ Q (.bl (!c)) H1
theorem pe_one {op} {t : TE} (h : PE X a t) : PE X (.BoolOp op [a] pos) t := fun pins s σ H Q I hw => BoolOp_one (h pins s σ H Q I hw)
theorem pe_and (ha : PE X a ta) (hb : PE X (.BoolOp .And (b :: rest) pos) tb) : PE X (.BoolOp .And (a :: b :: rest) pos) (tAndV ta tb) := by
  intro pins s σ H Q I h
  refine BoolOp_and (thn (ha pins s σ H _ I h) fun v s1 ⟨x, H1, I1, r1, q1⟩ => ?_)
  obtain ⟨c, rfl, q1⟩ := q1
  cases r1
  refine wpAny_truthy_bool ?_
  cases c with
  | true => exact hb pins s1 σ H1 Q I1 q1
  | false => exact ⟨.bl false, H1, I1, rfl, q1⟩
theorem pe_not (ha : PE X a ta) : PE X (.UnaryOp .Not a pos) (tNotV ta) := by
  intro pins s σ H Q I h
  refine UnaryOp_ (thn (ha pins s σ H _ I h) fun v s1 ⟨x, H1, I1, r1, q1⟩ => ?_)
  obtain ⟨c, rfl, q1⟩ := q1
  cases r1
  exact not_of (wpAny_truthy_bool ⟨.bl (!c), H1, I1, rfl, q1⟩)
end
end L2
namespace L2
open PySem PySem.Spec PyProof.Rows
def SqL (K : PySem.W.Frag) (H : Hp) (a : Addr) (xs : List V) : Prop :=
  Rd H a (.lst xs) ∨
    ∃ (o : Obj) (its : Array Value) (n : Nat), K.lookup a = some o ∧ o.cls = .type "list" ∧ o.dict = none ∧ o.data = .seq its n ∧ its.size ≤ sizeLine ∧ Vals xs its.toList
def SqT (K : PySem.W.Frag) (H : Hp) (a : Addr) (xs : List V) : Prop :=
  Rd H a (.tup xs) ∨
    ∃ (o : Obj) (its : Array Value) (n : Nat), K.lookup a = some o ∧ (o.cls = .type "tuple" ∧ o.dict = none) ∧ o.data = .seq its n ∧ its.size ≤ sizeLine ∧ Vals xs its.toList
def absV : Value → Option V
  | .none => some .non
  | .bool b => some (.bl b)
  | .int i _ => some (.int i)
  | .str x _ => some (.str x)
  | .bytes b _ => some (.byt b)
  | .float b _ => some (.flt b)
  | .ref a => some (.ref a)
  | .type n => some (.ty n)
  | _ => none
theorem RelV.abs {x : V} {u : Value} (r : RelV x u) : absV u = some x := by
  cases x with
  | non => cases r; rfl
  | bl _ => cases r; rfl
  | int _ => obtain ⟨t, rfl⟩ := r; rfl
  | str _ => obtain ⟨t, rfl⟩ := r; rfl
  | byt _ => obtain ⟨t, rfl⟩ := r; rfl
  | flt _ => obtain ⟨t, rfl⟩ := r; rfl
  | ref _ => cases r; rfl
  | ty _ => cases r; rfl
theorem RelV.inj {x y : V} {u : Value} (r : RelV x u) (q : RelV y u) : x = y := Option.some.inj (r.abs.symm.trans q.abs)
theorem Vals.inj : ∀ {xs ys : List V} {us : List Value}, Vals xs us → Vals ys us → xs = ys
  | _, _, _, .nil, .nil => rfl
  | _, _, _, .cons r t, .cons r' t' => by rw [r.inj r', Vals.inj t t']
section
variable {X : Cx} {pins : List (Addr × Obj)} {σ : St} {H : Hp} {s : Shared} {a : Addr} {xs ys : List V}
theorem SqL.of {K : PySem.W.Frag} (h : H a = some (.lst xs)) : SqL K H a xs := .inl (.inl h)
theorem SqT.of {K : PySem.W.Frag} (h : H a = some (.tup xs)) : SqT K H a xs := .inl (.inl h)
theorem Inv.list (I : Inv X pins σ H s) (h : SqL X.K H a xs) : ∃ its : List Value, Vals xs its ∧ PlainL s.heap a its.toArray ∧ xs.length ≤ sizeLine := by
  rcases h with h | ⟨o, its, n, hk, hc, hd, hs, hz, r⟩
  · obtain ⟨z, its, n, r, e⟩ := h.ok I.hok
    exact ⟨its, r, ⟨_, n, e, rfl, rfl, rfl⟩, z⟩
  · refine ⟨its.toList, r, ⟨o, n, I.kIn a o hk, hc, hd, by simpa using hs⟩, ?_⟩
    have e := r.length
    simp only [Array.length_toList] at e
    omega
theorem Inv.tuple (I : Inv X pins σ H s) (h : SqT X.K H a xs) : ∃ its : List Value, Vals xs its ∧ IsTup s.heap a its.toArray ∧ xs.length ≤ sizeLine := by
  rcases h with h | ⟨o, its, n, hk, hc, hs, hz, r⟩
  · obtain ⟨z, its, r, p⟩ := h.ok I.hok
    exact ⟨its, r, p.tup, z⟩
  · refine ⟨its.toList, r, ⟨o, I.kIn a o hk, hc.1, n, by simpa using hs⟩, ?_⟩
    have e := r.length
    simp only [Array.length_toList] at e
    omega
theorem Inv.list_inj (I : Inv X pins σ H s) (h : SqL X.K H a xs) (h' : SqL X.K H a ys) : xs = ys := by
  obtain ⟨its, r, ⟨o, n, e, _, _, d⟩, _⟩ := I.list h
  obtain ⟨its', r', ⟨o', n', e', _, _, d'⟩, _⟩ := I.list h'
  rw [e] at e'; cases e'
  rw [d] at d'
  injection d' with d1 _
  have : its = its' := by simpa using congrArg Array.toList d1
  subst this
  exact r.inj r'
theorem Inv.tuple_inj (I : Inv X pins σ H s) (h : SqT X.K H a xs) (h' : SqT X.K H a ys) : xs = ys := by
  obtain ⟨its, r, ⟨o, e, _, n, d⟩, _⟩ := I.tuple h
  obtain ⟨its', r', ⟨o', e', _, n', d'⟩, _⟩ := I.tuple h'
  rw [e] at e'; cases e'
  rw [d] at d'
  injection d' with d1 _
  have : its = its' := by simpa using congrArg Array.toList d1
  subst this
  exact r.inj r'
end
abbrev Cx.wish (X : Cx) (E : Value → Shared → Prop) : Cx := { X with xe := E }
abbrev Cx.nox (X : Cx) : Cx := X.wish fun _ _ => False
theorem Cx.Ok.wish {X : Cx} (ok : X.Ok) (E : Value → Shared → Prop) : (X.wish E).Ok :=
  ⟨ok.mod, ok.kind, ok.glob, ok.blt, ok.above, ok.inj, ok.has, ok.cab, ok.hd, ok.frames, ok.stk, ok.exf, ok.bs, ok.bsz, ok.noex, ok.exfs, ok.funs, ok.frf⟩
theorem Cx.Ok.unwish {X : Cx} {E : Value → Shared → Prop} (ok : (X.wish E).Ok) : X.Ok :=
  ⟨ok.mod, ok.kind, ok.glob, ok.blt, ok.above, ok.inj, ok.has, ok.cab, ok.hd, ok.frames, ok.stk, ok.exf, ok.bs, ok.bsz, ok.noex, ok.exfs, ok.funs, ok.frf⟩
section
variable {X : Cx} {pins : List (Addr × Obj)} {σ : St} {H : Hp} {s : Shared} {E : Value → Shared → Prop}
theorem Inv.wish (I : Inv X pins σ H s) (E : Value → Shared → Prop) : Inv (X.wish E) pins σ H s := ⟨I.ok.wish E, I.os, I.bare, I.base, I.loc, I.cell, I.free, I.freeC, I.pin, I.hok, I.len⟩
theorem Inv.unwish (I : Inv (X.wish E) pins σ H s) : Inv X pins σ H s := ⟨I.ok.unwish, I.os, I.bare, I.base, I.loc, I.cell, I.free, I.freeC, I.pin, I.hok, I.len⟩
theorem SP.unwish {D : Ends} {f : Flow} {s' : Shared} (h : SP (X.wish E) pins D f s') : SP X pins D f s' := by
  cases f with
  | next => obtain ⟨σ', H', I, q⟩ := h; exact ⟨σ', H', I.unwish, q⟩
  | brk => obtain ⟨σ', H', I, q⟩ := h; exact ⟨σ', H', I.unwish, q⟩
  | cont => obtain ⟨σ', H', I, q⟩ := h; exact ⟨σ', H', I.unwish, q⟩
  | ret u => obtain ⟨v, σ', H', I, r, q⟩ := h; exact ⟨v, σ', H', I.unwish, r, q⟩
theorem PE.nox {e : Expr} {t : TE} (h : PE X.nox e t) : PE X e t := fun pins s σ H Q I hw =>
  wpAny_mono (h pins s σ H Q (I.wish _) hw) (fun _ _ ⟨v, H', I', r, q⟩ => ⟨v, H', I'.unwish, r, q⟩) fun _ _ z => False.elim z
theorem PT.nox {e : Expr} {t : TT} (h : PT X.nox e t) : PT X e t := fun pins s σ H Q I hw =>
  wpAny_mono (h pins s σ H Q (I.wish _) hw) (fun _ _ ⟨H', I', q⟩ => ⟨H', I'.unwish, q⟩) fun _ _ z => False.elim z
theorem PSs.nox {st : List Stmt} {t : TS} (h : PSs X.nox st t) : PSs X st t := fun pins s σ H D I hw =>
  wpAny_mono (h pins s σ H D (I.wish _) hw) (fun _ _ q => q.unwish) fun _ _ z => False.elim z
end
section
variable {X : Cx} {st : Stmt} {rest : List Stmt} {t u : TS} {e : Expr} {te : TE} {pos : Pos}
def tNext : TS := fun D σ H => D.nx σ H
def tSeq (t u : TS) : TS := fun D σ H => t { D with nx := u D } σ H
theorem pss_nil : PSs X [] tNext := fun _ _ σ H _ I h => wpAny_execs_nil ⟨σ, H, I, h⟩
theorem pss_cons (h1 : PS X st t) (h2 : PSs X rest u) : PSs X (st :: rest) (tSeq t u) := by
  intro pins s σ H D I h
  refine wpAny_execs_cons (thn (h1 pins s σ H { D with nx := u D } I h) fun f s1 q => ?_)
  cases f with
  | next =>
    obtain ⟨σ', H', I', q⟩ := q
    exact h2 pins s1 σ' H' D I' q
  | ret v => exact q
  | brk => exact q
  | cont => exact q
theorem Inv.quiet {pins : List (Addr × Obj)} {σ : St} {H : Hp} {s : Shared} (I : Inv X pins σ H s) : interactive X.env = false := by simp [interactive, I.ok.kind]
def tDrop (te : TE) : TS := fun D σ H => te σ H fun _ H1 => D.nx σ H1
theorem ps_expr (he : PE X e te) (hs : swapsWith e none pos.line X.env = pure false := by rfl) : PS X (.Expr e pos) (tDrop te) := by
  intro pins s σ H D I h
  exact wpAny_Expr_any (thn (he pins s σ H _ I h) fun v s1 ⟨x, H1, I1, r1, q1⟩ => ⟨σ, H1, I1, q1⟩) I.quiet hs
def tRet (te : TE) : TS := fun D σ H => te σ H D.rt
theorem ps_ret (he : PE X e te) : PS X (.Return (some e) pos) (tRet te) := by
  intro pins s σ H D I h
  exact wpAny_Return_some (thn (he pins s σ H _ I h) fun v s1 ⟨x, H1, I1, r1, q1⟩ => ⟨x, σ, H1, I1, r1, q1⟩)
def tIfS (c : TT) (t u : TS) : TS := fun D σ H => c σ H fun b H1 => if b = true then t D σ H1 else u D σ H1
theorem ps_if {c : Expr} {a b : List Stmt} {tc : TT} (hc : PT X c tc) (ha : PSs X a t) (hb : PSs X b u) : PS X (.If c a b pos) (tIfS tc t u) := by
  intro pins s σ H D I h
  refine wpAny_If (thn (hc pins s σ H _ I h) fun d s1 ⟨H1, I1, q1⟩ => ?_)
  cases d with
  | true => exact ha pins s1 σ H1 D I1 q1
  | false => exact hb pins s1 σ H1 D I1 q1
end
abbrev TG := V → St → Hp → (St → Hp → Prop) → Prop
abbrev TGs := List V → St → Hp → (St → Hp → Prop) → Prop
def PG (X : Cx) (target : Expr) (t : TG) : Prop :=
  ∀ (pins : List (Addr × Obj)) (s : Shared) (σ : St) (H : Hp) (v : V) (u : Value) (Q : St → Hp → Prop), Inv X pins σ H s → RelV v u → t v σ H Q →
    wpAny (model X.prog X.w) X.A (assign target X.env u) (fun _ s' => ∃ σ' H', Inv X pins σ' H' s' ∧ Q σ' H') X.xe s
def PGs (X : Cx) (ts : List Expr) (t : TGs) : Prop :=
  ∀ (pins : List (Addr × Obj)) (s : Shared) (σ : St) (H : Hp) (vs : List V) (us : List Value) (Q : St → Hp → Prop), Inv X pins σ H s → Vals vs us → t vs σ H Q →
    wpAny (model X.prog X.w) X.A (assignInOrder ((assignEach ts X.env).map (·.2)) us) (fun _ s' => ∃ σ' H', Inv X pins σ' H' s' ∧ Q σ' H') X.xe s
abbrev TSet := V → V → V → Hp → (Hp → Prop) → Prop
def PSet (X : Cx) (t : TSet) : Prop :=
  ∀ (pins : List (Addr × Obj)) (s : Shared) (σ : St) (H : Hp) (o i v : V) (ov iv u : Value) (Q : Hp → Prop), Inv X pins σ H s → RelV o ov → RelV i iv → RelV v u → t o i v H Q →
    wpAny (model X.prog X.w) X.A (setItem ov iv u) (fun _ s' => ∃ H', Inv X pins σ H' s' ∧ Q H') X.xe s
section
variable {X : Cx} {pos : Pos}
def gName (i : Nat) : TG := fun v σ H Q => Q (σ.set i (some v)) H
theorem pg_name {i : Nat} {x : Str} (hN : X.N.Nodup) (hi : X.N[i]? = some x) (hx : Loc X.env.scope x) (hf : X.fn x = true ∨ X.env.scope.names.lookup x = some .local := by first | exact .inl rfl | exact .inr rfl | assumption) : PG X (.Name x pos) (gName i) := by
  intro pins s σ H v u Q I r h
  exact wpAny_assign_Name (store_ok I hN hi hx r (fun s' I' => ⟨_, H, I', h⟩) hf)
def gNil : TGs := fun vs σ H Q => vs = [] ∧ Q σ H
def gCons (t : TG) (u : TGs) : TGs := fun vs σ H Q => ∃ v r, vs = v :: r ∧ t v σ H fun σ' H' => u r σ' H' Q
theorem pgs_nil : PGs X [] gNil := by
  intro pins s σ H vs us Q I r h
  obtain ⟨e, h⟩ := h
  subst e
  cases r
  exact assignInOrder_nil ⟨σ, H, I, h⟩
theorem pgs_cons {e : Expr} {es : List Expr} {t : TG} {u : TGs} (h1 : PG X e t) (h2 : PGs X es u)
    (hs : (assignEach (e :: es) X.env).map (·.2) = assign e X.env :: (assignEach es X.env).map (·.2) := by rfl) : PGs X (e :: es) (gCons t u) := by
  intro pins s σ H vs us Q I r h
  obtain ⟨v, vr, e1, h⟩ := h
  subst e1
  cases r with
  | cons r rr =>
    rw [hs]
    refine assignInOrder_cons (thn (h1 pins s σ H _ _ _ I r h) fun _ s1 ⟨σ1, H1, I1, q1⟩ => ?_)
    exact h2 pins s1 σ1 H1 _ _ Q I1 rr q1
def gTup (K : PySem.W.Frag) (n : Nat) (t : TGs) : TG := fun v σ H Q => ∃ a xs, v = .ref a ∧ SqT K H a xs ∧ xs.length = n ∧ t xs σ H Q
theorem pg_tup {es : List Expr} {k : Nat} {t : TGs} {n : Nat} (hc : X.calm = true) (h : PGs X es t)
    (hn : (assignEach es X.env).length = n := by rfl) (hst : (assignEach es X.env).findIdx? (·.1) = none := by rfl) : PG X (.Tuple es k pos) (gTup X.K n t) := by
  intro pins s σ H v u Q I r hw
  obtain ⟨a, xs, e1, hq, hl, hw⟩ := hw
  subst e1
  cases r
  obtain ⟨its, rv, ht, hz⟩ := I.tuple hq
  refine assign_Tuple_tuple (I.ok.hd hc) ht (by simp [hn, ← hl, rv.length]) hst fun h' hx => ?_
  have I1 : Inv X pins σ H { s with heap := h' } := I.kept (t' := s.toks) fun b o e => hx b o (Nat.ne_of_lt (Heap.lt_size e)) e
  exact h pins _ σ H xs _ Q I1 (by simpa using rv) hw
def gSub (to ti : TE) (t : TSet) : TG := fun v σ H Q => to σ H fun o H1 => ti σ H1 fun i H2 => t o i v H2 fun H3 => Q σ H3
theorem pg_sub {o i : Expr} {to ti : TE} {t : TSet} (ho : PE X o to) (hi : PE X i ti) (hs : PSet X t)
    (ha : ∀ v, assign (.Subscript o i pos) X.env v = (do
      let ov ← holding [v] (eval o X.env)
      let iv ← holding [v, ov] (eval i X.env)
      standAt pos
      holding [v, ov, iv] (setItem ov iv v)
      release [v, ov, iv] []) := by intro _; rfl) : PG X (.Subscript o i pos) (gSub to ti t) := by
  intro pins s σ H v u Q I r h
  rw [ha]
  refine wpAny_bind (wpAny_holding (thn (ho pins s σ H _ I h) fun ov s1 ⟨x, H1, I1, r1, q1⟩ => ?_))
  refine wpAny_bind (wpAny_holding (thn (hi pins s1 σ H1 _ I1 q1) fun iv s2 ⟨y, H2, I2, r2, q2⟩ => ?_))
  refine wpAny_bind (wpAny_standAt (wpAny_bind (wpAny_holding (thn (hs pins s2 σ H2 x y v ov iv u _ I2 r1 r2 r q2) fun _ s3 ⟨H3, I3, q3⟩ => ?_))))
  exact wpAny_release ⟨σ, H3, I3, q3⟩
def tAsg (te : TE) (g : TG) : TS := fun D σ H => te σ H fun x H1 => g x σ H1 D.nx
theorem ps_asg {tg e : Expr} {te : TE} {g : TG} (he : PE X e te) (hg : PG X tg g) (hs : swapsWithSole [tg] e pos.line X.env = pure false := by rfl) (hw : swappedStores [tg] e X.env = pure none := by rfl)
    (h1 : (assignEach [tg] X.env).map (·.2) = [assign tg X.env] := by rfl) : PS X (.Assign [tg] e pos) (tAsg te g) := by
  intro pins s σ H D I h
  refine wpAny_Assign_stores (thn (he pins s σ H _ I h) fun v s1 ⟨x, H1, I1, r1, q1⟩ => ?_) hs hw
  rw [h1]
  exact thn (hg pins s1 σ H1 x v _ I1 r1 q1) fun _ s2 q => q
theorem ps_set {i : Nat} {x : Str} {e : Expr} {te : TE} {pos' : Pos} (hN : X.N.Nodup) (hi : X.N[i]? = some x) (hx : Loc X.env.scope x) (he : PE X e te) (hs : swapsWith e (some (.Name x pos')) pos.line X.env = pure false := by rfl) (hf : X.fn x = true ∨ X.env.scope.names.lookup x = some .local := by first | exact .inl rfl | exact .inr rfl | assumption) :
    PS X (.Assign [.Name x pos'] e pos) (tAsg te (gName i)) := by
  intro pins s σ H D I h
  refine wpAny_Assign_Name (thn (he pins s σ H _ I h) fun v s1 ⟨y, H1, I1, r1, q1⟩ => ?_) hs
  exact store_ok I1 hN hi hx r1 (fun s2 I2 => ⟨_, H1, I2, q1⟩) hf
end
section
variable {X : Cx} {pos : Pos}
end
structure It where
  go : Nat → Hp → Prop
  yld : Nat → Hp → V → Hp → Prop
  stop : Nat → Hp → Prop
def FpOk (X : Cx) (pins : List (Addr × Obj)) (H : Hp) (b : Addr) : Prop :=
  H b = none ∧ b ≠ X.env.locals ∧ b ∉ X.fs ∧ (b ∈ X.ex ∨ X.s₀.heap.objs.size ≤ b) ∧ (∀ x c, X.env.cells.lookup x = some c → c ≠ b) ∧ ∀ p ∈ X.pn ++ pins, p.1 ≠ b
theorem Inv.fpOk {X : Cx} {pins : List (Addr × Obj)} {σ : St} {H H' : Hp} {s : Shared} {b : Addr} (I : Inv X pins σ H s) (hb : s.heap.objs.size ≤ b) (hn : H' b = none) : FpOk X pins H' b := by
  refine ⟨hn, Nat.ne_of_gt (Nat.lt_of_lt_of_le I.lt hb), I.nofs hb, .inr (Nat.le_trans I.sz hb), fun x c e z => ?_, fun p hp z => ?_⟩
  · obtain ⟨v, q⟩ := I.cell x c e
    exact absurd (Nat.lt_of_lt_of_le q.lt (by rw [z]; exact hb)) (Nat.lt_irrefl _)
  · exact absurd (Nat.lt_of_lt_of_le (Heap.lt_size (I.pin p hp).1) (by rw [z]; exact hb)) (Nat.lt_irrefl _)
structure Turn (P : Program) (w : World) (K : PySem.W.Frag) (tg : Expr) (J : It) (fp : List Addr) (it : Addr) (tn : Nat → Heap → Prop) : Prop where
  mem : it ∈ fp
  obj : ∀ i h, tn i h → ∀ b ∈ fp, ∃ o, h.get? b = some o ∧ ∀ v, o.data ≠ .cell v
  keep : ∀ i h h', tn i h → (∀ b ∈ fp, ∀ o, h.get? b = some o → h'.get? b = some o) → tn i h'
  item : ∀ (X : Cx), X.prog = P → X.w = w → X.K = K → X.calm = true → ∀ (i : Nat) (pins : List (Addr × Obj)) (s : Shared) (σ : St) (H : Hp) (E : Value → Shared → Prop), Inv X pins σ H s → (∀ b ∈ fp, FpOk X pins H b) → tn i s.heap → J.go i H →
    wpAny (model P w) X.A (pyNext (.ref it)) (fun r s1 => ∃ u, r = some u ∧
      wpAny (model P w) X.A (letOwnedTupleGo tg (.ref it) u) (fun _ s2 => ∃ x H', Inv X pins σ H' s2 ∧ RelV x u ∧ J.yld i H x H' ∧ tn (i + 1) s2.heap ∧ ∀ b ∈ fp, H' b = none) E s1) E s
  done : ∀ (X : Cx), X.prog = P → X.w = w → X.K = K → X.calm = true → ∀ (i : Nat) (pins : List (Addr × Obj)) (s : Shared) (σ : St) (H : Hp) (E : Value → Shared → Prop), Inv X pins σ H s → (∀ b ∈ fp, FpOk X pins H b) → tn i s.heap → J.stop i H →
    wpAny (model P w) X.A (pyNext (.ref it)) (fun r s1 => r = none ∧ Inv X pins σ H s1) E s
  self : ∀ (A : Around) (i : Nat) (s : Shared) (Q : Value → Shared → Prop) (E : Value → Shared → Prop), tn i s.heap → Q (.ref it) s → wpAny (model P w) A (pyIter (.ref it)) Q E s
abbrev TI := St → Hp → (It → Hp → Prop) → Prop
def PIE (X : Cx) (pins : List (Addr × Obj)) (σ : St) (tg : Expr) (R : It → Hp → Prop) (itv : Value) (s2 : Shared) : Prop :=
  ∃ (it : Addr) (fp : List Addr) (tn : Nat → Heap → Prop) (J : It) (H' : Hp), itv = .ref it ∧ Inv X pins σ H' s2 ∧ Turn X.prog X.w X.K tg J fp it tn ∧ tn 0 s2.heap ∧ (∀ b ∈ fp, FpOk X pins H' b) ∧ R J H'
def PI (X : Cx) (tg iter : Expr) (wi : TI) : Prop :=
  ∀ (pins : List (Addr × Obj)) (s : Shared) (σ : St) (H : Hp) (R : It → Hp → Prop), Inv X pins σ H s → wi σ H R →
    wpAny (model X.prog X.w) X.A (eval iter X.env) (fun v s1 => wpAny (model X.prog X.w) X.A (pyIter v) (PIE X pins σ tg R) X.xe s1) X.xe s
theorem go_of {M : Model} {A : Around} {E : Value → Shared → Prop} {s : Shared} {tg : Expr} {it : Addr} {u : Value} {o : Obj} {n : String} {vs : Array Value} {Q : Unit → Shared → Prop} (ho : s.heap.get? it = some o) (hc : o.cls = .type n) (hd : o.data = .fields vs)
    (hn : ["enumerate", "zip", "dict_itemiterator", "dict_reverseitemiterator", "odict_iterator", "itertools.zip_longest", "itertools.pairwise"].contains n = false) (hQ : Q () s) : wpAny M A (letOwnedTupleGo tg (.ref it) u) Q E s := by
  unfold letOwnedTupleGo
  cases tg <;> first
    | exact wpAny_pure hQ
    | (cases u <;> first
        | exact wpAny_pure hQ
        | (refine wpAny_bind (wpAny_load ho ?_)
           rw [hc, hd]
           show wpAny M A (if (["enumerate", "zip", "dict_itemiterator", "dict_reverseitemiterator", "odict_iterator", "itertools.zip_longest", "itertools.pairwise"].contains n && vs[0]? == some (rawInt _)) = true then _ else _) Q E s
           rw [if_neg (by intro h; rw [hn, Bool.false_and] at h; cases h)]
           exact wpAny_pure hQ))
def Itl (K : PySem.W.Frag) (a : Addr) : It :=
  ⟨fun i H => ∃ xs x, SqL K H a xs ∧ xs[i]? = some x, fun i H x H' => H' = H ∧ ∀ xs, SqL K H a xs → xs[i]? = some x, fun i H => ∃ xs, SqL K H a xs ∧ xs.length ≤ i⟩
def Itt (K : PySem.W.Frag) (a : Addr) : It :=
  ⟨fun i H => ∃ xs x, SqT K H a xs ∧ xs[i]? = some x, fun i H x H' => H' = H ∧ ∀ xs, SqT K H a xs → xs[i]? = some x, fun i H => ∃ xs, SqT K H a xs ∧ xs.length ≤ i⟩
def Itr (lo : Int) (n : Nat) : It := ⟨fun i _ => i < n, fun i H x H' => H' = H ∧ x = .int (lo + i), fun i _ => n ≤ i⟩
theorem turn_list {P : Program} {w : World} {K : PySem.W.Frag} {tg : Expr} (a it : Addr) : Turn P w K tg (Itl K a) [it] it (fun i h => h.IsListIter it a i) where
  mem := by simp
  obj := fun i h st b hb => by
    have e : b = it := by simpa using hb
    subst e
    obtain ⟨o, e, c, d⟩ := st
    exact ⟨o, e, fun v z => by rw [d] at z; cases z⟩
  keep := fun i h h' st k => st.at fun o e => k it (by simp) o e
  item := by
    intro X hP hw hK hc i pins s σ H E I hf st hg
    subst hP hw hK
    obtain ⟨xs, x, hq, hx⟩ := hg
    obtain ⟨its, rv, p, hz⟩ := I.list hq
    obtain ⟨u, hu, ru⟩ := rv.get hx
    obtain ⟨f0, f1, f2, f3, f4, f5⟩ := hf it (by simp)
    refine wpAny_pyNext_list_item st p.isList (x := u) (by simpa using hu) fun h' st' sb => ?_
    have I1 : Inv X pins σ H { s with heap := h' } := I.turned (t' := s.toks) (fun b o hb e => (sb.2 b hb).trans e) f0 f1 f3 f4 f5
    obtain ⟨o, e, c, d⟩ := id st'
    exact ⟨u, rfl, go_of (s := { s with heap := h' }) e c d (by decide) ⟨x, H, I1, ru, ⟨rfl, fun ys hy => by rw [I.list_inj hy hq]; exact hx⟩, st', fun b hb => (hf b hb).1⟩⟩
  done := by
    intro X hP hw hK hc i pins s σ H E I hf st hg
    subst hP hw hK
    obtain ⟨xs, hq, hx⟩ := hg
    obtain ⟨its, rv, p, hz⟩ := I.list hq
    obtain ⟨f0, f1, f2, f3, f4, f5⟩ := hf it (by simp)
    have hl := rv.length
    exact wpAny_pyNext_list_end (I.ok.hd hc) st p.isList (by simp; omega) fun h' eb => ⟨rfl, I.turned (t' := s.toks) (fun b o hb e => eb b o hb e) f0 f1 f3 f4 f5⟩
  self := fun _ _ _ _ _ st h => wpAny_pyIter_listiter st h
theorem turn_tuple {P : Program} {w : World} {K : PySem.W.Frag} {tg : Expr} (a it : Addr) : Turn P w K tg (Itt K a) [it] it (fun i h => h.IsTupleIter it a i) where
  mem := by simp
  obj := fun i h st b hb => by
    have e : b = it := by simpa using hb
    subst e
    obtain ⟨o, e, c, d⟩ := st
    exact ⟨o, e, fun v z => by rw [d] at z; cases z⟩
  keep := fun i h h' st k => st.at fun o e => k it (by simp) o e
  item := by
    intro X hP hw hK hc i pins s σ H E I hf st hg
    subst hP hw hK
    obtain ⟨xs, x, hq, hx⟩ := hg
    obtain ⟨its, rv, p, hz⟩ := I.tuple hq
    obtain ⟨u, hu, ru⟩ := rv.get hx
    obtain ⟨f0, f1, f2, f3, f4, f5⟩ := hf it (by simp)
    refine wpAny_pyNext_tuple_item st (show s.heap.IsTuple a its.toArray from p) (x := u) (by simpa using hu) fun h' st' sb => ?_
    have I1 : Inv X pins σ H { s with heap := h' } := I.turned (t' := s.toks) (fun b o hb e => (sb.2 b hb).trans e) f0 f1 f3 f4 f5
    obtain ⟨o, e, c, d⟩ := id st'
    exact ⟨u, rfl, go_of (s := { s with heap := h' }) e c d (by decide) ⟨x, H, I1, ru, ⟨rfl, fun ys hy => by rw [I.tuple_inj hy hq]; exact hx⟩, st', fun b hb => (hf b hb).1⟩⟩
  done := by
    intro X hP hw hK hc i pins s σ H E I hf st hg
    subst hP hw hK
    obtain ⟨xs, hq, hx⟩ := hg
    obtain ⟨its, rv, p, hz⟩ := I.tuple hq
    obtain ⟨f0, f1, f2, f3, f4, f5⟩ := hf it (by simp)
    have hl := rv.length
    exact wpAny_pyNext_tuple_end (I.ok.hd hc) st (show s.heap.IsTuple a its.toArray from p) (by simp; omega) fun h' eb => ⟨rfl, I.turned (t' := s.toks) (fun b o hb e => eb b o hb e) f0 f1 f3 f4 f5⟩
  self := fun _ _ _ _ _ st h => wpAny_pyIter_tupleiter st h
theorem turn_range {P : Program} {w : World} {K : PySem.W.Frag} {tg : Expr} (it : Addr) (lo : Int) (n : Nat) : Turn P w K tg (Itr lo n) [it] it (fun i h => IsRangeIter h it (lo + (i : Nat) * 1) ((n : Int) - (i : Nat)) 1) where
  mem := by simp
  obj := fun i h st b hb => by
    have e : b = it := by simpa using hb
    subst e
    exact ⟨_, st, fun v z => by
      have z' : Data.fields _ = Data.cell v := z
      cases z'⟩
  keep := fun i h h' st k => k it (by simp) _ st
  item := by
    intro X hP hw hK hc i pins s σ H E I hf st hg
    subst hP hw hK
    obtain ⟨f0, f1, f2, f3, f4, f5⟩ := hf it (by simp)
    have W := Walks.range (prog := X.prog) (w := X.w) (I.ok.hd hc) it lo 1 n
    refine W.item i s _ _ hg st fun v h' tk hv st' kk => ?_
    obtain ⟨t, rfl⟩ := hv
    have I1 : Inv X pins σ H { s with heap := h', toks := tk } := I.turned (fun b o hb e => kk b o (by simpa using hb) e) f0 f1 f3 f4 f5
    refine ⟨_, rfl, go_of (s := { s with heap := h', toks := tk }) (n := "range_iterator") st' rfl rfl (by decide) ⟨.int (lo + i), H, I1, ⟨t, ?_⟩, ⟨rfl, rfl⟩, st', fun b hb => (hf b hb).1⟩⟩
    rw [Int.mul_one]
  done := by
    intro X hP hw hK hc i pins s σ H E I hf st hg
    subst hP hw hK
    obtain ⟨f0, f1, f2, f3, f4, f5⟩ := hf it (by simp)
    exact wpAny_pyNext_range_end (I.ok.hd hc) st (by have : n ≤ i := hg; omega) fun h' eb => ⟨rfl, I.turned (t' := s.toks) (fun b o hb e => eb b o hb e) f0 f1 f3 f4 f5⟩
  self := fun _ _ _ _ _ st h => wpAny_pyIter_rangeiter st h
end L2
namespace L2
open PySem PySem.Spec PyProof.Rows
section
variable {X : Cx} {tg : Expr}
def iList (K : PySem.W.Frag) (tl : TE) : TI := fun σ H R => tl σ H fun x H1 => ∃ a, x = .ref a ∧ (∃ xs, SqL K H1 a xs) ∧ R (Itl K a) H1
def iTup (K : PySem.W.Frag) (tl : TE) : TI := fun σ H R => tl σ H fun x H1 => ∃ a, x = .ref a ∧ (∃ xs, SqT K H1 a xs) ∧ R (Itt K a) H1
theorem pi_list {l : Expr} {tl : TE} (hl : PE X l tl) : PI X tg l (iList X.K tl) := by
  intro pins s σ H R I h
  refine thn (hl pins s σ H _ I h) fun v s1 ⟨x, H1, I1, r1, q1⟩ => ?_
  obtain ⟨a, e, ⟨xs, hq⟩, q⟩ := q1
  subst e
  cases r1
  obtain ⟨its, rv, p, hz⟩ := I1.list hq
  refine wpAny_pyIter_list p.isList ?_
  refine ⟨s1.heap.objs.size, [s1.heap.objs.size], _, _, H1, rfl, I1.kept (t' := s1.toks) fun b o e => Heap.get?_push_of_some _ e, turn_list a _, ⟨_, Heap.get?_push_size _ rfl, rfl, rfl⟩, fun b hb => ?_, q⟩
  have e : b = s1.heap.objs.size := by simpa using hb
  subst e
  exact I1.fpOk (Nat.le_refl _) (I1.hok.fresh (Nat.le_refl _))
theorem pi_tup {l : Expr} {tl : TE} (hl : PE X l tl) : PI X tg l (iTup X.K tl) := by
  intro pins s σ H R I h
  refine thn (hl pins s σ H _ I h) fun v s1 ⟨x, H1, I1, r1, q1⟩ => ?_
  obtain ⟨a, e, ⟨xs, hq⟩, q⟩ := q1
  subst e
  cases r1
  obtain ⟨its, rv, p, hz⟩ := I1.tuple hq
  refine wpAny_pyIter_tuple (show s1.heap.IsTuple a its.toArray from p) ?_
  refine ⟨s1.heap.objs.size, [s1.heap.objs.size], _, _, H1, rfl, I1.kept (t' := s1.toks) fun b o e => Heap.get?_push_of_some _ e, turn_tuple a _, ⟨_, Heap.get?_push_size _ rfl, rfl, rfl⟩, fun b hb => ?_, q⟩
  have e : b = s1.heap.objs.size := by simpa using hb
  subst e
  exact I1.fpOk (Nat.le_refl _) (I1.hok.fresh (Nat.le_refl _))
theorem range_it {pins : List (Addr × Obj)} {σ : St} {H : Hp} {s : Shared} {R : It → Hp → Prop} {E : Value → Shared → Prop} {lo hi : Int} {t u v : Tok} {tk : Nat} (I : Inv X pins σ H s) (h1 : -(2 ^ 62) ≤ lo) (h2 : lo < 2 ^ 62) (h3 : -(2 ^ 62) ≤ hi) (h4 : hi < 2 ^ 62)
    (q : R (Itr lo (hi - lo).toNat) H) : wpAny (model X.prog X.w) X.A (pyIter (.ref s.heap.objs.size)) (PIE X pins σ tg R) E { s with heap := s.heap.push { cls := .type "range", data := .fields #[.int lo t, .int hi u, .int 1 v] }, toks := tk } := by
  refine wpAny_pyIter_range (IsRange.new ..) (small_one h1 h2 h3 h4) ?_
  have I1 : Inv X pins σ H { s with heap := s.heap.push { cls := .type "range", data := .fields #[.int lo t, .int hi u, .int 1 v] }, toks := tk } := I.kept fun b o e => Heap.get?_push_of_some _ e
  refine ⟨(s.heap.push { cls := .type "range", data := .fields #[.int lo t, .int hi u, .int 1 v] }).objs.size, [(s.heap.push { cls := .type "range", data := .fields #[.int lo t, .int hi u, .int 1 v] }).objs.size], _, _, H, rfl,
    I1.kept (t' := tk) fun b o e => Heap.get?_push_of_some _ e, turn_range _ lo (hi - lo).toNat, ?_, fun b hb => ?_, q⟩
  · have e1 : lo + ((0 : Nat) : Int) * 1 = lo := by simp
    have e2 : (((hi - lo).toNat : Nat) : Int) - ((0 : Nat) : Int) = Builtin.Range.rangeSize lo hi 1 := by rw [rangeSize_one]; split <;> omega
    show IsRangeIter _ _ (lo + ((0 : Nat) : Int) * 1) ((((hi - lo).toNat : Nat) : Int) - ((0 : Nat) : Int)) 1
    rw [e1, e2]
    exact Heap.get?_push_size _ rfl
  · have e : b = (s.heap.push { cls := .type "range", data := .fields #[.int lo t, .int hi u, .int 1 v] }).objs.size := by simpa using hb
    subst e
    exact I1.fpOk (Nat.le_refl _) (I1.hok.fresh (Nat.le_refl _))
def iRng1 (ta : TA) : TI := fun σ H R => ta σ H fun vs H1 => ∃ j : Int, vs = [.int j] ∧ -(2 ^ 62) ≤ j ∧ j < 2 ^ 62 ∧ R (Itr 0 j.toNat) H1
theorem pi_range1 {a : Expr} {ta : TA} {p pos : Pos} (hg : Gl X "range") (hm : X.mg "range" = none) (ha : PA X [a] ta) (hs : starEach [a] X.env = [(false, eval a X.env)] := by rfl) : PI X tg (.Call (.Name "range" p) [a] [] pos) (iRng1 ta) := by
  intro pins s σ H R I h
  refine Call_ (ld_blt I hg hm boot_range (PyProof.Rows.callWith_type1 (thn (ha pos pins s σ H _ I h) fun us s1 ⟨vs, H1, I1, r1, q1⟩ => ?_) hs rfl))
  obtain ⟨j, e, q1, q2, q⟩ := q1
  subst e
  cases r1 with
  | cons r rr =>
    cases rr
    obtain ⟨t, rfl⟩ := r
    exact call_range_1 (range_it I1 (by omega) (by omega) q1 q2 (by simpa using q))
def tFor (wi : TI) (g : TG) (tb : TS) : TS := fun D σ H => wi σ H fun J H1 => ∃ W : Nat → Nat → St → Hp → Prop, (∃ m, W 0 m σ H1) ∧ ∀ i m σ H, W i m σ H →
  (J.stop i H ∧ D.nx σ H) ∨ (J.go i H ∧ ∃ N : St → Hp → Prop, (∀ σ' H', N σ' H' → ∃ m', m' < m ∧ W (i + 1) m' σ' H') ∧ ∀ x H', J.yld i H x H' → g x σ H' fun σ2 H2 => tb { D with nx := N, ct := N, bk := D.nx } σ2 H2)
def pinsAt (fp : List Addr) (h : Heap) : List (Addr × Obj) := fp.filterMap fun b => (h.get? b).map fun o => (b, o)
theorem mem_pinsAt {fp : List Addr} {h : Heap} {b : Addr} {o : Obj} (hb : b ∈ fp) (e : h.get? b = some o) : (b, o) ∈ pinsAt fp h := List.mem_filterMap.mpr ⟨b, hb, by rw [e]; rfl⟩
theorem of_pinsAt {fp : List Addr} {h : Heap} {p : Addr × Obj} (hp : p ∈ pinsAt fp h) : p.1 ∈ fp ∧ h.get? p.1 = some p.2 := by
  obtain ⟨b, hb, e⟩ := List.mem_filterMap.mp hp
  cases q : h.get? b with
  | none => rw [q] at e; cases e
  | some o =>
    rw [q] at e
    have e' : (b, o) = p := Option.some.inj e
    subst e'
    exact ⟨hb, q⟩
theorem Inv.pinned {pins : List (Addr × Obj)} {σ : St} {H : Hp} {s : Shared} {fp : List Addr} (I : Inv X pins σ H s) (hf : ∀ b ∈ fp, FpOk X pins H b) (ho : ∀ b ∈ fp, ∃ o, s.heap.get? b = some o ∧ ∀ v, o.data ≠ .cell v) : Inv X (pins ++ pinsAt fp s.heap) σ H s :=
  I.pins_of fun p hp => (List.mem_append.mp hp).elim (fun z => I.pin p (List.mem_append_right _ z)) fun z => by
    obtain ⟨hb, e⟩ := of_pinsAt z
    obtain ⟨f0, f1, f2, _⟩ := hf p.1 hb
    obtain ⟨o, e', d⟩ := ho p.1 hb
    rw [e] at e'; cases e'
    exact ⟨e, f0, f1, f2, d⟩
theorem Inv.unpinned {pins pl : List (Addr × Obj)} {σ : St} {H : Hp} {s : Shared} (I : Inv X (pins ++ pl) σ H s) : Inv X pins σ H s := I.pins_of fun p hp => I.pin p (List.mem_append_right _ (List.mem_append_left _ hp))
theorem ps_for {iter : Expr} {body : List Stmt} {wi : TI} {g : TG} {tb : TS} {pos : Pos} (hp : PassesOwn (model X.prog X.w) X.A X.env X.xe) (hc : X.calm = true) (hi : PI X tg iter wi) (hg : PG X tg g) (hb : PSs X body tb)
    (hs : ∀ x, foldedSetIterable iter X.env x = pure x := by intro _; rfl) : PS X (.For tg iter body [] pos) (tFor wi g tb) := by
  intro pins s σ H D I h
  refine wpAny_For (thn (hi pins s σ H _ I h) fun v s1 h1 => thn h1 fun itv s2 h2 => ?_) hs
  obtain ⟨it, fp, tn, J, H2, e, I2, T, st2, f2, W, ⟨m0, w0⟩, turn⟩ := h2
  subst e
  have stat : ∀ {H' : Hp}, (∀ b ∈ fp, H' b = none) → ∀ b ∈ fp, FpOk X pins H' b := fun hn b hb => ⟨hn b hb, (f2 b hb).2⟩
  refine codeAny_forLoop_any (fun n s' => ∃ i σ' H', Inv X pins σ' H' s' ∧ tn i s'.heap ∧ (∀ b ∈ fp, H' b = none) ∧ W i n σ' H') ?_ m0 ⟨0, σ, H2, I2, st2, fun b hb => (f2 b hb).1, w0⟩
  rintro n s3 ⟨i, σ3, H3, I3, st3, fr3, w3⟩
  rcases turn i n σ3 H3 w3 with ⟨stop, qn⟩ | ⟨go, N, hN, step⟩
  · refine wpAny_passesOwn hp (thn (T.done X rfl rfl rfl hc i pins s3 σ3 H3 X.xe I3 (stat fr3) st3 stop) fun r s4 ⟨hr, I4⟩ => ?_)
    subst hr
    exact wpAny_execs_nil ⟨σ3, H3, I4, qn⟩
  · refine wpAny_passesOwn hp (thn (T.item X rfl rfl rfl hc i pins s3 σ3 H3 X.xe I3 (stat fr3) st3 go) fun r s4 ⟨u, hr, h4⟩ => ?_)
    subst hr
    refine wpAny_passesOwn hp (thn h4 fun _ s5 ⟨x, H5, I5, r5, y5, st5, fr5⟩ => ?_)
    have I5' := I5.pinned (stat fr5) (T.obj _ _ st5)
    refine wpAny_passesOwn hp (thn (hg _ s5 σ3 H5 x u _ I5' r5 (step x H5 y5)) fun _ s6 ⟨σ6, H6, I6, q6⟩ => ?_)
    refine wpAny_passesOwn hp (thn (hb _ s6 σ6 H6 _ I6 q6) fun f s7 q7 => ?_)
    have again : ∀ {σ7 : St} {H7 : Hp}, Inv X (pins ++ pinsAt fp s5.heap) σ7 H7 s7 → N σ7 H7 → ∃ m, m < n ∧ ∃ i σ' H', Inv X pins σ' H' s7 ∧ tn i s7.heap ∧ (∀ b ∈ fp, H' b = none) ∧ W i m σ' H' := fun {σ7 H7} I7 n7 => by
      obtain ⟨m', hm, w7⟩ := hN σ7 H7 n7
      refine ⟨m', hm, i + 1, σ7, H7, I7.unpinned, T.keep _ _ _ st5 fun b hb o e => (I7.pin (b, o) (List.mem_append_right _ (List.mem_append_right _ (mem_pinsAt hb e)))).1, fun b hb => ?_, w7⟩
      obtain ⟨o, e, d⟩ := T.obj _ _ st5 b hb
      exact (I7.pin (b, o) (List.mem_append_right _ (List.mem_append_right _ (mem_pinsAt hb e)))).2.1
    cases f with
    | next => obtain ⟨σ7, H7, I7, n7⟩ := q7; exact again I7 n7
    | cont => obtain ⟨σ7, H7, I7, n7⟩ := q7; exact again I7 n7
    | brk => obtain ⟨σ7, H7, I7, q7⟩ := q7; exact ⟨σ7, H7, I7.unpinned, q7⟩
    | ret v => obtain ⟨x7, σ7, H7, I7, r7, q7⟩ := q7; exact ⟨x7, σ7, H7, I7.unpinned, r7, q7⟩
end
theorem for_range {lo : Int} {n : Nat} {g : TG} {tb : TS} {D : Ends} {σ : St} {H : Hp} (Pv : Nat → St → Hp → Prop) (h0 : Pv 0 σ H)
    (hs : ∀ i σ H, i < n → Pv i σ H → g (.int (lo + i)) σ H fun σ2 H2 => tb { D with nx := Pv (i + 1), ct := Pv (i + 1), bk := D.nx } σ2 H2) (hd : ∀ σ H, Pv n σ H → D.nx σ H) :
    ∃ W : Nat → Nat → St → Hp → Prop, (∃ m, W 0 m σ H) ∧ ∀ i m σ H, W i m σ H →
      ((Itr lo n).stop i H ∧ D.nx σ H) ∨ ((Itr lo n).go i H ∧ ∃ N : St → Hp → Prop, (∀ σ' H', N σ' H' → ∃ m', m' < m ∧ W (i + 1) m' σ' H') ∧ ∀ x H', (Itr lo n).yld i H x H' → g x σ H' fun σ2 H2 => tb { D with nx := N, ct := N, bk := D.nx } σ2 H2) := by
  refine ⟨fun i m σ H => m = n - i ∧ i ≤ n ∧ Pv i σ H, ⟨n, by simp, Nat.zero_le _, h0⟩, ?_⟩
  rintro i m σ H ⟨rfl, hi, p⟩
  by_cases hlt : i < n
  · refine .inr ⟨hlt, Pv (i + 1), fun σ' H' p' => ⟨n - (i + 1), by omega, rfl, hlt, p'⟩, fun x H' y => ?_⟩
    obtain ⟨e, y⟩ := y
    subst e y
    exact hs i σ _ hlt p
  · have e : i = n := by omega
    subst e
    exact .inl ⟨Nat.le_refl _, hd σ H p⟩
end L2
namespace L2
open PySem PySem.Spec PyProof.Rows
abbrev R2 := V → V → Hp → VK → Prop
def OpR (X : Cx) (f : Value → Value → Sem Value) (r : R2) : Prop :=
  ∀ (pins : List (Addr × Obj)) (s : Shared) (σ : St) (H : Hp) (x y : V) (v u : Value) (Q : VK), Inv X pins σ H s → RelV x v → RelV y u → r x y H Q →
    wpAny (model X.prog X.w) X.A (f v u) (EP X pins σ Q) X.xe s
def UnR (X : Cx) (f : Value → Sem Value) (r : V → Hp → VK → Prop) : Prop :=
  ∀ (pins : List (Addr × Obj)) (s : Shared) (σ : St) (H : Hp) (x : V) (v : Value) (Q : VK), Inv X pins σ H s → RelV x v → r x H Q →
    wpAny (model X.prog X.w) X.A (f v) (EP X pins σ Q) X.xe s
def CallR (X : Cx) (f : Value) (r : List V → Hp → VK → Prop) : Prop :=
  ∀ (pins : List (Addr × Obj)) (s : Shared) (σ : St) (H : Hp) (xs : List V) (us : List Value) (Q : VK), Inv X pins σ H s → Vals xs us → r xs H Q →
    wpAny (model X.prog X.w) X.A (call f us) (EP X pins σ Q) X.xe s
def TruR (X : Cx) (r : V → Hp → (Bool → Hp → Prop) → Prop) : Prop :=
  ∀ (pins : List (Addr × Obj)) (s : Shared) (σ : St) (H : Hp) (x : V) (v : Value) (Q : Bool → Hp → Prop), Inv X pins σ H s → RelV x v → r x H Q →
    wpAny (model X.prog X.w) X.A (truthy v) (TP X pins σ Q) X.xe s
def tOp (r : R2) (ta tb : TE) : TE := fun σ H Q => ta σ H fun x H1 => tb σ H1 fun y H2 => r x y H2 Q
def tUn (r : V → Hp → VK → Prop) (ta : TE) : TE := fun σ H Q => ta σ H fun x H1 => r x H1 Q
def rI (C : Int → Int → Prop) (g : Int → Int → V) : R2 := fun x y H Q => ∃ i j, x = .int i ∧ y = .int j ∧ C i j ∧ Q (g i j) H
def rI0 (g : Int → Int → V) : R2 := fun x y H Q => ∃ i j, x = .int i ∧ y = .int j ∧ Q (g i j) H
def rU (g : Int → V) : V → Hp → VK → Prop := fun x H Q => ∃ i, x = .int i ∧ Q (g i) H
section
variable {X : Cx} {a b c : Expr} {ta tb tc : TE} {pos : Pos}
theorem binT (ha : PE X a ta) (hb : PE X b tb) {pins : List (Addr × Obj)} {s : Shared} {σ : St} {H : Hp} {R : V → V → Hp → Prop} (I : Inv X pins σ H s)
    (h : ta σ H fun x H1 => tb σ H1 fun y H2 => R x y H2) {Q : Value → Shared → Prop} {f : Value → Value → Sem Value}
    (hf : ∀ v u s2 x y H2, Inv X pins σ H2 s2 → RelV x v → RelV y u → R x y H2 → wpAny (model X.prog X.w) X.A (f v u) Q X.xe s2) :
    wpAny (model X.prog X.w) X.A (eval a X.env) (fun v s₁ => wpAny (model X.prog X.w) X.A (eval b X.env) (fun u s₂ => wpAny (model X.prog X.w) X.A (f v u) Q X.xe s₂) X.xe s₁) X.xe s := by
  refine thn (ha pins s σ H _ I h) fun v s1 ⟨x, H1, I1, r1, q1⟩ => ?_
  refine thn (hb pins s1 σ H1 _ I1 q1) fun u s2 ⟨y, H2, I2, r2, q2⟩ => ?_
  exact hf v u s2 x y H2 I2 r1 r2 q2
theorem pe_op {op : Operator} {r : R2} (ho : OpR X (binaryOp op) r) (ha : PE X a ta) (hb : PE X b tb) : PE X (.BinOp a op b pos) (tOp r ta tb) := by
  intro pins s σ H Q I h
  exact wpAny_BinOp (binT ha hb I h fun v u s2 x y H2 I2 rx ry q => ho pins s2 σ H2 x y v u Q I2 rx ry q)
theorem pe_un {op : UnaryOp} {r : V → Hp → VK → Prop} (ho : UnR X (unaryOp op) r) (ha : PE X a ta) : PE X (.UnaryOp op a pos) (tUn r ta) := by
  intro pins s σ H Q I h
  exact UnaryOp_ (thn (ha pins s σ H _ I h) fun v s1 ⟨x, H1, I1, r1, q1⟩ => ho pins s1 σ H1 x v Q I1 r1 q1)
theorem opI {f : Value → Value → Sem Value} {C : Int → Int → Prop} {g : Int → Int → Int}
    (rule : ∀ (i j : Int) (t u : Tok) (s : Shared) (Q : Value → Shared → Prop) (E : Value → Shared → Prop), C i j → Q (.int (g i j) s.toks) { s with toks := s.toks + 1 } → wpAny (model X.prog X.w) X.A (f (.int i t) (.int j u)) Q E s) :
    OpR X f (rI C fun i j => .int (g i j)) := by
  intro pins s σ H x y v u Q I rx ry h
  obtain ⟨i, j, rfl, rfl, hc, q⟩ := h
  obtain ⟨t, rfl⟩ := rx
  obtain ⟨t', rfl⟩ := ry
  exact rule i j t t' s _ _ hc ⟨.int (g i j), H, I.tok _, ⟨_, rfl⟩, q⟩
theorem opI0 {f : Value → Value → Sem Value} {g : Int → Int → Int}
    (rule : ∀ (i j : Int) (t u : Tok) (s : Shared) (Q : Value → Shared → Prop) (E : Value → Shared → Prop), Q (.int (g i j) s.toks) { s with toks := s.toks + 1 } → wpAny (model X.prog X.w) X.A (f (.int i t) (.int j u)) Q E s) :
    OpR X f (rI0 fun i j => .int (g i j)) := by
  intro pins s σ H x y v u Q I rx ry h
  obtain ⟨i, j, rfl, rfl, q⟩ := h
  obtain ⟨t, rfl⟩ := rx
  obtain ⟨t', rfl⟩ := ry
  exact rule i j t t' s _ _ ⟨.int (g i j), H, I.tok _, ⟨_, rfl⟩, q⟩
theorem opB0 {f : Value → Value → Sem Value} {g : Int → Int → Bool}
    (rule : ∀ (i j : Int) (t u : Tok) (s : Shared) (Q : Value → Shared → Prop) (E : Value → Shared → Prop), Q (.bool (g i j)) s → wpAny (model X.prog X.w) X.A (f (.int i t) (.int j u)) Q E s) :
    OpR X f (rI0 fun i j => .bl (g i j)) := by
  intro pins s σ H x y v u Q I rx ry h
  obtain ⟨i, j, rfl, rfl, q⟩ := h
  obtain ⟨t, rfl⟩ := rx
  obtain ⟨t', rfl⟩ := ry
  exact rule i j t t' s _ _ ⟨.bl (g i j), H, I, rfl, q⟩
def CDiv (i j : Int) : Prop := 0 < j ∧ j < 1073741824
def CPow (i j : Int) : Prop := 0 ≤ j ∧ j ≤ 1000000 ∧ i.natAbs < 2 ^ 64
def CMul (i j : Int) : Prop := (-(2 ^ 64) < i ∧ i < 2 ^ 64) ∨ (-(2 ^ 64) < j ∧ j < 2 ^ 64)
theorem CMul.ok {i j : Int} (h : CMul i j) : IntMulOk i j := by
  rcases h with ⟨h1, h2⟩ | ⟨h1, h2⟩
  · exact .of_left (intBits_le_64 h1 h2)
  · exact .of_right (intBits_le_64 h1 h2)
theorem two_pow_nn (k : Nat) : (0 : Int) ≤ 2 ^ k := by
  rw [two_pow_cast]
  exact Int.natCast_nonneg _
theorem op_add : OpR X (binaryOp .Add) (rI0 fun i j => .int (i + j)) := opI0 fun _ _ _ _ _ _ _ q => add_int q
theorem op_sub : OpR X (binaryOp .Sub) (rI0 fun i j => .int (i - j)) := opI0 fun _ _ _ _ _ _ _ q => sub_int q
theorem op_mul : OpR X (binaryOp .Mult) (rI CMul fun i j => .int (i * j)) := opI fun _ _ _ _ _ _ _ hc q => mul_int q hc.ok
theorem op_fdiv : OpR X (binaryOp .FloorDiv) (rI CDiv fun i j => .int (i / j)) := opI fun i j _ _ _ _ _ hc q => by
  have h1 : (0 : Int) < j := hc.1
  have h2 : j < 1073741824 := hc.2
  exact floordiv_int (by omega) (by rw [Int.fdiv_eq_ediv_of_nonneg i (by omega)]; exact q) (.inl (PyProof.noPylong_small (by omega)))
theorem op_mod : OpR X (binaryOp .Mod) (rI (fun _ j => 0 < j) fun i j => .int (i % j)) := opI fun i j _ _ _ _ _ hc q => by
  have h1 : (0 : Int) < j := hc
  exact mod_int' (by omega) (by rw [Int.fmod_eq_emod_of_nonneg i (by omega)]; exact q)
theorem op_pow : OpR X (binaryOp .Pow) (rI CPow fun i j => .int (i ^ j.toNat)) := opI fun _ _ _ _ _ _ _ hc q => pow_int_small hc.1 hc.2.1 hc.2.2 q
theorem op_shr : OpR X (binaryOp .RShift) (rI (fun _ j => 0 ≤ j) fun i j => .int (i / 2 ^ j.toNat)) := opI fun i j _ _ _ _ _ hc q =>
  rshift_int hc (by rw [Int.fdiv_eq_ediv_of_nonneg i (two_pow_nn _)]; exact q)
theorem op_and : OpR X (binaryOp .BitAnd) (rI0 fun i j => .int (Builtin.bitAnd i j)) := opI0 fun _ _ _ _ _ _ _ q => and_int q
theorem unI {f : Value → Sem Value} {g : Int → Int}
    (rule : ∀ (i : Int) (t : Tok) (s : Shared) (Q : Value → Shared → Prop) (E : Value → Shared → Prop), Q (.int (g i) s.toks) { s with toks := s.toks + 1 } → wpAny (model X.prog X.w) X.A (f (.int i t)) Q E s) :
    UnR X f (rU fun i => .int (g i)) := by
  intro pins s σ H x v Q I rx h
  obtain ⟨i, rfl, q⟩ := h
  obtain ⟨t, rfl⟩ := rx
  exact rule i t s _ _ ⟨.int (g i), H, I.tok _, ⟨_, rfl⟩, q⟩
theorem un_neg : UnR X (unaryOp .USub) (rU fun i => .int (-i)) := unI fun _ _ _ _ _ q => neg_int q
end
def scal : V → V → Bool
  | .non, .non => true | .non, .int _ => true | .int _, .non => true | .non, .bl _ => true | .bl _, .non => true | .non, .str _ => true | .str _, .non => true
  | .int _, .int _ => true | .bl _, .bl _ => true | .str _, .str _ => true | .byt _, .byt _ => true
  | .int _, .str _ => true | .str _, .int _ => true | .bl _, .str _ => true | .str _, .bl _ => true
  | _, _ => false
def rEq : R2 := fun x y H Q => scal x y = true ∧ Q (.bl (decide (x = y))) H
theorem dec_int {i j : Int} : decide (V.int i = V.int j) = (i == j) := by
  rw [Bool.eq_iff_iff]
  simp
theorem dec_bl {i j : Bool} : decide (V.bl i = V.bl j) = (i == j) := by
  rw [Bool.eq_iff_iff]
  simp
theorem dec_str {i j : Str} : decide (V.str i = V.str j) = (i == j) := by
  rw [Bool.eq_iff_iff]
  simp
theorem dec_byt {i j : Array UInt8} : decide (V.byt i = V.byt j) = (i.toList == j.toList) := by
  rw [Bool.eq_iff_iff]
  cases i
  cases j
  simp
section
variable {X : Cx} {a b c : Expr} {ta tb tc : TE} {pos : Pos}
theorem fin_bl {pins : List (Addr × Obj)} {σ : St} {H : Hp} {s : Shared} {Q : VK} {k k' : Bool} (I : Inv X pins σ H s) (q : Q (.bl k) H) (e : k = k') : EP X pins σ Q (.bool k') s := by
  subst e
  exact ⟨.bl k, H, I, rfl, q⟩
theorem op_eq : OpR X (compareOp .Eq) rEq := by
  intro pins s σ H x y v u Q I rx ry h
  obtain ⟨hs, q⟩ := h
  cases x with
  | non =>
    cases rx
    cases y with
    | non => cases ry; exact PySem.EqNone.eq_none_none (fin_bl I q (by simp))
    | bl j => cases ry; exact PySem.EqNone.eq_none_bool (fin_bl I q (by simp))
    | int j => obtain ⟨t', rfl⟩ := ry; exact PySem.EqNone.eq_none_int (fin_bl I q (by simp))
    | str j => obtain ⟨t', rfl⟩ := ry; exact PySem.EqNone.eq_none_str (fin_bl I q (by simp))
    | _ => exact absurd (show false = true from hs) Bool.false_ne_true
  | bl i =>
    cases rx
    cases y with
    | non => cases ry; exact PySem.EqNone.eq_bool_none (fin_bl I q (by simp))
    | bl j => cases ry; exact eq_bool (fin_bl I q dec_bl)
    | str j => obtain ⟨t', rfl⟩ := ry; exact PySem.EqMixed.eq_bool_str (fin_bl I q (by simp))
    | _ => exact absurd (show false = true from hs) Bool.false_ne_true
  | int i =>
    obtain ⟨t, rfl⟩ := rx
    cases y with
    | non => cases ry; exact PySem.EqNone.eq_int_none (fin_bl I q (by simp))
    | int j => obtain ⟨t', rfl⟩ := ry; exact eq_int (fin_bl I q dec_int)
    | str j => obtain ⟨t', rfl⟩ := ry; exact PySem.EqMixed.eq_int_str (fin_bl I q (by simp))
    | _ => exact absurd (show false = true from hs) Bool.false_ne_true
  | str i =>
    obtain ⟨t, rfl⟩ := rx
    cases y with
    | non => cases ry; exact PySem.EqNone.eq_str_none (fin_bl I q (by simp))
    | bl j => cases ry; exact PySem.EqMixed.eq_str_bool (fin_bl I q (by simp))
    | int j => obtain ⟨t', rfl⟩ := ry; exact PySem.EqMixed.eq_str_int (fin_bl I q (by simp))
    | str j => obtain ⟨t', rfl⟩ := ry; exact eq_str (fin_bl I q dec_str)
    | _ => exact absurd (show false = true from hs) Bool.false_ne_true
  | byt i =>
    obtain ⟨t, rfl⟩ := rx
    cases y with
    | byt j => obtain ⟨t', rfl⟩ := ry; exact PySem.W.eq_bytes (fin_bl I q dec_byt)
    | _ => exact absurd (show false = true from hs) Bool.false_ne_true
  | _ => cases y <;> exact absurd (show false = true from hs) Bool.false_ne_true
theorem op_lt : OpR X (compareOp .Lt) (rI0 fun i j => .bl (decide (i < j))) := opB0 fun _ _ _ _ _ _ _ q => lt_int q
theorem op_le : OpR X (compareOp .LtE) (rI0 fun i j => .bl (decide (i ≤ j))) := opB0 fun _ _ _ _ _ _ _ q => le_int q
theorem op_gt : OpR X (compareOp .Gt) (rI0 fun i j => .bl (decide (j < i))) := opB0 fun _ _ _ _ _ _ _ q => gt_int q
theorem op_ge : OpR X (compareOp .GtE) (rI0 fun i j => .bl (decide (j ≤ i))) := opB0 fun _ _ _ _ _ _ _ q => ge_int q
theorem op_lt_str : OpR X (compareOp .Lt) (fun x y H Q => ∃ i j, x = .str i ∧ y = .str j ∧ Q (.bl (decide (i.cps.toList < j.cps.toList))) H) := by
  intro pins s σ H x y v u Q I rx ry h
  obtain ⟨i, j, rfl, rfl, q⟩ := h
  obtain ⟨t, rfl⟩ := rx
  obtain ⟨t', rfl⟩ := ry
  exact lt_str (fin_bl I q rfl)
theorem OpR.or {f : Value → Value → Sem Value} {r r' : R2} (h : OpR X f r) (h' : OpR X f r') : OpR X f (fun x y H Q => r x y H Q ∨ r' x y H Q) := by
  intro pins s σ H x y v u Q I rx ry q
  rcases q with q | q
  · exact h pins s σ H x y v u Q I rx ry q
  · exact h' pins s σ H x y v u Q I rx ry q
theorem nomark (b : Expr) {op : CmpOp} (h : op ≠ .In := by decide) (h2 : op ≠ .NotIn := by decide) : behindInMarks op b = false := by
  have e1 : (op == CmpOp.In) = false := by cases op <;> first | rfl | exact absurd rfl h
  have e2 : (op == CmpOp.NotIn) = false := by cases op <;> first | rfl | exact absurd rfl h2
  cases b <;> simp [behindInMarks, e1, e2]
theorem pe_cmpR {op : CmpOp} {r : R2} (ho : OpR X (compareOp op) r) (ha : PE X a ta) (hb : PE X b tb) (hm : behindInMarks op b = false) : PE X (.Compare a [op] [b] pos) (tOp r ta tb) := by
  intro pins s σ H Q I h
  exact wpAny_Compare1 (binT ha hb I h fun v u s2 x y H2 I2 rx ry q => ho pins s2 σ H2 x y v u Q I2 rx ry q) hm
def tTest (t : TE) : TT := fun σ H Q => t σ H fun x H' => ∃ k, x = .bl k ∧ Q k H'
theorem pt_cmpR {op : CmpOp} {r : R2} (ho : OpR X (compareOp op) r) (ha : PE X a ta) (hb : PE X b tb) (hm : behindInMarks op b = false) : PT X (.Compare a [op] [b] pos) (tTest (tOp r ta tb)) := by
  intro pins s σ H Q I h
  refine wpAny_isTrue_Compare1 (thn (ha pins s σ H _ I h) fun v s1 ⟨x, H1, I1, r1, q1⟩ => thn (hb pins s1 σ H1 _ I1 q1) fun u s2 ⟨y, H2, I2, r2, q2⟩ =>
    thn (ho pins s2 σ H2 x y v u _ I2 r1 r2 q2) fun c s3 ⟨z, H3, I3, r3, k, e, q3⟩ => ?_) hm
  subst e
  cases r3
  exact wpAny_truthy_bool ⟨H3, I3, q3⟩
def tChain (r r' : R2) (ta tb tc : TE) : TE := fun σ H Q => ta σ H fun x H1 => tb σ H1 fun y H2 => r x y H2 fun z H3 => ∃ k, z = .bl k ∧
  (if k = true then tc σ H3 fun w' H4 => r' y w' H4 Q else Q (.bl false) H3)
theorem pe_chain {op op' : CmpOp} {r r' : R2} (ho : OpR X (compareOp op) r) (ho' : OpR X (compareOp op') r') (ha : PE X a ta) (hb : PE X b tb) (hc : PE X c tc)
    (hm : lastMarks [op, op'] [b, c] = false := by with_unfolding_all rfl) : PE X (.Compare a [op, op'] [b, c] pos) (tChain r r' ta tb tc) := by
  intro pins s σ H Q I h
  refine Compare_chain (thn (ha pins s σ H _ I h) fun v s1 ⟨x, H1, I1, r1, q1⟩ => chain_link (thn (hb pins s1 σ H1 _ I1 q1) fun u s2 ⟨y, H2, I2, r2, q2⟩ =>
    thn (ho pins s2 σ H2 x y v u _ I2 r1 r2 q2) fun d s3 ⟨z, H3, I3, r3, k, e, q3⟩ => ?_)) hm
  subst e
  cases r3
  refine wpAny_truthy_bool ?_
  cases k with
  | false => exact ite_ff ⟨.bl false, H3, I3, rfl, q3⟩
  | true => exact ite_tt (chain_last (thn (hc pins s3 σ H3 _ I3 q3) fun w' s4 ⟨z', H4, I4, r4, q4⟩ => ho' pins s4 σ H4 y z' u w' Q I4 r2 r4 q4))
def TruV (K : PySem.W.Frag) (x : V) (H : Hp) (k : Bool) : Prop :=
  match x with
  | .non => k = false
  | .bl b => k = b
  | .int i => k = (i != 0)
  | .str y => y.length ≤ sizeLine ∧ k = ((y.length : Int) != 0)
  | .byt y => y.size ≤ sizeLine ∧ k = ((y.size : Int) != 0)
  | .ref p => (∃ xs, SqL K H p xs ∧ k = !xs.isEmpty) ∨ (∃ xs, SqT K H p xs ∧ k = !xs.isEmpty) ∨ ∃ kvs, H p = some (.dK kvs) ∧ k = !kvs.isEmpty
  | _ => False
theorem isEmpty_kv {κ : Type} {kvs : List (κ × V)} {vs : List (κ × Value)} (r : KV kvs vs) : (!vs.isEmpty) = !kvs.isEmpty := by
  cases r <;> rfl
theorem isEmpty_of {xs : List V} {its : List Value} (r : Vals xs its) : (!its.toArray.isEmpty) = !xs.isEmpty := by
  cases r <;> simp
theorem line63 : (sizeLine : Nat) < 2 ^ 63 := by rw [sizeLine_eq]; decide
theorem tru_ok : TruR X (fun x H Q => ∃ k, TruV X.K x H k ∧ Q k H) := by
  intro pins s σ H x v Q I rx h
  obtain ⟨k, e, q⟩ := h
  have hl := line63
  have hs : sizeLine = 16777216 := sizeLine_eq
  cases x with
  | non =>
    cases rx
    have e' : k = false := e
    subst e'
    exact truthy_none ⟨H, I, q⟩
  | bl b =>
    cases rx
    have e' : k = b := e
    subst e'
    exact wpAny_truthy_bool ⟨H, I, q⟩
  | int i =>
    obtain ⟨t, rfl⟩ := rx
    have e' : k = (i != 0) := e
    subst e'
    exact PySem.P.truthy_int ⟨H, I, q⟩
  | str y =>
    obtain ⟨t, rfl⟩ := rx
    obtain ⟨hy, e'⟩ : y.length ≤ sizeLine ∧ k = ((y.length : Int) != 0) := e
    subst e'
    exact PySem.P.truthy_str (by omega) ⟨H, I.tok _, q⟩
  | byt y =>
    obtain ⟨t, rfl⟩ := rx
    obtain ⟨hy, e'⟩ : y.size ≤ sizeLine ∧ k = ((y.size : Int) != 0) := e
    subst e'
    exact PySem.W.truthy_bytes (by omega) ⟨H, I.tok _, q⟩
  | ref p =>
    cases rx
    have e' : (∃ xs, SqL X.K H p xs ∧ k = !xs.isEmpty) ∨ (∃ xs, SqT X.K H p xs ∧ k = !xs.isEmpty) ∨ ∃ kvs, H p = some (.dK kvs) ∧ k = !kvs.isEmpty := e
    rcases e' with ⟨xs, hx, e'⟩ | ⟨xs, hx, e'⟩ | ⟨kvs, hx, e'⟩
    · subst e'
      obtain ⟨its, r, pl, hz⟩ := I.list hx
      have hlen := r.length
      exact wpAny_truthy_list pl.isList (by simp only [List.size_toArray]; omega) ⟨H, I.tok _, by rw [isEmpty_of r]; exact q⟩
    · subst e'
      obtain ⟨its, r, pl, hz⟩ := I.tuple hx
      have hlen := r.length
      exact truthy_tuple pl (by simp only [List.size_toArray]; omega) ⟨H, I.tok _, by rw [isEmpty_of r]; exact q⟩
    · subst e'
      obtain ⟨hz, hS, vs, r, m⟩ : kvs.length ≤ sizeLine ∧ (p == sysModules) = false ∧ ∃ vs, KV kvs vs ∧ s.heap.DictOf (mixKind X.prog X.w) p vs := I.hok p _ hx
      have hlen : kvs.length = vs.length := Paired.length r
      exact wpAny_truthy_dict hS m (by omega) ⟨H, I.tok _, by rw [isEmpty_kv r]; exact q⟩
  | _ => exact (show False from e).elim
theorem pt_truth (ha : PE X a ta) (he : ∀ whole, isTrue a X.env whole = (do let v ← whole; standAt a.pos; holding [v] (truthy v))) :
    PT X a (fun σ H Q => ta σ H fun x H' => ∃ k, TruV X.K x H' k ∧ Q k H') := by
  intro pins s σ H Q I h
  exact isTrue_plain (thn (ha pins s σ H _ I h) fun v s1 ⟨x, H1, I1, r1, q1⟩ => tru_ok pins s1 σ H1 x v Q I1 r1 q1) (he _)
theorem op_add_str : OpR X (binaryOp .Add) (fun x y H Q => ∃ i j, x = .str i ∧ y = .str j ∧ i.length + j.length ≤ sizeLine ∧ Q (.str (i ++ j)) H) := by
  intro pins s σ H x y v u Q I rx ry h
  obtain ⟨i, j, rfl, rfl, hz, q⟩ := h
  obtain ⟨t, rfl⟩ := rx
  obtain ⟨t', rfl⟩ := ry
  exact add_str (fun t' tk => ⟨.str (i ++ j), H, I.tok _, ⟨_, rfl⟩, q⟩) hz
theorem vals1 {x : V} {us : List Value} (r : Vals [x] us) : ∃ u, us = [u] ∧ RelV x u := by
  cases r with
  | cons r1 r2 => cases r2; exact ⟨_, rfl, r1⟩
theorem vals2 {x y : V} {us : List Value} (r : Vals [x, y] us) : ∃ u w', us = [u, w'] ∧ RelV x u ∧ RelV y w' := by
  cases r with
  | cons r1 r2 =>
    cases r2 with
    | cons r3 r4 => cases r4; exact ⟨_, _, rfl, r1, r3⟩
def LenV (K : PySem.W.Frag) (x : V) (H : Hp) (n : Nat) : Prop :=
  match x with
  | .str y => y.length ≤ sizeLine ∧ n = y.length
  | .byt y => y.size ≤ sizeLine ∧ n = y.size
  | .ref p => (∃ xs, SqL K H p xs ∧ n = xs.length) ∨ ∃ xs, SqT K H p xs ∧ n = xs.length
  | _ => False
theorem call_len : CallR X (.builtin "len") (fun xs H Q => ∃ x n, xs = [x] ∧ LenV X.K x H n ∧ Q (.int n) H) := by
  intro pins s σ H xs us Q I r h
  obtain ⟨x, n, rfl, e, q⟩ := h
  obtain ⟨u, rfl, rx⟩ := vals1 r
  have hl := line63
  have hs : sizeLine = 16777216 := sizeLine_eq
  cases x with
  | str y =>
    obtain ⟨t, rfl⟩ := rx
    obtain ⟨hy, e'⟩ : y.length ≤ sizeLine ∧ n = y.length := e
    subst e'
    exact len_str (by omega) ⟨.int _, H, I.tok _, ⟨_, rfl⟩, q⟩
  | byt y =>
    obtain ⟨t, rfl⟩ := rx
    obtain ⟨hy, e'⟩ : y.size ≤ sizeLine ∧ n = y.size := e
    subst e'
    exact PySem.W.len_bytes (by omega) ⟨.int _, H, I.tok _, ⟨_, rfl⟩, q⟩
  | ref p =>
    cases rx
    have e' : (∃ xs, SqL X.K H p xs ∧ n = xs.length) ∨ ∃ xs, SqT X.K H p xs ∧ n = xs.length := e
    rcases e' with ⟨xs, hx, e'⟩ | ⟨xs, hx, e'⟩
    · subst e'
      obtain ⟨its, r', pl, hz⟩ := I.list hx
      have hlen := r'.length
      exact Calls.call_len_list pl.isList (by simp only [List.size_toArray]; omega) ⟨.int xs.length, H, I.tok _, ⟨_, by simp only [List.size_toArray]; rw [hlen]⟩, q⟩
    · subst e'
      obtain ⟨its, r', pl, hz⟩ := I.tuple hx
      have hlen := r'.length
      exact len_tuple pl (by simp only [List.size_toArray]; omega) ⟨.int xs.length, H, I.tok _, ⟨_, by simp only [List.size_toArray]; rw [hlen]⟩, q⟩
  | _ => exact (show False from e).elim
end
end L2
namespace L2
open PySem PySem.Spec PyProof.Rows
structure ObjM (h : Heap) (x dx C : Addr) (mA : Str → Option Value) : Prop where
  obj : h.get? x = some (PySem.W.instObj C dx)
  ns : h.Ns1 dx mA
  ne : dx ≠ x
theorem lookIn_ns {h : Heap} {dx : Addr} {mA : Str → Option Value} (n : h.Ns1 dx mA) : ∃ od, h.get? dx = some od ∧ ∀ name, PySem.W.lookIn name od = some (mA name) := by
  obtain ⟨o, es, ep, ho, hd, hk, _, hm⟩ := n
  refine ⟨o, ho, fun name => ?_⟩
  have e := hm name
  unfold nsFind findBy at e
  rw [← Array.find?_toList] at e
  unfold PySem.W.lookIn
  rw [hd]
  dsimp only
  split
  · rename_i y q
    rw [q] at e
    exact congrArg some e
  · rename_i q
    rw [q] at e
    have a : es.toList.any (·.refKey) = false := by
      rw [List.any_eq_false]
      intro y hy
      obtain ⟨z, t, hkey⟩ := hk y (Array.mem_toList_iff.mp hy)
      simp [DictEntry.refKey, hkey]
    have a' : ¬ es.toList.any (·.refKey) = true := by rw [a]; exact Bool.false_ne_true
    rw [if_neg a']
    exact congrArg some e
theorem ObjM.look {h : Heap} {x dx C : Addr} {mA : Str → Option Value} (I : ObjM h x dx C mA) : ∃ od, PySem.W.InstAt h x (PySem.W.instObj C dx) C (some od) ∧ ∀ name, PySem.W.lookIn name od = some (mA name) :=
  let ⟨od, ho, hl⟩ := lookIn_ns I.ns
  ⟨od, ⟨I.obj, rfl, rfl, ho⟩, hl⟩
section
variable {prog : Program} {w : World} {A : Around} {E : Value → Shared → Prop} {s : Shared} {K : PySem.W.Frag} {x dx C f : Addr} {mA : Str → Option Value} {name : Str} {v : Value}
end
section
variable {P : Program} {w : World} {H H' : Hp} {h h' : Heap} {a C dx : Addr} {fs fs' : List (Str × V)}
theorem ins_get (hok : HOk P w H h) (e : H a = some (.ins C dx fs)) : ∃ mA, ObjM h a dx C mA ∧ (∀ f, RelO (fs.lookup f) (mA f)) ∧ PySem.Within mA (fs.map (·.1)) ∧ fs.length ≤ 1000 ∧ H dx = some (.own a) := by
  obtain ⟨d, z, ne, ob, mA, n, r, q⟩ := (show ObjOk P w H h a (.ins C dx fs) from hok a _ e)
  exact ⟨mA, ⟨ob, n, ne⟩, r, q, z, d⟩
end
structure Cls (K : PySem.W.Frag) (C : Addr) : Prop where
  pg : PySem.W.plainGet K C Str.empty = true
  hd : PySem.W.hasDictIn K C = true
  po : PySem.W.plainOver K C = true
  sa : PySem.W.findIn K (.ref C) "__setattr__" = some (some (.builtin "object.__setattr__"))
theorem Cls.get {K : PySem.W.Frag} {C : Addr} (c : Cls K C) (f : Str) : PySem.W.plainGet K C f = true := c.pg
structure Con (K : PySem.W.Frag) (C : Addr) (f : Str) (v : V) (u : Value) : Prop where
  at_ : PySem.W.findIn K (.ref C) f = some (some u)
  rel : RelV v u
  get : PySem.W.specialIn K u "__get__" = some none
  cp : PySem.W.copiedNames.contains f = false
structure Meth (K : PySem.W.Frag) (C : Addr) (m : Str) (f : Addr) : Prop where
  at_ : PySem.W.findIn K (.ref C) m = some (some (.ref f))
  fn : PySem.W.isFn K (.ref f) = true
  kp : PySem.W.keepIn K (.ref f) = true
section
variable {X : Cx} {pins : List (Addr × Obj)} {σ : St} {H : Hp} {s : Shared} {a C dx : Addr} {fs : List (Str × V)} {f : Str} {v : V} {A : Around} {E : Value → Shared → Prop}
end
section
variable {X : Cx} {o e value : Expr} {f : Str} {pos pos' tpos : Pos} {ta tv : TE}
end
section
variable {X : Cx} {pins : List (Addr × Obj)} {σ : St} {H : Hp} {s : Shared} {A : Around} {E : Value → Shared → Prop} {Q : Value → Shared → Prop} {c : Value} {b : Bool}
inductive TyOf (K : PySem.W.Frag) (H : Hp) : V → Value → Prop where
  | non : TyOf K H .non (.type "NoneType")
  | bl (x : Bool) : TyOf K H (.bl x) (.type "bool")
  | int (i : Int) : TyOf K H (.int i) (.type "int")
  | str (x : Str) : TyOf K H (.str x) (.type "str")
  | flt (x : UInt64) : TyOf K H (.flt x) (.type "float")
  | lst {a : Addr} {xs : List V} (e : H a = some (.lst xs)) : TyOf K H (.ref a) (.type "list")
  | frz {a : Addr} {o : Obj} {xs : List V} (e : H a = some (.frz o (.lst xs))) : TyOf K H (.ref a) (.type "list")
  | tup {a : Addr} {xs : List V} (e : H a = some (.tup xs)) : TyOf K H (.ref a) (.type "tuple")
  | dK {a : Addr} {kvs : List (Key × V)} (e : H a = some (.dK kvs)) : TyOf K H (.ref a) (.type "dict")
  | dT {a : Addr} {kvs : List (List Key × V)} (e : H a = some (.dT kvs)) : TyOf K H (.ref a) (.type "dict")
  | ins {a C dx : Addr} {fs : List (Str × V)} (e : H a = some (.ins C dx fs)) (cl : Cls K C) (ha : PySem.W.findIn K (.ref C) "__class__" = some (some (.builtin "object.__class__")))
      (hn : PySem.W.specialIn K (.builtin "object.__class__") "__get__" = some (some (.builtin "getset_descriptor.__get__"))) (htk : PySem.W.takesIn K (.builtin "object.__class__") = some true)
      (hm : PySem.W.mroIn K C (.type "object") = some true) : TyOf K H (.ref a) (.ref C)
theorem isinst_ok {x : V} {u t : Value} (I : Inv X pins σ H s) (rx : RelV x u) (ty : TyOf X.K H x t) (e : PySem.W.kitOne X.K t c = some b) (h : ∀ tk, Q (.bool b) { s with toks := tk }) :
    wpAny (model X.prog X.w) A (call (.builtin "isinstance") [u, c]) Q E s := by
  cases ty with
  | non => cases (show u = Value.none from rx); exact PySem.W.kia_one PySem.W.kitx_none I.kIn True.intro e (fun z => nomatch z) h
  | bl y => cases (show u = Value.bool y from rx); exact PySem.W.kia_one PySem.W.kitx_bool I.kIn True.intro e (fun z => nomatch z) h
  | int i => obtain ⟨t, q⟩ := (show ∃ t, u = Value.int i t from rx); cases q; exact PySem.W.kia_one PySem.W.kitx_int I.kIn True.intro e (fun z => nomatch z) h
  | str y => obtain ⟨t, q⟩ := (show ∃ t, u = Value.str y t from rx); cases q; exact PySem.W.kia_one PySem.W.kitx_str I.kIn True.intro e (fun z => nomatch z) h
  | flt y => obtain ⟨t, q⟩ := (show ∃ t, u = Value.float y t from rx); cases q; exact PySem.W.kia_one PySem.W.kitx_float I.kIn True.intro e (fun z => nomatch z) h
  | @lst a xs ea =>
    cases (show u = Value.ref a from rx)
    obtain ⟨_, _, n, _, h1⟩ := (show ObjOk X.prog X.w H s.heap a (.lst xs) from I.hok a _ ea)
    exact PySem.W.kia_one PySem.W.kitx_list I.kIn ⟨_, h1, rfl⟩ e (fun z => nomatch z) h
  | @frz a ob xs ea =>
    cases (show u = Value.ref a from rx)
    obtain ⟨_, _, _, n, _, h1⟩ := (show ObjOk X.prog X.w H s.heap a (.frz ob (.lst xs)) from I.hok a _ ea)
    exact PySem.W.kia_one PySem.W.kitx_list I.kIn ⟨_, h1, rfl⟩ e (fun z => nomatch z) h
  | @tup a xs ea =>
    cases (show u = Value.ref a from rx)
    obtain ⟨_, _, _, p⟩ := (show ObjOk X.prog X.w H s.heap a (.tup xs) from I.hok a _ ea)
    obtain ⟨o, h1, h2, _⟩ := p
    exact PySem.W.kia_one PySem.W.kitx_tuple I.kIn ⟨o, h1, h2.1⟩ e (fun z => nomatch z) h
  | @dK a kvs ea =>
    cases (show u = Value.ref a from rx)
    obtain ⟨_, _, vs, _, p⟩ := (show ObjOk X.prog X.w H s.heap a (.dK kvs) from I.hok a _ ea)
    obtain ⟨o, es, ep, h1, h2, _⟩ := p
    exact PySem.W.kia_one PySem.W.kitx_dict I.kIn ⟨o, h1, h2.1⟩ e (fun z => nomatch z) h
  | @dT a kvs ea =>
    cases (show u = Value.ref a from rx)
    obtain ⟨_, _, xs, _, o, es, ep, h1, h2, _⟩ := (show ObjOk X.prog X.w H s.heap a (.dT kvs) from I.hok a _ ea)
    exact PySem.W.kia_one PySem.W.kitx_dict I.kIn ⟨o, h1, h2.1⟩ e (fun z => nomatch z) h
  | @ins a C dx fs ea cl ha hn htk hm =>
    cases (show u = Value.ref a from rx)
    obtain ⟨mA, O, _⟩ := ins_get I.hok ea
    obtain ⟨od, J, _⟩ := O.look
    exact PySem.W.kia_one (PySem.W.kitx_own (cl.get _) cl.hd ha hn htk hm) I.kIn J e (fun z => nomatch z) h
end
end L2
namespace L2
open PySem PySem.Spec PyProof.Rows
structure Room (k : Nat) (A : Around) : Prop where
  hd : A.handled = none
  dp : A.depth + 3 * k + 5 < recursionLimit
  un : A.units + 16 * k + 200 < cLine
  gd : A.guards = some []
theorem Room.mono {j k : Nat} {A : Around} (r : Room k A) (h : j ≤ k) : Room j A := ⟨r.hd, by have := r.dp; omega, by have := r.un; omega, r.gd⟩
theorem Room.deeper {k : Nat} {A : Around} (r : Room (k + 1) A) (env : Env) : Room k (A.deeper env) :=
  ⟨r.hd, by have := r.dp; show A.depth + 1 + 3 * k + 5 < _; omega, by have := r.un; show A.units + 3 + 16 * k + 200 < _; omega, r.gd⟩
theorem Room.in1 {k : Nat} {A : Around} (r : Room (k + 1) A) : Room k A.in1 :=
  ⟨r.hd, by have := r.dp; show A.depth + 3 * k + 5 < _; omega, by have := r.un; show A.units + 1 + 16 * k + 200 < _; omega, r.gd⟩
theorem Room.depth {k : Nat} {A : Around} (r : Room k A) : A.depth < recursionLimit := by have := r.dp; omega
theorem Room.units {k : Nat} {A : Around} (r : Room k A) : A.units + 64 < cLine := by have := r.un; omega
def tNil : TA := fun _ H Q => Q [] H
def tCons (ta : TE) (tr : TA) : TA := fun σ H Q => ta σ H fun x H1 => tr σ H1 fun xs H2 => Q (x :: xs) H2
section
variable {X : Cx} {e : Expr} {es : List Expr} {te : TE} {t : TA} {pos : Pos}
theorem pa_nil : PA X [] tNil := fun _ _ _ _ H Q I h => Calls.spliced_nil ⟨[], H, I, .nil, h⟩
theorem pa_cons (ha : PE X e te) (hr : PA X es t) (hs : starEach (e :: es) X.env = (false, eval e X.env) :: starEach es X.env := by rfl) : PA X (e :: es) (tCons te t) := by
  intro pos pins s σ H Q I h
  rw [hs]
  show wpAny _ _ (spliced ((false, eval e X.env) :: backTo pos (starEach es X.env))) _ _ s
  refine Calls.spliced_cons (thn (ha pins s σ H _ I h) fun u s1 ⟨x, H1, I1, r1, q1⟩ => ?_)
  exact thn (hr pos pins s1 σ H1 _ I1 q1) fun us s2 ⟨xs, H2, I2, r2, q2⟩ => ⟨x :: xs, H2, I2, .cons r1 r2, q2⟩
def tTup (t : TA) : TE := fun σ H Q => t σ H fun xs H1 => xs.length ≤ sizeLine ∧ ∀ p, H1 p = none → Q (.ref p) (upd H1 p (.tup xs))
def tLst (t : TA) : TE := fun σ H Q => t σ H fun xs H1 => xs.length ≤ sizeLine ∧ ∀ p, H1 p = none → Q (.ref p) (upd H1 p (.lst xs))
theorem pe_tup {x1} (h : PA X es t) : PE X (.Tuple es x1 pos) (tTup t) := by
  intro pins s σ H Q I hq
  refine wpAny_Tuple_spliced (thn (h pos pins s σ H _ I hq) fun us s1 ⟨xs, H1, I1, r, z, q⟩ => ⟨by rw [← r.length]; exact z, ?_⟩)
  have hf : H1 s1.heap.objs.size = none := I1.hok.fresh (Nat.le_refl _)
  refine ⟨.ref s1.heap.objs.size, upd H1 s1.heap.objs.size (.tup xs), I1.laid (t' := s1.toks) (fun b u e => Heap.get?_push_of_some _ e) (Nat.le_refl _) ?_, rfl, q _ hf⟩
  exact ⟨z, us, r, ⟨_, Heap.get?_push_size _ rfl, ⟨rfl, rfl⟩, _, rfl⟩⟩
theorem pe_lst (h : PA X es t) : PE X (.List es pos) (tLst t) := by
  intro pins s σ H Q I hq
  refine wpAny_List_spliced (thn (h pos pins s σ H _ I hq) fun us s1 ⟨xs, H1, I1, r, z, q⟩ => ⟨by rw [← r.length]; exact z, ?_⟩)
  have hf : H1 s1.heap.objs.size = none := I1.hok.fresh (Nat.le_refl _)
  refine ⟨.ref s1.heap.objs.size, upd H1 s1.heap.objs.size (.lst xs), I1.laid (t' := s1.toks) (fun b u e => Heap.get?_push_of_some _ e) (Nat.le_refl _) ?_, rfl, q _ hf⟩
  exact ⟨z, us, 0, r, Heap.get?_push_size _ rfl⟩
end
abbrev Sp := List V → Hp → VK → XK → Prop
abbrev CXT := List Env → Hp → Shared → XK → Value → Shared → Prop
structure Env0 (P : Program) (w : World) (K : PySem.W.Frag) (mg : Str → Option Value) (base : Heap) (A : Around) (outer : List Env) (s : Shared) (H : Hp) : Prop where
  frames : A.frames = some outer
  mod : Mod K mg base
  bs : ∀ b o, base.get? b = some o → s.heap.get? b = some o ∧ H b = none
  bsz : base.objs.size ≤ s.heap.objs.size
  funs : s.heap.FunFrames base outer
  frf : ∀ b ∈ frs outer, H b = none
  hok : HOk P w H s.heap
  bare : AllBare s.gens
def CE (outer : List Env) (P : Program) (w : World) (H : Hp) (s : Shared) (Q : VK) (u : Value) (s' : Shared) : Prop :=
  ∃ v H', s'.os = s.os ∧ AllBare s'.gens ∧ Un (frs outer) [] H H' s.heap s'.heap ∧ HOk P w H' s'.heap ∧ RelV v u ∧ Q v H'
def CR (CX : CXT) (outer : List Env) (P : Program) (w : World) (H : Hp) (s : Shared) (Q : VK) (E : XK) (r : Result) (s' : Shared) : Prop :=
  match r with
  | .ok (.ret u) => CE outer P w H s Q u s'
  | .ok _ => False
  | .error e => CX outer H s E e s'
structure FnOk (P : Program) (w : World) (K : PySem.W.Frag) (mg : Str → Option Value) (base : Heap) (CX : CXT) (k : Nat) (f : Addr) (fd : FuncData) (ps : List Str) (sp : Sp) : Prop where
  len : ∀ vs H Q E, sp vs H Q E → vs.length = ps.length
  run : ∀ (A : Around) (outer : List Env) (s : Shared) (H : Hp) (args : Args) (us : List Value) (vs : List V) (Q : VK) (E : XK), Room k A → Env0 P w K mg base A outer s H → BindsTo s fd args (ps.zip us) → Vals vs us → sp vs H Q E →
    codeAny (model P w) A (.call (.ref f) args) (CR CX outer P w H s Q E) s
theorem FnOk.mono {P : Program} {w : World} {K : PySem.W.Frag} {mg : Str → Option Value} {base : Heap} {CX : CXT} {j k : Nat} {f : Addr} {fd : FuncData} {ps : List Str} {sp : Sp} (F : FnOk P w K mg base CX j f fd ps sp) (h : j ≤ k) :
    FnOk P w K mg base CX k f fd ps sp := ⟨F.len, fun A outer s H args us vs Q E hr => F.run A outer s H args us vs Q E (hr.mono h)⟩
theorem FnOk.imp {P : Program} {w : World} {K : PySem.W.Frag} {mg : Str → Option Value} {base : Heap} {CX : CXT} {k : Nat} {f : Addr} {fd : FuncData} {ps : List Str} {sp sp' : Sp} (F : FnOk P w K mg base CX k f fd ps sp)
    (h : ∀ vs H Q E, sp' vs H Q E → sp vs H Q E) : FnOk P w K mg base CX k f fd ps sp' :=
  ⟨fun vs H Q E q => F.len vs H Q E (h _ _ _ _ q), fun A outer s H args us vs Q E hr he hb hv hs => F.run A outer s H args us vs Q E hr he hb hv (h _ _ _ _ hs)⟩
theorem Env0.in1 {P : Program} {w : World} {K : PySem.W.Frag} {mg : Str → Option Value} {base : Heap} {A : Around} {outer : List Env} {s : Shared} {H : Hp} (e : Env0 P w K mg base A outer s H) :
    Env0 P w K mg base A.in1 outer s H := ⟨e.frames, e.mod, e.bs, e.bsz, e.funs, e.frf, e.hok, e.bare⟩
section
variable {X : Cx} {pins : List (Addr × Obj)} {σ : St} {H : Hp} {s s' : Shared}
theorem Inv.env0 (I : Inv X pins σ H s) : Env0 X.prog X.w X.K X.mg X.base X.A X.stack s H :=
  ⟨I.ok.frames, I.ok.mod, I.bs, Nat.le_trans I.ok.bsz I.sz, I.stack, I.stkFree, I.hok, I.bare⟩
theorem Inv.after {Q : VK} {u : Value} (I : Inv X pins σ H s) (h : CE X.stack X.prog X.w H s Q u s') : EP X pins σ Q u s' := by
  obtain ⟨v, H', os, bare, un, hok, r, q⟩ := h
  obtain ⟨hh, g, d, t, os'⟩ := s'
  obtain rfl : os' = s.os := os
  exact ⟨v, H', I.call (h' := hh) (g' := g) (d' := d) (t' := t) (ch := []) un hok bare (fun b z => absurd z (by simp)), r, q⟩
end
def tCall (sp : Sp) (dvs : List V) (E : XK) (t : TA) : TE := fun σ H Q => t σ H fun vs H1 => sp (vs ++ dvs) H1 Q E
def Binds (K : PySem.W.Frag) (fd : FuncData) (ps : List Str) (ds : List Value) : Prop :=
  ∀ (s : Shared) (us : List Value), K.In s.heap → (us ++ ds).length = ps.length → BindsTo s fd ⟨us, []⟩ (ps.zip (us ++ ds))
theorem Binds.all {K : PySem.W.Frag} {fd : FuncData} {ps : List Str} (h : ∀ us : List Value, us.length = ps.length → bindArgs fd ⟨us, []⟩ = pure (ps.zip us)) : Binds K fd ps [] := fun s us _ hl => by
  rw [List.append_nil] at hl ⊢
  exact .of_eq (h us hl)
def Passes (CX : CXT) (X : Cx) (E : XK) : Prop := ∀ (pins : List (Addr × Obj)) (σ : St) (H : Hp) (s : Shared) (e : Value) (s' : Shared), Inv X pins σ H s → CX X.stack H s E e s' → X.xe e s'
section
variable {X : Cx} {CX : CXT} {k : Nat} {f C : Addr} {fd : FuncData} {ps : List Str} {sp : Sp} {dvs : List V} {ds : List Value} {E : XK} {x m : Str} {p pos apos : Pos} {e o : Expr} {es : List Expr} {ta : TE} {t : TA}
theorem run_fn {pins : List (Addr × Obj)} {σ : St} {H : Hp} {s : Shared} {Q : VK} {us : List Value} {vs : List V} (F : FnOk X.prog X.w X.K X.mg X.base CX k f fd ps sp) (hr : Room k X.A) (hb : Binds X.K fd ps ds) (hd : Vals dvs ds) (hx : Passes CX X E)
    (I : Inv X pins σ H s) (r : Vals vs us) (h : sp (vs ++ dvs) H Q E) : wpAny (model X.prog X.w) X.A (call (.ref f) us) (EP X pins σ Q) X.xe s := by
  have r2 : Vals (vs ++ dvs) (us ++ ds) := r.append hd
  have hl : (us ++ ds).length = ps.length := by rw [← r2.length]; exact F.len _ _ _ _ h
  refine wpAny_call (codeAny_mono (F.run X.A X.stack s H ⟨us, []⟩ (us ++ ds) (vs ++ dvs) Q E hr I.env0 (hb s us I.kIn hl) r2 h) fun r s' hq => ?_)
  cases r with
  | error e => exact hx pins σ H s e s' I hq
  | ok fl =>
    cases fl with
    | ret u => exact I.after hq
    | next => exact False.elim hq
    | brk => exact False.elim hq
    | cont => exact False.elim hq
theorem pe_call (F : FnOk X.prog X.w X.K X.mg X.base CX k f fd ps sp) (hr : Room k X.A) (hg : Gl X x) (hm : X.mg x = some (.ref f)) (hk : PySem.W.keepIn X.K (.ref f) = true) (hb : Binds X.K fd ps ds) (hd : Vals dvs ds) (hx : Passes CX X E)
    (ha : PA X (e :: es) t) (hdb : (x == ("__debug__" : Str)) = false := by decide) (he : starEach (e :: es) X.env = (false, eval e X.env) :: starEach es X.env := by rfl) (hpl : (backTo pos (starEach es X.env)).any (·.1) = false := by rfl) :
    PE X (.Call (.Name x p) (e :: es) [] pos) (tCall sp dvs E t) := by
  intro pins s σ H Q I h
  refine wpAny_Call_Name_kw (ld_glob I hg hm ?_ hdb)
  refine PySem.W.callWith_K (h₀ := X.base) I.ok.mod.kin hk (thn (ha pos pins s σ H _ I h) fun us s1 ⟨vs, H1, I1, r, q⟩ => ⟨I1.kIn, ?_⟩) he hpl
  exact run_fn F hr hb hd hx I1 r q
structure Mk (K : PySem.W.Frag) (C f : Addr) : Prop where
  makes : PySem.W.makesIn K C = true
  init : PySem.W.findIn K (.ref C) "__init__" = some (some (.ref f))
  fn : PySem.W.isFn K (.ref f) = true
  kp : PySem.W.keepIn K (.ref C) = true
end
def PK (X : Cx) (kws : List Keyword) (t : TA) : Prop :=
  ∀ (pos : Pos) (pins : List (Addr × Obj)) (s : Shared) (σ : St) (H : Hp) (Q : List V → Hp → Prop), Inv X pins σ H s → t σ H Q → wpAny (model X.prog X.w) X.A (evalAll ((backToKw pos (keywordEach kws X.env)).map (·.2))) (AP X pins σ Q) X.xe s
section
variable {X : Cx} {CX : CXT} {k : Nat} {f C : Addr} {fd : FuncData} {ps ks : List Str} {sp : Sp} {E : XK} {x m : Str} {p pos apos kpos : Pos} {e o : Expr} {es : List Expr} {kws : List Keyword} {te ta : TE} {t tk : TA} {nm : Option Str}
structure KBinds (K : PySem.W.Frag) (fd : FuncData) (ps ks : List Str) (g : List Value → List Value → List Value) (gV : List V → List V → List V) : Prop where
  to : ∀ (s : Shared) (us ws : List Value), K.In s.heap → (g us ws).length = ps.length → BindsTo s fd ⟨us, ks.zip ws⟩ (ps.zip (g us ws))
  rel : ∀ {vs : List V} {us : List Value} {zs : List V} {ws : List Value}, Vals vs us → Vals zs ws → Vals (gV vs zs) (g us ws)
variable {g : List Value → List Value → List Value} {gV : List V → List V → List V}
end
structure FnScope (N P : List Str) (sc : Scope) : Prop where
  kind : sc.kind = .function
  co : sc.isCoroutine = false
  gen : sc.isGenerator = false
  nd : N.Nodup
  pre : N.take P.length = P
  par : ∀ x ∈ P, sc.names.lookup x = some .local ∨ sc.names.lookup x = some .cell
  nofree : ∀ y ∈ sc.names, y.2 ≠ .free
theorem bindL_out {kindOf : Str → Option NameKind} {x : Str} : ∀ {binds : List (Str × Value)} {m : Str → Option Value}, (∀ v, (x, v) ∉ binds) → bindL kindOf binds m x = m x
  | [], _, _ => rfl
  | (n, v) :: r, m, h => by
    unfold bindL
    rw [bindL_out fun w hw => h w (List.mem_cons_of_mem _ hw)]
    split
    · have : x ≠ n := by rintro rfl; exact h v List.mem_cons_self
      simp [this]
    · rfl
theorem bindC_out {kindOf : Str → Option NameKind} {x : Str} : ∀ {binds : List (Str × Value)} {m : Str → Option Value}, (∀ v, (x, v) ∉ binds) → bindC kindOf binds m x = m x
  | [], _, _ => rfl
  | (n, v) :: r, m, h => by
    unfold bindC
    rw [bindC_out fun w hw => h w (List.mem_cons_of_mem _ hw)]
    split
    · rfl
    · have : x ≠ n := by rintro rfl; exact h v List.mem_cons_self
      simp [this]
theorem bindL_get {kindOf : Str → Option NameKind} {x : Str} {v : Value} : ∀ {P : List Str} {vs : List Value} {i : Nat} {m : Str → Option Value}, P.Nodup → P[i]? = some x → vs[i]? = some v → kindOf x = some .local →
    bindL kindOf (P.zip vs) m x = some v
  | [], _, _, _, _, h, _, _ => by simp at h
  | _ :: _, [], _, _, _, _, h, _ => by simp at h
  | p :: P, w :: vs, 0, m, nd, h1, h2, hk => by
    simp at h1 h2; subst h1; subst h2
    show bindL kindOf ((p, w) :: P.zip vs) m p = _
    unfold bindL
    rw [bindL_out fun v hv => (List.nodup_cons.mp nd).1 (List.of_mem_zip hv).1, if_pos hk]
    simp
  | p :: P, w :: vs, i + 1, m, nd, h1, h2, hk => by
    show bindL kindOf ((p, w) :: P.zip vs) m x = _
    unfold bindL
    exact bindL_get (i := i) (List.nodup_cons.mp nd).2 (by simpa using h1) (by simpa using h2) hk
theorem bindC_get {kindOf : Str → Option NameKind} {x : Str} {v : Value} : ∀ {P : List Str} {vs : List Value} {i : Nat} {m : Str → Option Value}, P.Nodup → P[i]? = some x → vs[i]? = some v → kindOf x ≠ some .local →
    bindC kindOf (P.zip vs) m x = some v
  | [], _, _, _, _, h, _, _ => by simp at h
  | _ :: _, [], _, _, _, _, h, _ => by simp at h
  | p :: P, w :: vs, 0, m, nd, h1, h2, hk => by
    simp at h1 h2; subst h1; subst h2
    show bindC kindOf ((p, w) :: P.zip vs) m p = _
    unfold bindC
    rw [bindC_out fun v hv => (List.nodup_cons.mp nd).1 (List.of_mem_zip hv).1, if_neg hk]
    simp
  | p :: P, w :: vs, i + 1, m, nd, h1, h2, hk => by
    show bindC kindOf ((p, w) :: P.zip vs) m x = _
    unfold bindC
    exact bindC_get (i := i) (List.nodup_cons.mp nd).2 (by simpa using h1) (by simpa using h2) hk
def start (N : List Str) (vs : List V) : St := vs.map some ++ List.replicate (N.length - vs.length) none
def cxOf (CX : CXT) (P : Program) (w : World) (K : PySem.W.Frag) (mg : Str → Option Value) (base : Heap) (N : List Str) (qual : Str) (scope : Scope) (f : Addr) (cd : Value) (A : Around) (outer : List Env) (s : Shared) (H : Hp) (E : XK) : Cx where
  prog := P
  w := w
  K := K
  mg := mg
  base := base
  A := A.deeper (envOfC qual scope s.heap.objs.size f cd)
  N := N
  s₀ := s
  H₀ := H
  env := envOfC qual scope s.heap.objs.size f cd
  outer := outer
  stack := envOfC qual scope s.heap.objs.size f cd :: outer
  ex := []
  calm := true
  fn := fun _ => true
  pn := []
  xe := fun e s' => wpAny (model P w) (A.deeper (envOfC qual scope s.heap.objs.size f cd)) (leaving (envOfC qual scope s.heap.objs.size f cd) e) (fun _ s'' => CX outer H s E e s'') (fun e' s'' => CX outer H s E e' s'') s'
theorem cell_has {sc : Scope} {n : Nat} {x : Str} (h : sc.names.lookup x = some .cell) : ∃ c, (cellsFrom n sc.names []).lookup x = some c := by
  have q := PySem.W.cellsFrom_some sc.names n [] (.inl h)
  exact Option.isSome_iff_exists.mp q
theorem inv_start {CX : CXT} {P : Program} {w : World} {K : PySem.W.Frag} {mg : Str → Option Value} {base : Heap} {N ps : List Str} {qual : Str} {scope : Scope} {f : Addr} {cd : Value} {A : Around} {outer : List Env} {s s1 : Shared} {H : Hp} {E : XK} {us : List Value} {vs : List V}
    (S : FnScope N ps scope) (hd : A.handled = none) (e0 : Env0 P w K mg base A outer s H) (hl : vs.length = ps.length) (r : Vals vs us)
    (x : InCallC s s.heap.objs.size (bindL (envOfC qual scope s.heap.objs.size f cd).kindOf (ps.zip us) fun _ => none) (cellsFrom (s.heap.objs.size + 1) scope.names []) (bindC (envOfC qual scope s.heap.objs.size f cd).kindOf (ps.zip us) fun _ => none) s1) :
    Inv (cxOf CX P w K mg base N qual scope f cd A outer s H E) [] (start N vs) H s1 := by
  have hpl : ps.length ≤ N.length := by have := congrArg List.length S.pre; rw [List.length_take] at this; omega
  obtain ⟨h1, tk, rfl, hk⟩ := x.done
  have noA : ∀ b : Addr, b ∉ (cxOf CX P w K mg base N qual scope f cd A outer s H E).ex := fun b z => absurd (show b ∈ ([] : List Addr) from z) (by simp)
  refine ⟨⟨e0.mod, S.kind, rfl, rfl, Nat.le_refl _, fun y z c h1 h2 => ?_, fun y hy => ?_, fun y c _ h => ?_, fun _ => hd, Around.frames_deeper e0.frames, .inr ⟨rfl, rfl⟩, fun b z => absurd z (noA b), e0.bs, e0.bsz, fun b _ _ => noA b, fun b z => absurd z (noA b), e0.funs, e0.frf⟩,
    rfl, e0.bare, Un.kept hk, ⟨_, x.toInCall.ns, fun i y v h1 h2 h3 => ?_⟩, fun y c h => ⟨_, x.cell y c h⟩, e0.hok.fresh (Nat.le_refl _), fun y c h => ?_, fun p hp => absurd (show p ∈ ([] : List (Addr × Obj)) from hp) (by simp), e0.hok.kept hk, ?_⟩
  · exact name_of_addr x.apart (PySem.mem_of_lookup h1) (PySem.mem_of_lookup h2)
  · have hy : scope.names.lookup y = some .cell ∨ scope.names.lookup y = some .free := hy
    rcases hy with hy | hy
    · exact cell_has hy
    · exact absurd rfl (S.nofree _ (PySem.mem_of_lookup hy))
  · exact Nat.le_of_lt (x.above y c (PySem.mem_of_lookup h))
  · have hi : i < vs.length := by
      unfold start at h2
      by_cases hi : i < vs.length
      · exact hi
      · rw [List.getElem?_append_right (by simpa using hi)] at h2
        rw [List.getElem?_replicate] at h2
        split at h2 <;> cases h2
    have ha : vs[i]? = some v := by
      unfold start at h2
      rw [List.getElem?_append_left (by simpa using hi), List.getElem?_map] at h2
      cases e : vs[i]? with
      | none => rw [e] at h2; cases h2
      | some a => rw [e] at h2; cases h2; rfl
    obtain ⟨u, hu, rv⟩ := r.get ha
    have hp : ps[i]? = some y := by
      rw [← S.pre, List.getElem?_take_of_lt (by omega)]; exact h1
    have ndP : ps.Nodup := by rw [← S.pre]; exact S.nd.sublist (List.take_sublist _ _)
    refine ⟨u, rv, ?_⟩
    rcases S.par y (List.mem_of_getElem? hp) with k | k
    · exact .inl ⟨k, bindL_get ndP hp hu k⟩
    · obtain ⟨c, e⟩ := cell_has (n := s.heap.objs.size + 1) k
      refine .inr ⟨.inl k, c, e, ?_⟩
      have q := x.cell y c e
      rw [bindC_get ndP hp hu (by show scope.names.lookup y ≠ _; rw [k]; decide)] at q
      exact q
  · exact e0.hok.fresh (Nat.le_of_lt (x.above y c (PySem.mem_of_lookup h)))
  · unfold start
    show _ = N.length
    rw [List.length_append, List.length_map, List.length_replicate]
    omega
theorem fn_of {CX : CXT} {P : Program} {w : World} {K : PySem.W.Frag} {mg : Str → Option Value} {base : Heap} {k : Nat} {f : Addr} {name qual : Str} {params : Arguments} {body : List Stmt} {scope : Scope} {dV kV doc pm cdv ct oc : Value} {an od : Option Addr}
    {osl : Array (Option Value)} {N ps : List Str} {sp : Sp} (lk : K.lookup f = some ⟨oc, od, .func (PySem.W.fnOf name qual params body scope dV kV doc pm an cdv ct), osl⟩) (hcd : PySem.W.codeIn K cdv qual = true) (S : FnScope N ps scope)
    (len : ∀ vs H Q E, sp vs H Q E → vs.length = ps.length)
    (hbody : ∀ (A : Around) (outer : List Env) (s : Shared) (H : Hp) (vs : List V) (Q : VK) (E : XK), Room k (A.deeper (envOfC qual scope s.heap.objs.size f cdv)) → sp vs H Q E →
      ∃ t, PSs (cxOf CX P w K mg base N qual scope f cdv A outer s H E) body t ∧ t { nx := fun _ H' => Q .non H', rt := Q } (start N vs) H) :
    FnOk P w K mg base CX (k + 1) f (PySem.W.fnOf name qual params body scope dV kV doc pm an cdv ct) ps sp := by
  refine ⟨len, fun A outer s H args us vs Q E hr e0 hb r hsp => ?_⟩
  have hl := len _ _ _ _ hsp
  have KX : K.In s.heap := e0.mod.kin.keeps fun b o e => (e0.bs b o e).1
  have lim : s.heap.NoLimit := e0.mod.nolimit.keeps fun b o e => (e0.bs b o e).1
  have hkind : ∀ y ∈ ps.zip us, scope.names.lookup y.1 = some .local ∨ (scope.names.lookup y.1 = some .cell ∧ ((cellsFrom (s.heap.objs.size + 1) scope.names []).lookup y.1).isSome = true) := fun ⟨n, v⟩ hy => by
    rcases S.par n (List.of_mem_zip hy).1 with q | q
    · exact .inl q
    · exact .inr ⟨q, PySem.W.cellsFrom_some _ _ _ (.inl q)⟩
  refine codeAny_call_function hr.depth (KX _ _ lk) rfl S.co S.gen rfl (PySem.W.codeRec_of KX hcd) (hb _ _ _ _ ?_)
  refine wpAny_newFunctionEnv_cells S.kind hkind fun env he s1 x => ?_
  subst he
  refine ⟨lim.keeps x.toInCall.keep, codeAny_func ?_⟩
  obtain ⟨t, ht, hq⟩ := hbody A outer s H vs Q E (hr.deeper _) hsp
  have I : Inv (cxOf CX P w K mg base N qual scope f cdv A outer s H E) [] (start N vs) H s1 := inv_start S hr.hd e0 hl r x
  refine wpAny_mono (ht [] s1 (start N vs) H _ I hq) (fun fl s' hs => ?_) fun e s' hs => hs
  have fin : ∀ {σ' : St} {H' : Hp} {v : V} {u : Value}, Inv (cxOf CX P w K mg base N qual scope f cdv A outer s H E) [] σ' H' s' → RelV v u → Q v H' → CE outer P w H s Q u s' :=
    fun {σ' H' v u} J rv q => ⟨v, H', J.os, J.bare, J.base, J.hok, rv, q⟩
  cases fl with
  | ret u =>
    obtain ⟨v, σ', H', J, rv, q⟩ := hs
    exact fin J rv q
  | next =>
    obtain ⟨σ', H', J, q⟩ := hs
    exact fin (v := V.non) (u := Value.none) J rfl q
  | brk =>
    obtain ⟨_, _, _, q⟩ := hs
    exact False.elim q
  | cont =>
    obtain ⟨_, _, _, q⟩ := hs
    exact False.elim q
end L2
namespace L2
open PySem PySem.Spec PyProof.Rows
section
variable {X : Cx} {x : Str} {p pos : Pos} {e : Expr} {es : List Expr} {t : TA} {id T : String} {r : List V → Hp → VK → Prop}
def tCB (r : List V → Hp → VK → Prop) (t : TA) : TE := fun σ H Q => t σ H fun vs H1 => r vs H1 Q
theorem pe_callB (hc : CallR X (.builtin id) r) (hg : Gl X x) (hm : X.mg x = none) (hv : bootBuiltins x = some (.builtin id)) (ha : PA X (e :: es) t) (hn : x ≠ "__name__" := by decide) (hdb : (x == ("__debug__" : Str)) = false := by decide)
    (he : starEach (e :: es) X.env = (false, eval e X.env) :: starEach es X.env := by rfl) (hpl : (backTo pos (starEach es X.env)).any (·.1) = false := by rfl) : PE X (.Call (.Name x p) (e :: es) [] pos) (tCB r t) := by
  intro pins s σ H Q I h
  refine wpAny_Call_Name_kw (ld_blt I hg hm hv ?_ hn hdb)
  exact PyProof.Rows.callWith_builtin1 (thn (ha pos pins s σ H _ I h) fun us s1 ⟨vs, H1, I1, r1, q1⟩ => hc pins s1 σ H1 vs us Q I1 r1 q1) he hpl
theorem pe_callTy (hc : CallR X (.type T) r) (hg : Gl X x) (hm : X.mg x = none) (hv : bootBuiltins x = some (.type T)) (ha : PA X (e :: es) t) (hn : x ≠ "__name__" := by decide) (hdb : (x == ("__debug__" : Str)) = false := by decide)
    (he : starEach (e :: es) X.env = (false, eval e X.env) :: starEach es X.env := by rfl) (hpl : (backTo pos (starEach es X.env)).any (·.1) = false := by rfl) : PE X (.Call (.Name x p) (e :: es) [] pos) (tCB r t) := by
  intro pins s σ H Q I h
  refine wpAny_Call_Name_kw (ld_blt I hg hm hv ?_ hn hdb)
  exact PyProof.Rows.callWith_type1 (thn (ha pos pins s σ H _ I h) fun us s1 ⟨vs, H1, I1, r1, q1⟩ => hc pins s1 σ H1 vs us Q I1 r1 q1) he hpl
end
end L2
namespace HT
open PySem PyProof.Rows
section
open PySem.SeqAt
open PySem.AutoSeq1 (wpAny_loadPart')
open PySem.MeetsSeq PySem.MeetsSeq2 PySem.MeetsSeq3
end
section
variable {prog : Program} {w : World} {A : Around} {E : Value → Shared → Prop} {s : Shared}
theorem cat_tup {t b : Addr} {vs ws : List Value} {Q : Value → Shared → Prop} (ht : IsTup s.heap t vs.toArray) (hb : IsTup s.heap b ws.toArray) (hv : vs ≠ [])
    (h1 : ws = [] → Q (.ref t) s) (h2 : ws ≠ [] → Q (.ref s.heap.objs.size) { s with heap := s.heap.push { cls := .type "tuple", data := .seq (vs ++ ws).toArray } })
    (hsz : vs.length + ws.length ≤ sizeLine) : wpAny (model prog w) A (binaryOp .Add (.ref t) (.ref b)) Q E s := by
  obtain ⟨⟨cls, dd, data, sl⟩, ho, hc, n, hd⟩ := id ht
  obtain ⟨⟨cls2, dd2, data2, sl2⟩, ho2, hc2, n2, hd2⟩ := id hb
  simp only at hc hd hc2 hd2
  subst hc hd hc2 hd2
  have e : vs.toArray ++ ws.toArray = (vs ++ ws).toArray := by simp
  by_cases hw : ws = []
  · exact concat_meets ⟨_, ho, rfl⟩ ⟨_, ho2, rfl⟩ noFill_tuple_add seq_tuple_add PySem.F.slot_tuple_add PySem.F.entry_tuple_add (PySem.F.args_tuple_add_2 _ _)
      (tuple_addW1 t b vs.toArray ws.toArray n n2 dd dd2 sl sl2 (by simpa using hv) (by simp [hw])) ⟨ho, ho2, h1 hw⟩
  · refine concat_meets ⟨_, ho, rfl⟩ ⟨_, ho2, rfl⟩ noFill_tuple_add seq_tuple_add PySem.F.slot_tuple_add PySem.F.entry_tuple_add (PySem.F.args_tuple_add_2 _ _)
      (tuple_addW2 t b vs.toArray ws.toArray n n2 dd dd2 sl sl2 (by simpa using hv) (by simpa using hw) (by rw [List.size_toArray, List.size_toArray]; exact hsz)) ⟨ho, ho2, ?_⟩
    rw [e]
    exact h2 hw
def sIx (n d : Nat) : Option Int → Nat
  | none => d
  | some v => if v < 0 then (v + (n : Int)).toNat else min v.toNat n
theorem sIx_none (n d : Nat) : sIx n d none = d := rfl
theorem sIx_nat (n d k : Nat) : sIx n d (some (k : Int)) = min k n := by
  show (if (k : Int) < 0 then ((k : Int) + (n : Int)).toNat else min (k : Int).toNat n) = min k n
  rw [if_neg (by omega), Int.toNat_natCast]
theorem sIx_le (n d : Nat) (hd : d ≤ n) (o : Option Int) : sIx n d o ≤ n := by
  cases o with
  | none => exact hd
  | some v =>
    show (if v < 0 then (v + (n : Int)).toNat else min v.toNat n) ≤ n
    by_cases hv : v < 0
    · rw [if_pos hv]; omega
    · rw [if_neg hv]; exact Nat.min_le_right _ _
theorem clip_eq (v : Int) (n d : Nat) : (if v < 0 then max (v + (n : Int)) 0 else min v (n : Int)) = ((sIx n d (some v) : Nat) : Int) := by
  show (if v < 0 then max (v + (n : Int)) 0 else min v (n : Int)) = (((if v < 0 then (v + (n : Int)).toNat else min v.toNat n) : Nat) : Int)
  by_cases hv : v < 0
  · simp only [if_pos hv]; omega
  · simp only [if_neg hv]; omega
theorem adjust_gen (lo hi : Option Int) (n : Nat) : Builtin.Slice.sliceAdjust lo hi 1 (n : Int) = (((sIx n 0 lo : Nat) : Int), ((sIx n n hi : Nat) : Int)) := by
  have h1 : ¬ ((1 : Int) < 0) := by omega
  unfold Builtin.Slice.sliceAdjust
  simp only [h1, if_false]
  refine Prod.ext ?_ ?_
  · cases lo with
    | none => rfl
    | some v => exact clip_eq v n 0
  · cases hi with
    | none => rfl
    | some v => exact clip_eq v n n
theorem places_gen (i j : Nat) : Builtin.Slice.slicePlaces (i : Int) (j : Int) 1 = j - i := by
  unfold Builtin.Slice.slicePlaces
  have h1 : (1 : Int) > 0 := by omega
  simp only [h1, if_true, Int.ediv_one]
  split <;> omega
theorem slicePart_ {v : Value} {o : Option Int} {Q : Option Int → Shared → Prop} (p : IsPart v o) (h : Q o s) : wpAny (model prog w) A (Builtin.Slice.slicePartIndex v) Q E s := by
  cases p with
  | none => exact slicePart_none h
  | int i t => exact slicePart_int h
theorem sliceApplied_gen {sl : Addr} {vl vu : Value} {lo hi : Option Int} {n : Nat} {Q : Int × Int × Nat → Shared → Prop} (hs : s.heap.IsSliceOf sl vl vu .none) (pl : IsPart vl lo) (pu : IsPart vu hi)
    (h : Q (((sIx n 0 lo : Nat) : Int), 1, sIx n n hi - sIx n 0 lo) s) : wpAny (model prog w) A (Builtin.Slice.sliceApplied (.ref sl) (pure (n : Int))) Q E s := by
  obtain ⟨os, hos, hcs, hds⟩ := id hs
  unfold Builtin.Slice.sliceApplied Builtin.Slice.sliceFields
  refine wpAny_bind (wpAny_bind (wpAny_field hos hds (x := vl) rfl (wpAny_bind (wpAny_field hos hds (x := vu) rfl (wpAny_bind (wpAny_field hos hds (x := .none) rfl (wpAny_pure ?_)))))))
  refine wpAny_bind (slicePart_none ?_)
  show wpAny _ _ (if ((1 : Int) == 0) = true then _ else _) _ _ s
  rw [if_neg (by decide)]
  refine wpAny_bind (slicePart_ pl (wpAny_bind (slicePart_ pu (wpAny_bind (wpAny_pure ?_)))))
  show wpAny _ _ (match Builtin.Slice.sliceAdjust lo hi 1 (n : Int) with | (lo, hi) => pure (lo, (1 : Int), Builtin.Slice.slicePlaces lo hi 1)) _ _ s
  rw [adjust_gen lo hi n]
  show wpAny _ _ (pure (((sIx n 0 lo : Nat) : Int), (1 : Int), Builtin.Slice.slicePlaces ((sIx n 0 lo : Nat) : Int) ((sIx n n hi : Nat) : Int) 1)) _ _ s
  rw [places_gen]
  exact wpAny_pure h
theorem pick_gen (xs : Array Value) (i k : Nat) : ((List.range k).filterMap fun (m : Nat) => xs[((i : Int) + (m : Int) * 1).toNat]?).toArray = ((xs.toList.drop i).take k).toArray := by
  have e : (fun (m : Nat) => xs[((i : Int) + (m : Int) * 1).toNat]?) = fun m => xs[i + m]? := by
    funext m
    have : ((i : Int) + (m : Int) * 1).toNat = i + m := by omega
    rw [this]
  rw [e]
  have := pick_run xs i k
  rw [List.filterMap_map] at this
  have e2 : ((fun x => xs[x]?) ∘ fun x => i + x) = fun m => xs[i + m]? := rfl
  rw [e2] at this
  rw [this]
theorem getItem_tuple_cut {t sl : Addr} {items : Array Value} {vl vu : Value} {lo hi : Option Int} {Q : Value → Shared → Prop} (ht : IsTup s.heap t items) (hs : s.heap.IsSliceOf sl vl vu .none) (pl : IsPart vl lo) (pu : IsPart vu hi)
    (hw : ¬ (sIx items.size 0 lo = 0 ∧ sIx items.size items.size hi = items.size))
    (h : Q (.ref s.heap.objs.size) { s with heap := s.heap.push { cls := .type "tuple", data := .seq ((items.toList.drop (sIx items.size 0 lo)).take (sIx items.size items.size hi - sIx items.size 0 lo)).toArray } })
    (hsz : items.size ≤ sizeLine) : wpAny (model prog w) A (getItem (.ref t) (.ref sl)) Q E s := by
  have htake : sizeOk (.seq ((items.toList.drop (sIx items.size 0 lo)).take (sIx items.size items.size hi - sIx items.size 0 lo)).toArray) := by
    show ((items.toList.drop (sIx items.size 0 lo)).take (sIx items.size items.size hi - sIx items.size 0 lo)).toArray.size ≤ sizeLine
    rw [List.size_toArray, List.length_take, List.length_drop, Array.length_toList]
    omega
  have hj : sIx items.size items.size hi ≤ items.size := sIx_le _ _ (Nat.le_refl _) hi
  obtain ⟨os, hos, hcs, hds⟩ := id hs
  have hTs : s.TypeIs (.ref sl) "slice" := ⟨os, hos, hcs⟩
  unfold getItem
  try with_reducible refine wpAny_holding ?_
  first | refine wpAny_bind (wpAny_pure ?_) | skip
  refine wpAny_bind (wpAny_sequenceKey ht.typeIs (by decide) ?_)
  refine wpAny_bind (wpAny_callSpecial?_slot (name := Str.ofString "__getitem__") ht.typeIs PyProof.Rows.slot_tuple_getitem
    (wpAny_call_entry PyProof.Rows.slot_tuple_getitem ht.typeIs entry_tuple_getitem ?_ (args_tuple_getitem _ _)))
  show wpAny _ _ (Builtin.Tuple.tupleItemsOf (.ref t) >>= _) _ _ s
  refine wpAny_bind (tupleItemsOf_ ht ?_)
  refine wpAny_bind (wpAny_typeOf hTs ?_)
  rw [if_pos (by decide)]
  refine wpAny_bind (sliceApplied_gen hs pl pu ?_)
  have hno : ¬ ((((sIx items.size 0 lo : Nat) : Int) == 0 && (1 : Int) == 1 && (sIx items.size items.size hi - sIx items.size 0 lo) == items.size) = true) := by
    intro q
    rw [Bool.and_eq_true, Bool.and_eq_true] at q
    have q1 : ((sIx items.size 0 lo : Nat) : Int) = 0 := eq_of_beq q.1.1
    have q2 : sIx items.size items.size hi - sIx items.size 0 lo = items.size := eq_of_beq q.2
    exact hw ⟨by omega, by omega⟩
  show wpAny _ _ (if (((sIx items.size 0 lo : Nat) : Int) == 0 && (1 : Int) == 1 && (sIx items.size items.size hi - sIx items.size 0 lo) == items.size) = true then _ else _) _ _ s
  rw [if_neg hno, pick_gen]
  first
    | exact wpAny_bind (m := Builtin.Tuple.tupleExact _) (wpAny_newObj_type (wpAny_pure ⟨_, rfl, wpAny_pure h⟩) htake)
    | exact wpAny_bind (m := Builtin.Tuple.tupleExact _) (wpAny_newObj_type (wpAny_bind (wpAny_pure (wpAny_pure ⟨_, rfl, wpAny_pure h⟩))) htake)
    | exact wpAny_bind (wpAny_bind (m := Builtin.Tuple.tupleExact _) (wpAny_newObj_type (wpAny_pure (wpAny_pure ⟨_, rfl, wpAny_pure h⟩)) htake))
    | exact wpAny_bind (wpAny_bind (m := Builtin.Tuple.tupleExact _) (wpAny_newObj_type (wpAny_pure ⟨_, rfl, wpAny_pure h⟩) htake))
end
end HT
namespace L2
open PySem PySem.Spec PyProof.Rows
abbrev TO := St → Hp → (Option Int → Hp → Prop) → Prop
def PO (X : Cx) (e : Option Expr) (t : TO) : Prop :=
  ∀ (pins : List (Addr × Obj)) (s : Shared) (σ : St) (H : Hp) (Q : Option Int → Hp → Prop), Inv X pins σ H s → t σ H Q →
    wpAny (model X.prog X.w) X.A (evalPart e X.env) (fun u s' => ∃ o H', Inv X pins σ H' s' ∧ IsPart u o ∧ Q o H') X.xe s
def tNoPart : TO := fun _ H Q => Q none H
def tPart (t : TE) : TO := fun σ H Q => t σ H fun x H1 => ∃ i, x = .int i ∧ Q (some i) H1
theorem intsAre_of {ns : List Int} : ∀ {us : List Value}, Vals (ns.map V.int) us → IntsAre us ns := by
  induction ns with
  | nil => intro us r; rw [List.map_nil] at r; cases r; exact .nil
  | cons n ns ih =>
    intro us r
    rw [List.map_cons] at r
    cases r with
    | cons r1 r2 =>
      obtain ⟨t, e⟩ := r1
      subst e
      exact .cons n t (ih r2)
section
variable {X : Cx} {e : Expr} {te : TE} {lo hi : Option Expr} {tl th : TO} {pos p2 : Pos}
theorem po_none : PO X none tNoPart := by
  intro pins s σ H Q I h
  rw [evalPart_none]
  exact wpAny_pure ⟨none, H, I, .none, h⟩
theorem po_some (h : PE X e te) : PO X (some e) (tPart te) := by
  intro pins s σ H Q I hw
  rw [evalPart_some]
  refine thn (h pins s σ H _ I hw) fun u s1 ⟨x, H1, I1, r1, q1⟩ => ?_
  obtain ⟨i, rfl, q⟩ := q1
  obtain ⟨t, rfl⟩ := r1
  exact ⟨some i, H1, I1, .int i t, q⟩
def SlR (X : Cx) (r : V → Option Int → Option Int → Hp → VK → Prop) : Prop :=
  ∀ (pins : List (Addr × Obj)) (s : Shared) (σ : St) (H : Hp) (x : V) (v vl vu : Value) (lo hi : Option Int) (sl : Addr) (Q : VK), Inv X pins σ H s → RelV x v → s.heap.IsSliceOf sl vl vu .none → IsPart vl lo → IsPart vu hi → r x lo hi H Q →
    ∃ T id, typeLookup (.type T) "__getitem__" = pure (some (.builtin id)) ∧ s.TypeIs v T ∧ wpAny (model X.prog X.w) X.A (getItem v (.ref sl)) (EP X pins σ Q) X.xe s
theorem SlR.or {r r' : V → Option Int → Option Int → Hp → VK → Prop} (h : SlR X r) (h' : SlR X r') : SlR X (fun x lo hi H Q => r x lo hi H Q ∨ r' x lo hi H Q) := by
  intro pins s σ H x v vl vu lo hi sl Q I rx hs pl pu q
  rcases q with q | q
  · exact h pins s σ H x v vl vu lo hi sl Q I rx hs pl pu q
  · exact h' pins s σ H x v vl vu lo hi sl Q I rx hs pl pu q
def tSl (r : V → Option Int → Option Int → Hp → VK → Prop) (te : TE) (tl th : TO) : TE := fun σ H Q => te σ H fun x H1 => tl σ H1 fun l H2 => th σ H2 fun u H3 => r x l u H3 Q
theorem pe_slice {r : V → Option Int → Option Int → Hp → VK → Prop} (hr : SlR X r) (he : PE X e te) (hl : PO X lo tl) (hu : PO X hi th) : PE X (.Subscript e (.Slice lo hi none p2) pos) (tSl r te tl th) := by
  intro pins s σ H Q I h
  refine Subscript_ (thn (he pins s σ H _ I h) fun v s1 ⟨x, H1, I1, r1, q1⟩ => ?_)
  refine wpAny_Slice (thn (hl pins s1 σ H1 _ I1 q1) fun vl s2 ⟨l, H2, I2, pl, q2⟩ => thn (hu pins s2 σ H2 _ I2 q2) fun vu s3 ⟨u, H3, I3, pu, q3⟩ => ?_)
  rw [evalPart_none]
  refine wpAny_pure ?_
  have I4 : Inv X pins σ H3 { s3 with heap := s3.heap.push { cls := .type "slice", data := .fields #[vl, vu, .none] } } := I3.kept (t' := s3.toks) fun b ob q => Heap.get?_push_of_some _ q
  obtain ⟨T, id, hT, ht, hg⟩ := hr pins { s3 with heap := s3.heap.push { cls := .type "slice", data := .fields #[vl, vu, .none] } } σ H3 x v vl vu l u s3.heap.objs.size Q I4 r1 (Heap.IsSliceOf.new ..) pl pu q3
  show wpAny (model X.prog X.w) X.A (subscriptTail e (.Slice lo hi none p2) v (.ref s3.heap.objs.size)) (EP X pins σ Q) X.xe { s3 with heap := s3.heap.push { cls := .type "slice", data := .fields #[vl, vu, .none] } }
  exact tail_any (ops := [.ref s3.heap.objs.size, v]) ht hT hg (by with_unfolding_all rfl)
def cutV (xs : List V) (lo hi : Option Int) : List V := (xs.drop (HT.sIx xs.length 0 lo)).take (HT.sIx xs.length xs.length hi - HT.sIx xs.length 0 lo)
theorem cutV_length (xs : List V) (lo hi : Option Int) : (cutV xs lo hi).length ≤ xs.length := by
  unfold cutV
  rw [List.length_take, List.length_drop]
  omega
def rSlT (K : PySem.W.Frag) : V → Option Int → Option Int → Hp → VK → Prop := fun x lo hi H Q => ∃ a xs, x = .ref a ∧ SqT K H a xs ∧
  ¬ (HT.sIx xs.length 0 lo = 0 ∧ HT.sIx xs.length xs.length hi = xs.length) ∧ ∀ p, H p = none → Q (.ref p) (upd H p (.tup (cutV xs lo hi)))
theorem sl_tup : SlR X (rSlT X.K) := by
  intro pins s σ H x v vl vu lo hi sl Q I rx hs pl pu h
  obtain ⟨a, xs, rfl, hx, hw, q⟩ := h
  cases rx
  obtain ⟨its, r, ht, hz⟩ := I.tuple hx
  have hlen : its.toArray.size = xs.length := by rw [List.size_toArray]; exact r.length.symm
  refine ⟨"tuple", _, PyProof.Rows.slot_tuple_getitem.lookup, ht.typeIs, ?_⟩
  refine HT.getItem_tuple_cut ht hs pl pu (by rw [hlen]; exact hw) ?_ (by rw [hlen]; exact hz)
  rw [hlen]
  refine ⟨.ref s.heap.objs.size, _, I.laid (t' := s.toks) (o := .tup (cutV xs lo hi)) (fun b ob q => Heap.get?_push_of_some _ q) (Nat.le_refl _) ?_, rfl, q _ (I.hok.fresh (Nat.le_refl _))⟩
  exact ⟨Nat.le_trans (cutV_length xs lo hi) hz, _, (r.drop (HT.sIx xs.length 0 lo)).take (HT.sIx xs.length xs.length hi - HT.sIx xs.length 0 lo), FT.IsTup0.new _ _⟩
def rCatT (K : PySem.W.Frag) : R2 := fun x y H Q => ∃ a b xs ys, x = .ref a ∧ y = .ref b ∧ SqT K H a xs ∧ SqT K H b ys ∧ xs ≠ [] ∧ xs.length + ys.length ≤ sizeLine ∧
  (ys = [] → Q (.ref a) H) ∧ (ys ≠ [] → ∀ p, H p = none → Q (.ref p) (upd H p (.tup (xs ++ ys))))
theorem Vals.nil_iff {xs : List V} {us : List Value} (r : Vals xs us) : us = [] ↔ xs = [] := by
  cases r with
  | nil => simp
  | cons _ _ => simp
theorem op_catT : OpR X (binaryOp .Add) (rCatT X.K) := by
  intro pins s σ H x y v u Q I rx ry h
  obtain ⟨a, b, xs, ys, rfl, rfl, ha, hb, hx, hz, q1, q2⟩ := h
  cases rx
  cases ry
  obtain ⟨its, r1, p1, _⟩ := I.tuple ha
  obtain ⟨its2, r2, p2, _⟩ := I.tuple hb
  refine HT.cat_tup p1 p2 (fun z => hx (r1.nil_iff.mp z)) (fun z => ⟨.ref a, H, I, rfl, q1 (r2.nil_iff.mp z)⟩) (fun z => ?_) (by rw [← r1.length, ← r2.length]; exact hz)
  refine ⟨.ref s.heap.objs.size, _, I.laid (t' := s.toks) (o := .tup (xs ++ ys)) (fun b ob q => Heap.get?_push_of_some _ q) (Nat.le_refl _) ?_, rfl, q2 (fun w => z (r2.nil_iff.mpr w)) _ (I.hok.fresh (Nat.le_refl _))⟩
  exact ⟨by rw [List.length_append]; exact hz, _, r1.append r2, FT.IsTup0.new _ _⟩
end
end L2
namespace L2
open PySem PySem.Spec PyProof.Rows
def ixN (n : Nat) (i : Int) : Option Nat := if 0 ≤ i then (if i < n then some i.toNat else none) else if -(n : Int) ≤ i then some (i + n).toNat else none
def atI {α : Type} (xs : List α) (i : Int) : Option α := (ixN xs.length i).bind fun j => xs[j]?
theorem ixN_seq {n : Nat} {i : Int} {j : Nat} (h : ixN n i = some j) : seqIndex? i n = some j ∧ j < n ∧ -(n : Int) ≤ i ∧ i < n := by
  unfold ixN at h
  by_cases h0 : 0 ≤ i
  · rw [if_pos h0] at h
    by_cases h1 : i < n
    · rw [if_pos h1] at h
      have e : i.toNat = j := Option.some.inj h
      exact ⟨by rw [seqIndex_of h0 h1, e], by omega, by omega, h1⟩
    · rw [if_neg h1] at h; cases h
  · rw [if_neg h0] at h
    by_cases h1 : -(n : Int) ≤ i
    · rw [if_pos h1] at h
      have e : (i + n).toNat = j := Option.some.inj h
      exact ⟨by rw [seqIndex_neg (by omega) h1, e], by omega, h1, by omega⟩
    · rw [if_neg h1] at h; cases h
theorem atI_get {α : Type} {xs : List α} {i : Int} {v : α} (h : atI xs i = some v) : ∃ j, seqIndex? i xs.length = some j ∧ xs[j]? = some v ∧ j < xs.length ∧ -(xs.length : Int) ≤ i ∧ i < xs.length := by
  unfold atI at h
  cases e : ixN xs.length i with
  | none => rw [e] at h; cases h
  | some j =>
    rw [e] at h
    obtain ⟨h1, h2, h3, h4⟩ := ixN_seq e
    exact ⟨j, h1, h, h2, h3, h4⟩
theorem atI_nat {α : Type} {xs : List α} {j : Nat} {v : α} (h : xs[j]? = some v) : atI xs (j : Int) = some v := by
  have hj : j < xs.length := (List.getElem?_eq_some_iff.mp h).1
  have e : ixN xs.length (j : Int) = some j := by
    unfold ixN
    rw [if_pos (by omega), if_pos (by omega)]; simp
  unfold atI; rw [e]; exact h
def PlainIx (b : Expr) : Prop := ∀ o i, subscripted b false o i = operate [o, i] (getItem o i)
def IxR (X : Cx) (r : R2) : Prop :=
  ∀ (value slice : Expr) (pins : List (Addr × Obj)) (s : Shared) (σ : St) (H : Hp) (x y : V) (v u : Value) (Q : VK), Inv X pins σ H s → RelV x v → RelV y u → r x y H Q →
    subscripted slice false v u = operate [v, u] (getItem v u) → wpAny (model X.prog X.w) X.A (subscriptTail value slice v u) (EP X pins σ Q) X.xe s
def MtR (X : Cx) (id : String) (r : V → List V → Hp → VK → Prop) : Prop :=
  ∀ (pins : List (Addr × Obj)) (s : Shared) (σ : St) (H : Hp) (x : V) (xs : List V) (v : Value) (us : List Value) (Q : VK), Inv X pins σ H s → RelV x v → Vals xs us → r x xs H Q →
    wpAny (model X.prog X.w) X.A (call (.builtin id) (v :: us)) (EP X pins σ Q) X.xe s
section
variable {X : Cx} {a b : Expr} {ta tb : TE} {pos : Pos}
theorem IxR.or {r r' : R2} (h : IxR X r) (h' : IxR X r') : IxR X (fun x y H Q => r x y H Q ∨ r' x y H Q) := by
  intro value slice pins s σ H x y v u Q I rx ry q hs
  rcases q with q | q
  · exact h value slice pins s σ H x y v u Q I rx ry q hs
  · exact h' value slice pins s σ H x y v u Q I rx ry q hs
theorem MtR.or {id : String} {r r' : V → List V → Hp → VK → Prop} (h : MtR X id r) (h' : MtR X id r') : MtR X id (fun x xs H Q => r x xs H Q ∨ r' x xs H Q) := by
  intro pins s σ H x xs v us Q I rx rs q
  rcases q with q | q
  · exact h pins s σ H x xs v us Q I rx rs q
  · exact h' pins s σ H x xs v us Q I rx rs q
theorem pe_ix {r : R2} (hr : IxR X r) (ha : PE X a ta) (hb : PE X b tb) (hs : PlainIx b) : PE X (.Subscript a b pos) (tOp r ta tb) := by
  intro pins s σ H Q I h
  exact Subscript_ (binT ha hb I h fun v u s2 x y H2 I2 rx ry q => hr a b pins s2 σ H2 x y v u Q I2 rx ry q (hs _ _))
def rIxL (K : PySem.W.Frag) : R2 := fun x y H Q => ∃ p xs i v, x = .ref p ∧ y = .int i ∧ SqL K H p xs ∧ atI xs i = some v ∧ Q v H
def rIxT (K : PySem.W.Frag) : R2 := fun x y H Q => ∃ p xs i v, x = .ref p ∧ y = .int i ∧ SqT K H p xs ∧ atI xs i = some v ∧ Q v H
def rIxS : R2 := fun x y H Q => ∃ z i c, x = .str z ∧ y = .int i ∧ z.length ≤ sizeLine ∧ atI z.cps.toList i = some c ∧ Q (.str ⟨#[c]⟩) H
theorem ix_list : IxR X (rIxL X.K) := by
  intro value slice pins s σ H x y v u Q I rx ry h hs
  obtain ⟨p, xs, i, z, rfl, rfl, hq, he, q⟩ := h
  cases rx
  obtain ⟨t, rfl⟩ := ry
  obtain ⟨its, r, pl, hz⟩ := I.list hq
  obtain ⟨j, h1, h2, h3, h4, h5⟩ := atI_get he
  obtain ⟨w, ew, rw'⟩ := r.get h2
  have hl := r.length
  have hn := line63
  have fin : EP X pins σ Q w s := ⟨z, H, I, rw', q⟩
  by_cases h0 : 0 ≤ i
  · have hj : i.toNat = j := by
      rw [seqIndex_of h0 h5] at h1
      exact Option.some.inj h1
    exact item_listR pl.isList h0 (by omega) (by rw [hj]; simpa using ew) fin hs
  · have hj : (i + (its.toArray.size : Int)).toNat = j := by
      rw [seqIndex_neg (by omega) h4] at h1
      rw [List.size_toArray, ← hl]
      exact Option.some.inj h1
    exact subscriptTail_builtinR (x := w) pl.isList.typeIs slot_list_getitem.lookup
      (wpAny_getItem_list_neg (Q := fun r s' => r = w ∧ EP X pins σ Q r s') pl.isList (by omega) (by rw [List.size_toArray] <;> omega) (by omega) (by rw [hj]; simpa using ew) ⟨rfl, fin⟩) hs
theorem ix_tup : IxR X (rIxT X.K) := by
  intro value slice pins s σ H x y v u Q I rx ry h hs
  obtain ⟨p, xs, i, z, rfl, rfl, hq, he, q⟩ := h
  cases rx
  obtain ⟨t, rfl⟩ := ry
  obtain ⟨its, r, pl, hz⟩ := I.tuple hq
  obtain ⟨j, h1, h2, h3, h4, h5⟩ := atI_get he
  obtain ⟨w, ew, rw'⟩ := r.get h2
  have hl := r.length
  have hn := line63
  have fin : EP X pins σ Q w s := ⟨z, H, I, rw', q⟩
  exact subscriptTail_builtinR (x := w) pl.typeIs slot_tuple_getitem.lookup
    (getItem_tuple (j := j) (Q := fun r s' => r = w ∧ EP X pins σ Q r s') pl (by omega) (by omega) (by rw [List.size_toArray, ← hl]; exact h1) (by simpa using ew) ⟨rfl, fin⟩) hs
theorem ix_str : IxR X rIxS := by
  intro value slice pins s σ H x y v u Q I rx ry h hs
  obtain ⟨z, i, c, rfl, rfl, hz, he, q⟩ := h
  obtain ⟨t, rfl⟩ := rx
  obtain ⟨t', rfl⟩ := ry
  obtain ⟨j, h1, h2, h3, h4, h5⟩ := atI_get he
  have hl : z.cps.toList.length = z.length := by simp [Str.length]
  rw [hl] at h1 h4 h5
  have hn := line63
  exact tail_any (typeIs_str s z t) slot_str_getitem.lookup (getItem_str (c := c) (by
    have e1 : decide (i < -(2 ^ 63 : Int)) = false := decide_eq_false (by omega)
    have e2 : decide (i ≥ 2 ^ 63) = false := decide_eq_false (by omega)
    rw [e1, e2, Bool.or_false]) (by rw [h1]; simpa using h2) ⟨.str ⟨#[c]⟩, H, I.tok _, ⟨_, rfl⟩, q⟩) hs
def rIx (K : PySem.W.Frag) : R2 := fun x y H Q => rIxL K x y H Q ∨ rIxT K x y H Q ∨ rIxS x y H Q
theorem ix_seq : IxR X (rIx X.K) := ix_list.or (ix_tup.or ix_str)
theorem mapSeq_set (its : List Value) (n j : Nat) (u : Value) : Obj.mapSeq (·.setIfInBounds j u) { cls := .type "list", data := .seq its.toArray n } = { cls := .type "list", data := .seq (its.set j u).toArray n } := by
  simp [Obj.mapSeq]
theorem Inv.lst {pins : List (Addr × Obj)} {σ : St} {H : Hp} {s : Shared} {p : Addr} {xs : List V} (I : Inv X pins σ H s) (h : H p = some (.lst xs)) :
    ∃ (its : List Value) (n : Nat), Vals xs its ∧ s.heap.get? p = some { cls := .type "list", data := .seq its.toArray n } ∧ xs.length ≤ sizeLine := by
  obtain ⟨z, its, n, r, e⟩ := I.hok p _ h
  exact ⟨its, n, r, e, z⟩
theorem Inv.lstUpd {pins : List (Addr × Obj)} {σ : St} {H : Hp} {s : Shared} {p : Addr} {xs ys : List V} {its its' : List Value} {n n' : Nat} {f : Obj → Obj} (I : Inv X pins σ H s) (h : H p = some (.lst xs))
    (ho : s.heap.get? p = some { cls := .type "list", data := .seq its.toArray n }) (hf : f { cls := .type "list", data := .seq its.toArray n } = { cls := .type "list", data := .seq its'.toArray n' }) (r : Vals ys its') (hz : ys.length ≤ sizeLine) (t : Nat) :
    Inv X pins σ (upd H p (.lst ys)) { s with heap := s.heap.update p f, toks := t } := by
  have e : (s.heap.update p f).get? p = some { cls := .type "list", data := .seq its'.toArray n' } := by
    rw [Heap.get?_update_self f ho (by rw [hf] <;> rfl), hf]
  refine I.write (x := p) (e := p) (by rw [h]; trivial) (.inl rfl) (fun b u hb q => (Heap.get?_update_other _ _ (Ne.symm hb)).trans q) ⟨_, e⟩ ?_
  exact ⟨hz, its', n', r, e⟩
def rSetL : V → V → V → Hp → (Hp → Prop) → Prop := fun o i v H Q => ∃ p xs k j, o = .ref p ∧ i = .int k ∧ H p = some (.lst xs) ∧ ixN xs.length k = some j ∧ Q (upd H p (.lst (xs.set j v)))
theorem set_list : PSet X rSetL := by
  intro pins s σ H o i v ov iv u Q I ro ri rv h
  obtain ⟨p, xs, k, j, rfl, rfl, hp, hj, q⟩ := h
  cases ro
  obtain ⟨t, rfl⟩ := ri
  obtain ⟨its, n, r, ho, hz⟩ := I.lst hp
  obtain ⟨h1, h2, h3, h4⟩ := ixN_seq hj
  have hl := r.length
  have hn := line63
  have I' : Inv X pins σ (upd H p (.lst (xs.set j v))) { s with heap := s.heap.update p (Obj.mapSeq (·.setIfInBounds j u)) } :=
    I.lstUpd hp ho (mapSeq_set its n j u) (r.set rv j) (by rw [List.length_set]; exact hz) s.toks
  by_cases h0 : 0 ≤ k
  · have hk : k.toNat = j := by
      rw [seqIndex_of h0 h4] at h1
      exact Option.some.inj h1
    exact PySem.W.ki_setAt ho h0 (by omega) (by rw [List.size_toArray, ← hl]; exact h4) (by rw [hk]; exact ⟨_, I', q⟩)
  · have hk : (k + (its.toArray.size : Int)).toNat = j := by
      rw [seqIndex_neg (by omega) h3] at h1
      rw [List.size_toArray, ← hl]
      exact Option.some.inj h1
    exact PySem.W.ki_setBack ho (by omega) (by rw [List.size_toArray, ← hl]; exact h3) (by omega) (by rw [hk]; exact ⟨_, I', q⟩)
theorem slice_bounds (lo hi : Option Int) (n : Nat) : (sliceBounds lo hi none n).1 = ((HT.sIx n 0 lo : Nat) : Int) ∧ (sliceBounds lo hi none n).2.1 = ((HT.sIx n n hi : Nat) : Int) ∧ (sliceBounds lo hi none n).2.2 = 1 := by
  refine ⟨?_, ?_, rfl⟩
  · cases lo with
    | none => simp [sliceBounds, HT.sIx]
    | some i =>
      simp only [sliceBounds, HT.sIx, Option.getD_none, show (1 : Int) > 0 by decide, if_true]
      by_cases h : i < 0
      · simp only [h, if_true] <;> omega
      · simp only [h, if_false] <;> omega
  · cases hi with
    | none => simp [sliceBounds, HT.sIx]
    | some i =>
      simp only [sliceBounds, HT.sIx, Option.getD_none, show (1 : Int) > 0 by decide, if_true]
      by_cases h : i < 0
      · simp only [h, if_true] <;> omega
      · simp only [h, if_false] <;> omega
theorem slicePick_cut (its : List Value) (lo hi : Option Int) : slicePick its.toArray lo hi none = ((its.drop (HT.sIx its.length 0 lo)).take (HT.sIx its.length its.length hi - HT.sIx its.length 0 lo)).toArray := by
  obtain ⟨h1, h2, h3⟩ := slice_bounds lo hi its.toArray.size
  unfold slicePick
  rw [h1, h2, h3]
  simp only [sliceRange_one, pick_run, List.size_toArray] <;> rfl
def rSlL (K : PySem.W.Frag) : V → Option Int → Option Int → Hp → VK → Prop := fun x lo hi H Q => ∃ a xs, x = .ref a ∧ SqL K H a xs ∧ ∀ p, H p = none → Q (.ref p) (upd H p (.lst (cutV xs lo hi)))
theorem sl_list : SlR X (rSlL X.K) := by
  intro pins s σ H x v vl vu lo hi sl Q I rx hs pl pu h
  obtain ⟨a, xs, rfl, hx, q⟩ := h
  cases rx
  obtain ⟨its, r, ht, hz⟩ := I.list hx
  have hlen := r.length
  refine ⟨"list", _, slot_list_getitem.lookup, ht.isList.typeIs, ?_⟩
  refine wpAny_getItem_list_slice ht.isList hs pl pu .none (by simp) ?_ (by rw [List.size_toArray] <;> omega)
  rw [slicePick_cut, ← hlen]
  refine ⟨.ref s.heap.objs.size, _, I.laid (t' := s.toks) (o := .lst (cutV xs lo hi)) (fun b ob q => Heap.get?_push_of_some _ q) (Nat.le_refl _) ?_, rfl, q _ (I.hok.fresh (Nat.le_refl _))⟩
  exact ⟨Nat.le_trans (cutV_length xs lo hi) hz, _, 0, (r.drop (HT.sIx xs.length 0 lo)).take (HT.sIx xs.length xs.length hi - HT.sIx xs.length 0 lo), Heap.get?_push_size _ rfl⟩
def flatV : V → Bool
  | .non => true
  | .bl _ => true
  | .int _ => true
  | .str _ => true
  | _ => false
def eqV : V → V → Bool
  | .non, .non => true
  | .bl a, .bl b => a == b
  | .bl a, .int b => (if a then 1 else 0) == b
  | .int a, .bl b => a == (if b then 1 else 0)
  | .int a, .int b => a == b
  | .str a, .str b => a == b
  | _, _ => false
theorem eqAt_V {A : Around} {s : Shared} {y x : V} {u v : Value} (ry : RelV y u) (rx : RelV x v) (fy : flatV y = true) (fx : flatV x = true) : SeqAt.EqAt A s u v (eqV y x) := by
  cases y with
  | non =>
    cases ry
    cases x with
    | non => cases rx; exact SeqAt.EqAt.same _
    | bl b => cases rx; exact SeqAt.EqAt.none_bool b
    | int b => obtain ⟨t, rfl⟩ := rx; exact SeqAt.EqAt.none_int b t
    | str b => obtain ⟨t, rfl⟩ := rx; exact SeqAt.EqAt.none_str b t
    | _ => exact absurd (show false = true from fx) Bool.false_ne_true
  | bl a =>
    cases ry
    cases x with
    | non => cases rx; exact SeqAt.EqAt.bool_none a
    | bl b => cases rx; exact SeqAt.EqAt.bool_bool a b
    | int b => obtain ⟨t, rfl⟩ := rx; exact SeqAt.EqAt.bool_int a b t
    | str b => obtain ⟨t, rfl⟩ := rx; exact SeqAt.EqAt.bool_str a b t
    | _ => exact absurd (show false = true from fx) Bool.false_ne_true
  | int a =>
    obtain ⟨t', rfl⟩ := ry
    cases x with
    | non => cases rx; exact SeqAt.EqAt.int_none a t'
    | bl b => cases rx; exact SeqAt.EqAt.int_bool a t' b
    | int b => obtain ⟨t, rfl⟩ := rx; exact SeqAt.EqAt.int_int a t' b t
    | str b => obtain ⟨t, rfl⟩ := rx; exact SeqAt.EqAt.int_str a t' b t
    | _ => exact absurd (show false = true from fx) Bool.false_ne_true
  | str a =>
    obtain ⟨t', rfl⟩ := ry
    cases x with
    | non => cases rx; exact SeqAt.EqAt.str_none a t'
    | bl b => cases rx; exact SeqAt.EqAt.str_bool a t' b
    | int b => obtain ⟨t, rfl⟩ := rx; exact SeqAt.EqAt.str_int a t' b t
    | str b => obtain ⟨t, rfl⟩ := rx; exact SeqAt.EqAt.str_str a t' b t
    | _ => exact absurd (show false = true from fx) Bool.false_ne_true
  | _ => exact absurd (show false = true from fy) Bool.false_ne_true
def eqU (x : V) (u : Value) : Bool := match u with
  | .none => eqV .non x
  | .bool b => eqV (.bl b) x
  | .int i _ => eqV (.int i) x
  | .str z _ => eqV (.str z) x
  | _ => false
theorem eqU_of {x y : V} {u : Value} (r : RelV y u) (f : flatV y = true) : eqU x u = eqV y x := by
  cases y with
  | non => cases r; rfl
  | bl b => cases r; rfl
  | int i => obtain ⟨t, rfl⟩ := r; rfl
  | str z => obtain ⟨t, rfl⟩ := r; rfl
  | _ => exact absurd (show false = true from f) Bool.false_ne_true
theorem any_eqU {x : V} : ∀ {xs : List V} {us : List Value}, Vals xs us → xs.all flatV = true → us.any (eqU x) = xs.any fun y => eqV y x
  | _, _, .nil, _ => rfl
  | y :: xs, u :: us, .cons r t, f => by
    rw [List.all_cons, Bool.and_eq_true] at f
    rw [List.any_cons, List.any_cons, eqU_of r f.1, any_eqU t f.2]
theorem mem_eqAt {A : Around} {s : Shared} {x : V} {v : Value} (rx : RelV x v) (fx : flatV x = true) : ∀ {xs : List V} {us : List Value}, Vals xs us → xs.all flatV = true → ∀ u ∈ us, SeqAt.EqAt A s u v (eqU x u)
  | _, _, .nil, _ => fun u hu => by cases hu
  | y :: xs, u :: us, .cons r t, f => fun u' hu => by
    rw [List.all_cons, Bool.and_eq_true] at f
    rcases List.mem_cons.mp hu with rfl | hu
    · rw [eqU_of r f.1]; exact eqAt_V r rx f.1 fx
    · exact mem_eqAt rx fx t f.2 u' hu
def inV (x : V) (xs : List V) : Bool := xs.any fun y => eqV y x
def rIn (K : PySem.W.Frag) (neg : Bool) : R2 := fun x y H Q => ∃ p xs, y = .ref p ∧ (SqL K H p xs ∨ SqT K H p xs) ∧ flatV x = true ∧ xs.all flatV = true ∧ Q (.bl (if neg then !inV x xs else inV x xs)) H
theorem op_in_seq : OpR X (compareOp .In) (rIn X.K false) := by
  intro pins s σ H x y v u Q I rx ry h
  obtain ⟨p, xs, rfl, hq, fx, fs, q⟩ := h
  cases ry
  rcases hq with hq | hq
  · obtain ⟨its, r, pl, hz⟩ := I.list hq
    refine SeqAt.in_listAt (eqU x) pl.isList (fun w hw => mem_eqAt rx fx r fs w (by simpa using hw)) ⟨.bl _, H, I, rfl, ?_⟩
    rw [show its.toArray.any (eqU x) = its.any (eqU x) by simp, any_eqU r fs]
    exact q
  · obtain ⟨its, r, pl, hz⟩ := I.tuple hq
    refine SeqAt.in_tupleAt (eqU x) pl (fun w hw => mem_eqAt rx fx r fs w (by simpa using hw)) ⟨.bl _, H, I, rfl, ?_⟩
    rw [show its.toArray.any (eqU x) = its.any (eqU x) by simp, any_eqU r fs]
    exact q
theorem op_notIn_seq : OpR X (compareOp .NotIn) (rIn X.K true) := by
  intro pins s σ H x y v u Q I rx ry h
  obtain ⟨p, xs, rfl, hq, fx, fs, q⟩ := h
  cases ry
  rcases hq with hq | hq
  · obtain ⟨its, r, pl, hz⟩ := I.list hq
    refine SeqAt.notIn_listAt (eqU x) pl.isList (fun w hw => mem_eqAt rx fx r fs w (by simpa using hw)) ⟨.bl _, H, I, rfl, ?_⟩
    rw [show its.toArray.any (eqU x) = its.any (eqU x) by simp, any_eqU r fs]
    exact q
  · obtain ⟨its, r, pl, hz⟩ := I.tuple hq
    refine SeqAt.notIn_tupleAt (eqU x) pl (fun w hw => mem_eqAt rx fx r fs w (by simpa using hw)) ⟨.bl _, H, I, rfl, ?_⟩
    rw [show its.toArray.any (eqU x) = its.any (eqU x) by simp, any_eqU r fs]
    exact q
theorem CallR.or {f : Value} {r r' : List V → Hp → VK → Prop} (h : CallR X f r) (h' : CallR X f r') : CallR X f (fun xs H Q => r xs H Q ∨ r' xs H Q) := by
  intro pins s σ H xs us Q I rs q
  rcases q with q | q
  · exact h pins s σ H xs us Q I rs q
  · exact h' pins s σ H xs us Q I rs q
theorem call_list_of : CallR X (.type "list") (fun xs H Q => ∃ p ys, xs = [.ref p] ∧ (SqL X.K H p ys ∨ SqT X.K H p ys) ∧ ∀ l, H l = none → Q (.ref l) (upd H l (.lst ys))) := by
  intro pins s σ H xs us Q I r h
  obtain ⟨p, ys, rfl, hq, q⟩ := h
  obtain ⟨u, rfl, rx⟩ := vals1 r
  cases rx
  have fin : ∀ (its : List Value), Vals ys its → ys.length ≤ sizeLine → ∀ (h' : Heap) (c' : Nat), (∀ b o', s.heap.get? b = some o' → h'.get? b = some o') →
      h'.get? s.heap.objs.size = some { cls := .type "list", dict := none, data := .seq its.toArray c', slots := #[] } → EP X pins σ Q (.ref s.heap.objs.size) { s with heap := h' } := fun its r' hz h' c' kp e =>
    ⟨.ref s.heap.objs.size, _, I.laid (t' := s.toks) kp (Nat.le_refl _) (show ObjOk X.prog X.w _ h' _ (.lst ys) from ⟨hz, its, c', r', e⟩), rfl, q _ (I.hok.fresh (Nat.le_refl _))⟩
  rcases hq with hq | hq
  · obtain ⟨its, r', pl, hz⟩ := I.list hq
    have hlen := r'.length
    obtain ⟨o, ho, hc, n, hd⟩ := pl.isList
    exact call_list_seq p (.inl rfl) ho hc hd (fun h' c' kp e => fin its r' hz h' c' kp e) (by simp only [List.size_toArray] <;> omega)
  · obtain ⟨its, r', pl, hz⟩ := I.tuple hq
    have hlen := r'.length
    obtain ⟨o, ho, hc, n, hd⟩ := pl
    exact call_list_seq p (.inr rfl) ho hc hd (fun h' c' kp e => fin its r' hz h' c' kp e) (by simp only [List.size_toArray] <;> omega)
theorem call_tuple_of : CallR X (.type "tuple") (fun xs H Q => ∃ p ys, xs = [.ref p] ∧ ((SqL X.K H p ys ∧ ∀ l, H l = none → Q (.ref l) (upd H l (.tup ys))) ∨ (SqT X.K H p ys ∧ Q (.ref p) H))) := by
  intro pins s σ H xs us Q I r h
  obtain ⟨p, ys, rfl, h⟩ := h
  obtain ⟨u, rfl, rx⟩ := vals1 r
  cases rx
  rcases h with ⟨hq, q⟩ | ⟨hq, q⟩
  · obtain ⟨its, r', pl, hz⟩ := I.list hq
    have hlen := r'.length
    refine call_tuple_list pl.isList (fun h' kp => ?_) (by simp only [List.size_toArray] <;> omega)
    have I1 : Inv X pins σ H { s with heap := h' } := I.kept (t' := s.toks) kp
    have I2 : Inv X pins σ (upd H h'.objs.size (.tup ys)) { s with heap := h'.push { cls := .type "tuple", data := .seq its.toArray } } :=
      I1.laid (t' := s.toks) (fun b o e => Heap.get?_push_of_some _ e) (Nat.le_refl _) (show ObjOk X.prog X.w _ _ _ (.tup ys) from ⟨hz, its, r', FT.IsTup0.new _ _⟩)
    exact ⟨.ref h'.objs.size, _, I2, rfl, q _ (I1.hok.fresh (Nat.le_refl _))⟩
  · obtain ⟨its, r', pl, hz⟩ := I.tuple hq
    exact call_tuple_same pl ⟨.ref p, H, I, rfl, q⟩
def tyV (K : PySem.W.Frag) (T : String) (x : V) (H : Hp) : Prop := match x with
  | .str _ => T = "str"
  | .int _ => T = "int"
  | .ref p => (T = "list" ∧ ∃ xs, SqL K H p xs) ∨ (T = "tuple" ∧ ∃ o, K.lookup p = some o ∧ o.cls = .type "tuple" ∧ o.dict = none) ∨
      (T = "dict" ∧ ((∃ kvs, H p = some (.dK kvs)) ∨ ∃ kvs, H p = some (.dT kvs))) ∨ (T = "set" ∧ ∃ ks, H p = some (.set ks))
  | _ => False
theorem tyV_is {pins : List (Addr × Obj)} {σ : St} {H : Hp} {s : Shared} {T : String} {x : V} {v : Value} (I : Inv X pins σ H s) (r : RelV x v) (ty : tyV X.K T x H) :
    s.TypeIs v T ∧ ∀ a, v = .ref a → ∃ ob, s.heap.get? a = some ob ∧ ob.dict = none := by
  cases x with
  | str z =>
    obtain ⟨t, rfl⟩ := r
    cases (show T = "str" from ty)
    exact ⟨typeIs_str s z t, fun _ e => nomatch e⟩
  | int i =>
    obtain ⟨t, rfl⟩ := r
    cases (show T = "int" from ty)
    exact ⟨typeIs_int s i t, fun _ e => nomatch e⟩
  | ref p =>
    cases r
    rcases ty with ⟨rfl, xs, hq⟩ | ⟨rfl, o, hk, hc, hd⟩ | ⟨rfl, hk⟩ | ⟨rfl, ks, hk⟩
    · obtain ⟨its, _, pl, _⟩ := I.list hq
      refine ⟨pl.isList.typeIs, fun a e => ?_⟩
      cases e
      obtain ⟨o, n, e, c, hd, _⟩ := pl
      exact ⟨o, e, hd⟩
    · refine ⟨⟨o, I.kIn p o hk, hc⟩, fun a e => ?_⟩
      cases e
      exact ⟨o, I.kIn _ o hk, hd⟩
    · have z : ∃ o, s.heap.get? p = some o ∧ o.ExactDict := by
        rcases hk with ⟨kvs, hk⟩ | ⟨kvs, hk⟩
        · obtain ⟨_, _, _, _, o, _, _, e, ex, _⟩ := I.hok p _ hk
          exact ⟨o, e, ex⟩
        · obtain ⟨_, _, _, _, o, _, _, e, ex, _⟩ := I.hok p _ hk
          exact ⟨o, e, ex⟩
      obtain ⟨o, e, ex⟩ := z
      refine ⟨⟨o, e, ex.1⟩, fun a e2 => ?_⟩
      cases e2
      exact ⟨o, e, ex.2.1⟩
    · obtain ⟨o, _, _, _, _, e, ex, _⟩ := I.hok p _ hk
      refine ⟨⟨o, e, ex.1⟩, fun a e2 => ?_⟩
      cases e2
      exact ⟨o, e, ex.2.1⟩
  | _ => exact False.elim ty
def tBM (K : PySem.W.Frag) (T : String) (r : V → List V → Hp → VK → Prop) (to : TE) (t : TA) : TE := fun σ H Q => to σ H fun x H1 => tyV K T x H1 ∧ t σ H1 fun xs H2 => r x xs H2 Q
variable {o e : Expr} {es : List Expr} {to : TE} {t : TA} {name : Str} {apos cpos : Pos} {T id : String} {r : V → List V → Hp → VK → Prop}
theorem pe_bm (pa : PlainAttrs T) (slot : Slot T name id) (hty : typeOf (.builtin id) = pure (.type "method_descriptor")) (hm : MtR X id r) (ho : PE X o to) (ha : PA X (e :: es) t)
    (hbase : attributeBase o name X.env (eval o X.env) = eval o X.env := by rfl)
    (hfew : ((backTo cpos (starEach (e :: es) X.env)).all (fun x => !x.1) && (backToKw cpos (keywordEach [] X.env)).all (fun x => x.1.isSome)
      && decide ((e :: es).length + ([] : List Keyword).length + (if ([] : List Keyword).isEmpty then 0 else 1) < 30)) = true := by rfl)
    (hline : (apos.endLine == cpos.line) = true := by rfl) (hs : starEach (e :: es) X.env = (false, eval e X.env) :: starEach es X.env := by rfl) (hplain : (backTo cpos (starEach es X.env)).any (·.1) = false := by rfl) :
    PE X (.Call (.Attribute o name apos) (e :: es) [] cpos) (tBM X.K T r to t) := by
  intro pins s σ H Q I h
  refine wpAny_Call_method_late hbase hfew hline rfl (thn (ho pins s σ H _ I h) fun v s1 ⟨x, H1, I1, r1, ty, q1⟩ => ?_)
  obtain ⟨h1, h2⟩ := tyV_is I1 r1 ty
  refine ⟨T, id, pa, slot, hty, h1, h2, ?_⟩
  have hA := ha cpos pins s1 σ H1 _ I1 q1
  rw [hs] at hA ⊢
  refine Calls.callWith_builtin (by show (false || (backTo cpos (starEach es X.env)).any (·.1)) = false; rw [hplain] <;> rfl) (Calls.evalArgs_plain ?_)
  exact thn hA fun us s2 ⟨vs, H2, I2, r2, q2⟩ => hm pins s2 σ H2 x vs v us Q I2 r1 r2 q2
end
end L2
namespace L2
open PySem PySem.Spec PyProof.Rows
def MtM (X : Cx) (id : String) (r : V → List V → Hp → VK → Prop) : Prop :=
  ∀ (pins : List (Addr × Obj)) (s : Shared) (σ : St) (H : Hp) (x : V) (xs : List V) (v : Value) (us : List Value) (Q : VK), Inv X pins σ H s → RelV x v → Vals xs us → r x xs H Q →
    wpAny (model X.prog X.w) X.A (call (.builtin id) (v :: us)) (EP X pins σ Q) X.xe s
theorem Vals.one : ∀ {x : V} {us : List Value}, Vals [x] us → ∃ u, us = [u] ∧ RelV x u
  | _, _, .cons r .nil => ⟨_, rfl, r⟩
theorem Vals.zero : ∀ {us : List Value}, Vals [] us → us = []
  | _, .nil => rfl
theorem Vals.eraseIdx : ∀ {xs : List V} {us : List Value} (i : Nat), Vals xs us → Vals (xs.eraseIdx i) (us.eraseIdx i)
  | _, _, _, .nil => .nil
  | _, _, 0, .cons _ t => t
  | _, _, i + 1, .cons r t => .cons r (Vals.eraseIdx i t)
theorem Vals.reverse {xs : List V} {us : List Value} (h : Vals xs us) : Vals xs.reverse us.reverse := by
  induction h with
  | nil => exact .nil
  | cons r t ih => rw [List.reverse_cons, List.reverse_cons]; exact Vals.append ih (.cons r .nil)
theorem Vals.rep {xs : List V} {us : List Value} (h : Vals xs us) : ∀ k : Nat, Vals (List.replicate k xs).flatten (List.replicate k us).flatten
  | 0 => .nil
  | k + 1 => by
    rw [List.replicate_succ, List.replicate_succ, List.flatten_cons, List.flatten_cons]
    exact Vals.append h (Vals.rep h k)
theorem len_erase {α : Type} : ∀ (l : List α) (i : Nat), (l.eraseIdx i).length ≤ l.length
  | [], _ => Nat.le_refl _
  | _ :: _, 0 => Nat.le_succ _
  | _ :: r, i + 1 => Nat.succ_le_succ (len_erase r i)
theorem foldl_rep (its : List Value) : ∀ (k : Nat) (acc : List Value),
    List.foldl (fun x1 x2 => x1 ++ x2) acc.toArray (List.replicate k its.toArray) = (acc ++ (List.replicate k its).flatten).toArray
  | 0, acc => by simp
  | k + 1, acc => by
    have e : acc.toArray ++ its.toArray = (acc ++ its).toArray := by simp
    have e2 : (acc ++ its) ++ (List.replicate k its).flatten = acc ++ (List.replicate (k + 1) its).flatten := by
      rw [List.replicate_succ, List.flatten_cons, List.append_assoc]
    rw [← e2, ← foldl_rep its k (acc ++ its), ← e, List.replicate_succ, List.foldl_cons]
section
variable {X : Cx} {pins : List (Addr × Obj)} {σ : St} {H : Hp} {s : Shared} {l b : Addr} {xs ys zs : List V}
theorem Inv.lset {its its' : List Value} {n : Nat} {f : Array Value → Array Value} {t' : Nat} (I : Inv X pins σ H s) (hH : H l = some (.lst xs))
    (e : s.heap.get? l = some { cls := .type "list", data := .seq its.toArray n }) (hf : f its.toArray = its'.toArray) (hv : Vals ys its') (hz : ys.length ≤ sizeLine) :
    Inv X pins σ (upd H l (.lst ys)) { s with heap := s.heap.update l (Obj.mapSeq f), toks := t' } := by
  have q := PySem.IsL.update e f
  rw [hf] at q
  refine I.write (x := l) (e := l) (by rw [hH]; exact trivial) (.inl rfl) (fun b' u hb hu => (Heap.get?_update_other s.heap (Obj.mapSeq f) (Ne.symm hb)).trans hu) ⟨_, q⟩ ?_
  exact ⟨hz, its', _, hv, q⟩
theorem Inv.lnew {its : List Value} {t' : Nat} (I : Inv X pins σ H s) (hv : Vals ys its) (hz : ys.length ≤ sizeLine) :
    Inv X pins σ (upd H s.heap.objs.size (.lst ys)) { s with heap := s.heap.push { cls := .type "list", data := .seq its.toArray }, toks := t' } :=
  I.laid (fun _ _ q => Heap.get?_push_of_some _ q) (Nat.le_refl _) ⟨hz, its, 0, hv, Heap.get?_push_size _ rfl⟩
theorem Inv.fresh (I : Inv X pins σ H s) : H s.heap.objs.size = none := I.hok.fresh (Nat.le_refl _)
theorem Inv.lstM (I : Inv X pins σ H s) (hH : H l = some (.lst xs)) : xs.length ≤ sizeLine ∧ ∃ (its : List Value) (n : Nat), Vals xs its ∧ xs.length = its.length ∧ s.heap.get? l = some { cls := .type "list", data := .seq its.toArray n } := by
  obtain ⟨z, its, n, r, e⟩ := I.hok l _ hH
  exact ⟨z, its, n, r, r.length, e⟩
theorem notLongL {n : Nat} (h : n ≤ sizeLine) : Builtin.List.listTooLong n = false := by
  unfold Builtin.List.listTooLong
  exact decide_eq_false (by omega)
end
section
variable {X : Cx}
def rAppend : V → List V → Hp → VK → Prop := fun x vs H Q => ∃ l xs y, x = .ref l ∧ vs = [y] ∧ H l = some (.lst xs) ∧ xs.length < sizeLine ∧ Q .non (upd H l (.lst (xs ++ [y])))
theorem mt_append : MtM X "list.append" rAppend := by
  intro pins s σ H x vs v us Q I rx rv h
  obtain ⟨l, xs, y, rfl, rfl, hH, hz, q⟩ := h
  cases rx
  obtain ⟨u, rfl, ru⟩ := rv.one
  obtain ⟨z, its, n, r, hl, e⟩ := I.lstM hH
  refine call_meets F.slot_list_append ⟨_, e, rfl⟩ F.entry_list_append (F.args_list_append_2 _ _) (PySem.list_append l its.toArray n u (by rw [List.size_toArray]; omega)) ⟨e, ?_⟩
  refine ⟨.non, _, I.lset (its' := its ++ [u]) hH e (by simp) (r.append (.cons ru .nil)) ?_, rfl, q⟩
  rw [List.length_append, List.length_singleton]
  omega
def rPopAt : V → List V → Hp → VK → Prop := fun x vs H Q => ∃ l xs i k y, x = .ref l ∧ vs = [.int i] ∧ H l = some (.lst xs) ∧ -(2 ^ 63) ≤ i ∧ i < 2 ^ 63 ∧ seqIndex? i xs.length = some k ∧ xs[k]? = some y ∧ Q y (upd H l (.lst (xs.eraseIdx k)))
theorem mt_popAt : MtM X "list.pop" rPopAt := by
  intro pins s σ H x vs v us Q I rx rv h
  obtain ⟨l, xs, i, k, y, rfl, rfl, hH, h1, h2, hk, hy, q⟩ := h
  cases rx
  obtain ⟨u, rfl, ru⟩ := rv.one
  obtain ⟨t, rfl⟩ := ru
  obtain ⟨z, its, n, r, hl, e⟩ := I.lstM hH
  obtain ⟨w, hw, rw'⟩ := r.get hy
  refine call_meets F.slot_list_pop ⟨_, e, rfl⟩ F.entry_list_pop (F.args_list_pop_2 _ _)
    (MeetsSeq.list_pop_at l its.toArray n i t k w (fitsIndex_both h1 h2) (by rw [List.size_toArray, ← hl]; exact hk) (by rw [← Array.getElem?_toList]; exact hw) (by rw [List.size_toArray]; omega)) ⟨e, ?_⟩
  refine ⟨y, _, I.lset (its' := its.eraseIdx k) hH e ?_ (r.eraseIdx k) ?_, rw', q⟩
  · show its.toArray.eraseIdxIfInBounds k = (its.eraseIdx k).toArray
    rw [List.eraseIdxIfInBounds_toArray]
  · have := len_erase xs k
    omega
def rCat : R2 := fun x y H Q => ∃ l b xs zs, x = .ref l ∧ y = .ref b ∧ H l = some (.lst xs) ∧ H b = some (.lst zs) ∧ xs.length + zs.length ≤ sizeLine ∧ ∀ p, H p = none → Q (.ref p) (upd H p (.lst (xs ++ zs)))
theorem op_cat : OpR X (binaryOp .Add) rCat := by
  intro pins s σ H x y v u Q I rx ry h
  obtain ⟨l, b, xs, zs, rfl, rfl, hH, hB, hz, q⟩ := h
  cases rx
  cases ry
  obtain ⟨z, its, n, r, hl, e⟩ := I.lstM hH
  obtain ⟨z2, its2, n2, r2, hl2, e2⟩ := I.lstM hB
  refine PySem.P.add_list e e2 ?_ (by rw [List.size_toArray, List.size_toArray]; omega)
  have ea : its.toArray ++ its2.toArray = (its ++ its2).toArray := by simp
  rw [ea]
  exact ⟨.ref _, _, I.lnew (t' := s.toks) (r.append r2) (by rw [List.length_append]; omega), rfl, q _ I.fresh⟩
def rRep : R2 := fun x y H Q => ∃ l k xs, x = .ref l ∧ y = .int k ∧ H l = some (.lst xs) ∧ -(2 ^ 63) ≤ k ∧ k < 2 ^ 63 ∧ xs.length * k.toNat ≤ sizeLine ∧
  ∀ p, H p = none → Q (.ref p) (upd H p (.lst (List.replicate k.toNat xs).flatten))
theorem len_rep {α : Type} (xs : List α) (k : Nat) : (List.replicate k xs).flatten.length = k * xs.length := by
  induction k with
  | zero => simp
  | succ k ih => rw [List.replicate_succ, List.flatten_cons, List.length_append, ih, Nat.succ_mul, Nat.add_comm]
theorem op_rep : OpR X (binaryOp .Mult) rRep := by
  intro pins s σ H x y v u Q I rx ry h
  obtain ⟨l, k, xs, rfl, rfl, hH, h1, h2, hz, q⟩ := h
  cases rx
  obtain ⟨t, rfl⟩ := ry
  obtain ⟨z, its, n, r, hl, e⟩ := I.lstM hH
  have hlen : its.toArray.size * k.toNat ≤ sizeLine := by rw [List.size_toArray, ← hl]; exact hz
  have hcap : ¬ its.toArray.size * k.toNat > (2 ^ 63 - 1) / 8 := by
    have : (sizeLine : Nat) ≤ (2 ^ 63 - 1) / 8 := by decide
    omega
  have hfit : ¬ (!Builtin.List.listFitsIndex k) = true := by
    rw [fitsIndex_both h1 h2]
    exact Bool.false_ne_true
  have hlong : ¬ Builtin.List.listTooLong (its.toArray.size * k.toNat) = true := by
    rw [notLongL hlen]
    exact Bool.false_ne_true
  have hnew : List.foldl (fun x1 x2 => x1 ++ x2) #[] (List.replicate (if its.toArray.isEmpty = true then 0 else k.toNat) its.toArray) = (List.replicate k.toNat its).flatten.toArray := by
    have f0 : ∀ m : Nat, List.foldl (fun x1 x2 => x1 ++ x2) #[] (List.replicate m its.toArray) = (List.replicate m its).flatten.toArray := fun m => by
      have := foldl_rep its m []
      rw [List.nil_append] at this
      exact this
    rw [f0]
    cases its with
    | nil => simp
    | cons a r' => rw [if_neg (by simp)]
  refine wpAny_binaryOp_repeat_ref (T := "list") (U := "int") (by decide) ⟨_, e, rfl⟩ (fun s' => typeIs_int s' k t) noFill_list_mul F.fills_int_mul F.slot_int_rmul repeat_list F.slot_int_index.lookup
    (call_meets F.slot_int_rmul (typeIs_int s k t) F.entry_int_rmul (F.args_int_rmul_2 _ _) (int___rmul___int_list k t l its.toArray n)
      ⟨e, rfl, ⟨_, e, rfl⟩, call_meets F.slot_list_mul ⟨_, e, rfl⟩ F.entry_list_mul (F.args_list_mul_2 _ _) (AutoListH.list___mul___list_int_3 l its.toArray n k t hfit hcap hlong) ⟨e, ?_⟩⟩)
  rw [hnew]
  exact ⟨.ref _, _, I.lnew (t' := s.toks) (r.rep k.toNat) (by rw [len_rep, Nat.mul_comm]; exact hz), rfl, q _ I.fresh⟩
end
section
variable {prog : Program} {w : World} {A : Around} {E : Value → Shared → Prop} {s : Shared}
theorem bounds_run {a c n : Nat} (hac : a ≤ c) (hc : c ≤ n) : sliceBounds (some (a : Int)) (some (c : Int)) none n = ((a : Int), (c : Int), 1) := by
  simp only [sliceBounds, Option.getD_none]
  have h1 : ¬ ((a : Int) < 0) := by omega
  have h2 : ¬ ((c : Int) < 0) := by omega
  simp only [h1, h2, if_false, show (1 : Int) > 0 by decide, if_true]
  congr 1
  · omega
  · congr 1; omega
set_option maxRecDepth 100000 in
theorem setItem_slice {l b sl : Addr} {items new : Array Value} {n n2 : Nat} {vl vu : Value} {a c : Nat} {Q : Unit → Shared → Prop}
    (e : s.heap.get? l = some { cls := .type "list", data := .seq items n }) (e2 : s.heap.get? b = some { cls := .type "list", data := .seq new n2 }) (hne : l ≠ b)
    (hs : s.heap.IsSliceOf sl vl vu .none) (pl : IsPart vl (some (a : Int))) (pu : IsPart vu (some (c : Int))) (hac : a ≤ c) (hc : c ≤ items.size)
    (hsz : items.size + new.size ≤ sizeLine) (h : Q () { s with heap := s.heap.update l (Obj.mapSeq fun xs => xs.extract 0 a ++ new ++ xs.extract c xs.size) }) :
    wpAny (model prog w) A (setItem (.ref l) (.ref sl) (.ref b)) Q E s := by
  have hl : s.heap.IsList l items := PySem.IsL.isList e
  have hb : s.heap.IsList b new := PySem.IsL.isList e2
  obtain ⟨os, hos, hcs, hds⟩ := id hs
  have hTs : s.TypeIs (.ref sl) "slice" := ⟨os, hos, hcs⟩
  have hstep : ¬ ((rawPart none == rawInt 0) = true) := Bool.false_ne_true
  have hsame : Builtin.List.listSameRef (.ref l) (.ref b) = false := by
    unfold Builtin.List.listSameRef
    exact beq_eq_false_iff_ne.mpr hne
  have hmax : (max (a : Int) (c : Int)).toNat = c := by omega
  have hz' : ((fun xs : Array Value => xs.extract 0 a ++ new ++ xs.extract c xs.size) items).size ≤ sizeLine + 1 := by
    simp only [Array.size_append, Array.size_extract]
    omega
  unfold setItem
  try with_reducible refine wpAny_holding ?_
  first | refine wpAny_bind (wpAny_pure ?_) | skip
  refine wpAny_bind (wpAny_sequenceKey hl.typeIs (by decide) ?_)
  refine wpAny_bind (wpAny_callSpecial?_slot (name := Str.ofString "__setitem__") hl.typeIs slot_list_setitem
    (wpAny_call_entry slot_list_setitem hl.typeIs entry_list_setitem ?_ (args_list_setitem _ _ _)))
  show wpAny _ _ (Builtin.List.listSubscript? (.ref sl) >>= _) _ _ s
  refine wpAny_bind ?_
  unfold Builtin.List.listSubscript?
  refine wpAny_bind (wpAny_specialOf hTs slice_no_index ?_)
  simp only [Option.isNone_none, if_true]
  refine wpAny_pure ?_
  show wpAny _ _ (typeOf (.ref sl) >>= _) _ _ s
  refine wpAny_bind (wpAny_typeOf hTs ?_)
  first
    | rw [if_neg (by decide)]
    | refine PySem.W.KFB.if_not (by decide) ?_
  rw [listSliceParts_eq]
  refine wpAny_bind (wpAny_bind (wpAny_field hos hds (x := .none) rfl (wpAny_bind (wpAny_listPart .none ?_))))
  rw [if_neg hstep]
  refine wpAny_bind (wpAny_field hos hds (x := vl) rfl (wpAny_bind (wpAny_listPart pl ?_)))
  refine wpAny_bind (wpAny_field hos hds (x := vu) rfl (wpAny_bind (wpAny_listPart pu (wpAny_pure ?_))))
  first
    | simp only [hsame, Bool.false_eq_true, if_false]
    | refine PySem.W.KFB.if_not hsame ?_
    | (dsimp only
       rw [if_neg (by rw [hsame]; exact Bool.false_ne_true)])
  refine wpAny_bind (m := Builtin.List.listAllItems (.ref b) "must assign iterable to extended slice") ?_
  unfold Builtin.List.listAllItems
  refine wpAny_bind (wpAny_typeOf hb.typeIs ?_)
  first
    | refine PySem.W.KFB.if_so (by decide) ?_
    | rw [if_pos (by decide)]
    | simp only [beq_self_eq_true, Bool.true_or, if_true]
  unfold Builtin.List.listItems
  refine wpAny_bind (wpAny_seqItems e2 rfl (wpAny_pure ?_))
  refine wpAny_bind (wpAny_bind (wpAny_seqItems e rfl (wpAny_pure ?_)))
  refine wpAny_bind (wpAny_of_eq ((sliceIndices_raw (some (a : Int)) (some (c : Int)) none items.size (by simp)).trans (congrArg (pure : Int × Int × Int → Sem (Int × Int × Int)) (bounds_run hac hc))) ?_)
  show wpAny _ _ (if ((1 : Int) == 1) = true then _ else _) _ _ s
  rw [if_pos (by decide)]
  refine wpAny_bind (wpAny_rule ?_)
  first
    | simp only [notLongL hsz, Bool.false_eq_true, if_false]
    | refine PySem.W.KFB.if_not (notLongL hsz) ?_
  first | refine wpAny_bind (wpAny_pure ?_) | skip
  show wpAny _ _ (updateSeq l (fun xs => xs.extract 0 ((a : Int)).toNat ++ new ++ xs.extract (max (a : Int) (c : Int)).toNat xs.size) >>= _) _ _ s
  rw [hmax, Int.toNat_natCast]
  refine wpAny_bind (wpAny_updateSeq (hz := Nat.le_trans (Nat.le_add_right _ _) hsz) (_hz' := hz') e rfl ?_)
  refine wpAny_bind (wpAny_letGo ?_)
  first
    | exact wpAny_bind (wpAny_pure (wpAny_pure ⟨.none, rfl, wpAny_pure h⟩))
    | exact wpAny_pure ⟨.none, rfl, wpAny_pure h⟩
end
section
variable {X : Cx}
end
end L2
namespace Att
open PySem PySem.W PySem.Calls PyProof.Rows
theorem ints_of_wellAll {P : Params} {h : Heap} : ∀ (ns : List Int) (vs : List Value), WellAll P h vs (ns.map WData.int) → IntsAre vs ns := by
  intro ns
  induction ns with
  | nil =>
    intro vs w
    rw [List.map_nil] at w
    cases w
    exact .nil
  | cons n ns ih =>
    intro vs w
    rw [List.map_cons] at w
    cases w with
    | cons a b =>
      cases a
      exact .cons _ _ (ih _ b)
theorem script_of {l : OpenLaw} {n : Nat} (hn : l.most = some n) {P : Params} {h : Heap} {args : List WData} {vals : List Value}
    (hpre : l.row.toRowW.claim.pre args = true) (hwl : WellAll P h vals args) :
    ∃ a vs ns, vals = [Value.ref a] ∧ args = [WData.list (ns.map WData.int)] ∧ h.get? a = some { cls := .type "list", data := .seq vs.toArray } ∧ IntsAre vs ns ∧ ns.length ≤ n := by
  have hsh : WShape.hasAll [] args [.list .int] = true := (pre_splitW hpre).1
  have hc : l.pre.holds [] { args := args } = true := (pre_splitW hpre).2
  obtain ⟨d, r, rfl, h1, h2⟩ := hasAllW_cons hsh
  obtain rfl := hasAllW_nil h2
  obtain ⟨xs, rfl, h3⟩ := hasW_list h1
  obtain ⟨ns, rfl⟩ := items_int h3
  have hlen : ns.length ≤ n := by
    unfold OpenLaw.pre at hc
    have h4 : (WTm.not (.lt (.lit (.int (n : Int))) (.len (.arg 0)))).holds [] { args := [.list (ns.map .int)] } = true := by
      have h4 := (holds_andW hc).1
      rw [hn] at h4
      exact h4
    have h5 := condW_of h4 (w_not (w_lt w_lit (w_len_list (w_arg rfl))))
    rw [List.length_map] at h5
    refine Nat.le_of_not_lt fun q => ?_
    have q' : (n : Int) < ((ns.length : Nat) : Int) := by omega
    first
      | (rw [decide_eq_true q'] at h5; exact absurd h5 (by decide))
      | (simp at h5; omega)
  cases hwl with
  | cons w1 w2 =>
    cases w2
    cases w1 with
    | list ho hall => exact ⟨_, _, ns, rfl, rfl, ho, ints_of_wellAll ns _ hall, hlen⟩
theorem post_true (l : OpenLaw) (args : List WData) : l.row.toRowW.claim.post args (.bool true) args = true :=
  postW_of (r := l.row.toRowW) (X := (true == true))
    (show WShape.has [] (.bool true) .bool = true by first | rfl | decide | simp [WShape.has, WShape.arms, WShape.armsAll])
    (show (WTm.eq .res (.lit (.bool true))).value [] { args := args, res := some (.bool true), after := args } = some (.bool (true == true)) from w_eq_bool (w_res rfl) w_lit) rfl
theorem attach_call {l : OpenLaw} {n : Nat} {q : Program} {loose : List Str} {XP : (Str → Option Value) → Heap → Prop} {YP : World → Heap → Prop} {d : DefRec}
    (hn : l.most = some n) (hdf : d.params.defaults = [])
    (call : ∀ (w : World) (s₀ s₁ : Shared) (mg mb : Str → Option Value) (fa : Addr) (o : Obj) (pm cd doc : Value) (a : Addr) (vs : List Value) (ns : List Int),
      Ground q loose [] XP w s₀ mg mb s₁.heap → YP w s₁.heap →
      s₁.heap.get? fa = some o → o.data = .func (docDef d.name d.params d.body d.scope pm cd doc) → s₁.heap.CodeRec cd d.name → mg d.name = some (.ref fa) →
      s₁.heap.get? a = some { cls := .type "list", data := .seq vs.toArray } → IntsAre vs ns → ns.length ≤ n → s₁.gens = #[] →
      codeAny (model l.prog w) callerA (.call (.ref fa) ⟨[.ref a], []⟩) (fun r s' => r = .ok (.ret (.bool true)) ∧ OldK s₁.heap s'.heap ∧ s'.os = s₁.os ∧ AllBare s'.gens) s₁) :
    WalkO q loose XP YP l.row.toRowW d [] (fun f vs => PySem.call f vs) := by
  intro w s₀ s₁ mg mb G Y fa o pm cd doc dV kV ho hd hcd hD hmg hg args vals as hpre hlay hrd hwl hlo
  obtain rfl : dV = .none := Dflts.none hD hdf
  obtain rfl : kV = .none := Dflts.noKw hD
  obtain ⟨a, vs, ns, rfl, rfl, hobj, hints, hlen⟩ := script_of hn hpre hwl
  refine enter_call (codeAny_mono (call w s₀ s₁ mg mb fa o pm cd doc a vs ns G Y ho (fd_plain hd) hcd hmg hobj hints hlen hg) fun r s' hq => ?_)
  obtain ⟨rfl, h2, h3, h4⟩ := hq
  exact ⟨.inl ⟨.bool true, .bool true, [], rfl, fun _ => rfl, .bool true, post_true l _, fun _ => ⟨List.Pairwise.nil, fun _ hm => (nomatch hm)⟩⟩, h2, h3, h4⟩
section
variable {prog : Program} {w : World} {A : Around} {E : Value → Shared → Prop} {s : Shared} {K : Frag}
end
end Att
namespace L2
open PySem PySem.Spec PyProof.Rows
theorem vals_ints : ∀ {vs : List Value} {ns : List Int}, IntsAre vs ns → Vals (ns.map V.int) vs
  | _, _, .nil => .nil
  | _, _, .cons n t h => .cons ⟨t, rfl⟩ (vals_ints h)
def Only (H : Hp) : Prop := ∀ b, H b = none ∨ ∃ o xs, H b = some (.frz o (.lst xs))
theorem law_call {P : Program} {w : World} {K : PySem.W.Frag} {mg mb : Str → Option Value} {CX : CXT} {k : Nat} {fa a : Addr} {fd : FuncData} {x : Str} {sp : Sp} {s₁ : Shared} {vs : List Value} {ns : List Int}
    (KX : K.In s₁.heap) (hns : s₁.heap.Ns mainGlobals mg) (hb : s₁.heap.Ns builtinsNs mb) (hbb : ∀ x : Str, x ≠ "__name__" → mb x = bootBuiltins x) (hlim : s₁.heap.NoLimit) (hg : s₁.gens = #[])
    (ha : s₁.heap.get? a = some { cls := .type "list", data := .seq vs.toArray }) (hi : IntsAre vs ns) (hl : ns.length ≤ sizeLine) (hr : Room k callerA)
    (F : ∀ base : Heap, K.In base → base.Ns mainGlobals mg → FnOk P w K mg base CX k fa fd [x] sp) (hbind : ∀ (s : Shared) (u : Value), BindsTo s fd ⟨[u], []⟩ [(x, u)])
    (hsp : ∀ H : Hp, Only H → SqL K H a (ns.map V.int) → sp [.ref a] H (fun v _ => v = .bl true) fun _ _ _ => False)
    (hCX : ∀ H e s', CX [] H s₁ (fun _ _ _ => False) e s' → False) :
    codeAny (model P w) callerA (.call (.ref fa) ⟨[.ref a], []⟩) (fun r s' => r = .ok (.ret (.bool true)) ∧ OldK s₁.heap s'.heap ∧ s'.os = s₁.os ∧ AllBare s'.gens) s₁ := by
  have rv := vals_ints hi
  have lenV := hi.length
  have core : ∀ H : Hp, Only H → SqL K H a (ns.map V.int) → HOk P w H s₁.heap → (∀ b, H b ≠ none → b = a) → (H a ≠ none → K.lookup a = none) →
      codeAny (model P w) callerA (.call (.ref fa) ⟨[.ref a], []⟩) (fun r s' => r = .ok (.ret (.bool true)) ∧ OldK s₁.heap s'.heap ∧ s'.os = s₁.os ∧ AllBare s'.gens) s₁ := by
    intro H hO hS hok hA hK
    have base_of : ∀ {b : Addr} {o : Obj}, s₁.heap.get? b = some o → H b = none → (hidT s₁.heap H).get? b = some o := fun e n => hidT_get e n
    have noA : ∀ {b : Addr} {o : Obj} {es : Array DictEntry} {ep : Nat}, s₁.heap.get? b = some o → o.data = .dict es ep → H b = none := fun {b o es ep} e d => by
      cases q : H b with
      | none => rfl
      | some u =>
        have e' : b = a := hA b (by rw [q]; simp)
        subst e'
        rw [ha] at e; cases e
        have d' : Data.seq vs.toArray _ = Data.dict es ep := d
        cases d'
    have nsK : ∀ {b : Addr} {m : Str → Option Value}, s₁.heap.Ns b m → (hidT s₁.heap H).Ns b m := fun {b m} ⟨o, es, ep, e, d, r⟩ => ⟨o, es, ep, base_of e (noA e d), d, r⟩
    have hKb : K.In (hidT s₁.heap H) := fun b o e => base_of (KX b o e) (by
      cases q : H b with
      | none => rfl
      | some u =>
        have e' : b = a := hA b (by rw [q]; simp)
        subst e'
        rw [hK (by rw [q]; simp)] at e; cases e)
    have hM : Mod K mg (hidT s₁.heap H) := ⟨hKb, nsK hns, ⟨mb, nsK hb, hbb⟩, let ⟨mc, h1, h2⟩ := hlim; ⟨mc, nsK h1, h2⟩⟩
    have e0 : Env0 P w K mg (hidT s₁.heap H) callerA [] s₁ H := ⟨rfl, hM, fun b o e => of_hidT e, Nat.le_of_eq (hidT_size _ _), trivial, fun b hb => absurd (show b ∈ ([] : List Addr) from hb) (by simp), hok, .of_eq hg⟩
    refine codeAny_mono ((F _ hKb (nsK hns)).run callerA [] s₁ H ⟨[.ref a], []⟩ [.ref a] [.ref a] _ _ hr e0 (hbind s₁ (.ref a)) (.cons rfl .nil) (hsp H hO hS)) fun r s' h => ?_
    cases r with
    | error e => exact (hCX H e s' h).elim
    | ok fl =>
      cases fl with
      | next => exact False.elim h
      | brk => exact False.elim h
      | cont => exact False.elim h
      | ret u =>
        obtain ⟨v, H', os, bare, un, hok', r', q⟩ := h
        have q' : v = .bl true := q
        subst q'
        obtain rfl : u = Value.bool true := r'
        refine ⟨rfl, OldK.of_keep fun b o e => ?_, os, bare⟩
        cases q : H b with
        | none => exact un.keep b o e q (by intro z; exact absurd (show b ∈ ([] : List Addr) from z) (by simp)) (by simp)
        | some u =>
          rcases hO b with z | ⟨ob, xs, z⟩
          · rw [q] at z; cases z
          · have z2 := un.frzs b ob _ z
            obtain ⟨e1, _⟩ := hok b _ z
            obtain ⟨e2, _⟩ := hok' b _ z2
            rw [e] at e1; cases e1
            exact e2
  cases hk : K.lookup a with
  | some o =>
    have e := KX a o hk
    rw [ha] at e
    cases e
    refine core (fun _ => none) (fun _ => .inl rfl) (.inr ⟨_, vs.toArray, _, hk, rfl, rfl, rfl, by rw [List.size_toArray, lenV]; exact hl, by simpa using rv⟩) (fun b u z => by have z' : (none : Option HO) = some u := z; cases z') (fun b z => absurd rfl z) fun z => absurd rfl z
  | none =>
    refine core (fun b => if b = a then some (.frz { cls := .type "list", data := .seq vs.toArray } (.lst (ns.map V.int))) else none) (fun b => ?_) (.inl (.inr ⟨{ cls := .type "list", data := .seq vs.toArray }, if_pos rfl⟩)) (fun b u z => ?_) (fun b z => ?_) fun _ => hk
    · by_cases hb : b = a
      · exact .inr ⟨_, _, if_pos hb⟩
      · exact .inl (if_neg hb)
    · by_cases hb : b = a
      · have z' := (if_pos hb).symm.trans z
        cases z'
        subst hb
        exact ⟨ha, by rw [List.length_map]; exact hl, vs, _, rv, ha⟩
      · have z' := (if_neg hb).symm.trans z
        cases z'
    · by_cases hb : b = a
      · exact hb
      · exact absurd (if_neg hb) z
end L2
namespace L2
open PySem PySem.Spec PyProof.Rows
abbrev KOf {K : PySem.W.Frag} {h : Heap} (_ : K.In h) : PySem.W.Frag := K
theorem walk_of {l : PySem.W.OpenLaw} {n k : Nat} {q : Program} {loose : List Str} {XP : (Str → Option Value) → Heap → Prop} {YP : World → Heap → Prop} {d : DefRec} {K : Params → PySem.W.Frag} {CX : World → CXT} {sp : World → Sp} {x : Str}
    (hn : l.most = some n) (hn2 : n ≤ sizeLine) (hdf : d.params.defaults = []) (hr : Room k callerA)
    (hY : ∀ (w : World) (h : Heap), YP w h → (K w.params).In h)
    (F : ∀ (w : World) (mg : Str → Option Value) (fa : Addr) (h : Heap), (K w.params).In h → h.Ns mainGlobals mg → mg d.name = some (.ref fa) →
      ∃ fd : FuncData, (∀ (s : Shared) (u : Value), BindsTo s fd ⟨[u], []⟩ [(x, u)]) ∧
        ∀ base : Heap, (K w.params).In base → base.Ns mainGlobals mg → FnOk l.prog w (K w.params) mg base (CX w) k fa fd [x] (sp w))
    (hsp : ∀ (w : World) (H : Hp) (a : Addr) (ns : List Int), ns.length ≤ n → Only H → SqL (K w.params) H a (ns.map V.int) → sp w [.ref a] H (fun v _ => v = .bl true) fun _ _ _ => False)
    (hCX : ∀ (w : World) (H : Hp) (s : Shared) (e : Value) (s' : Shared), CX w [] H s (fun _ _ _ => False) e s' → False) :
    PySem.W.WalkO q loose XP YP l.row.toRowW d [] (fun f vs => PySem.call f vs) := by
  refine Att.attach_call hn hdf fun w s₀ s₁ mg mb fa o pm cd doc a vs ns G Y ho hd hcd hmg hobj hints hlen hg => ?_
  have KX := hY w _ Y
  obtain ⟨fd, hb, hF⟩ := F w mg fa _ KX G.T.g hmg
  exact law_call KX G.T.g G.T.b G.T.builtins G.T.nolimit hg hobj hints (Nat.le_trans hlen hn2) hr hF hb (fun H hO hS => hsp w H a ns hlen hO hS) fun H e s' => hCX w H s₁ e s'
end L2
namespace L2
open PySem PySem.Spec PyProof.Rows
def defArgs (s : Stmt) : Arguments := match s with
  | .FunctionDef _ a _ _ _ _ _ _ _ _ => a
  | _ => { posonlyargs := [], args := [], vararg := none, kwonlyargs := [], kw_defaults := [], kwarg := none, defaults := [] }
def defBody (s : Stmt) : List Stmt := match s with
  | .FunctionDef _ _ b _ _ _ _ _ _ _ => b
  | _ => []
def defScope (s : Stmt) : Scope := match s with
  | .FunctionDef _ _ _ _ _ _ sc _ _ _ => sc
  | _ => { kind := .function, names := [], isGenerator := false, isCoroutine := false }
abbrev CX0 : CXT := fun _ _ _ _ _ _ => False
abbrev E0 : XK := fun _ _ _ => False
theorem pass0 {X : Cx} : Passes CX0 X E0 := fun _ _ _ _ _ _ _ h => h.elim
structure Fun (K : PySem.W.Frag) (x qual : Str) (st : Stmt) (f : Addr) (fd : FuncData) : Prop where
  ex : ∃ (oc : Value) (od : Option Addr) (kV doc pm : Value) (an : Option Addr) (cdv ct : Value) (osl : Array (Option Value)),
    fd = PySem.W.fnOf x qual (defArgs st) (defBody st) (defScope st) .none kV doc pm an cdv ct ∧ K.lookup f = some ⟨oc, od, .func fd, osl⟩ ∧ PySem.W.codeIn K cdv qual = true
  kp : PySem.W.keepIn K (.ref f) = true
section
variable {P : Program} {w : World} {K : PySem.W.Frag} {mg : Str → Option Value} {base : Heap}
theorem Fun.ok {x qual : Str} {st : Stmt} {f : Addr} {fd : FuncData} {N ps : List Str} {k : Nat} {sp : Sp} (F : Fun K x qual st f fd) (S : FnScope N ps (defScope st)) (len : ∀ vs H Q E, sp vs H Q E → vs.length = ps.length)
    (hbody : ∀ (cdv : Value) (A : Around) (outer : List Env) (s : Shared) (H : Hp) (vs : List V) (Q : VK) (E : XK), Room k (A.deeper (envOfC qual (defScope st) s.heap.objs.size f cdv)) → sp vs H Q E →
      ∃ t, PSs (cxOf CX0 P w K mg base N qual (defScope st) f cdv A outer s H E).nox (defBody st) t ∧ t { nx := fun _ H' => Q .non H', rt := Q } (start N vs) H) : FnOk P w K mg base CX0 (k + 1) f fd ps sp := by
  obtain ⟨oc, od, kV, doc, pm, an, cdv, ct, osl, rfl, lk, hcd⟩ := F.ex
  refine fn_of lk hcd S len fun A outer s H vs Q E hr hsp => ?_
  obtain ⟨t, h, q⟩ := hbody cdv A outer s H vs Q E hr hsp
  exact ⟨t, h.nox, q⟩
theorem Fun.binds {x qual : Str} {st : Stmt} {f : Addr} {fd : FuncData} {ps : List Str} (F : Fun K x qual st f fd)
    (h : ∀ (kV doc pm : Value) (an : Option Addr) (cdv ct : Value) (us : List Value), us.length = ps.length → bindArgs (PySem.W.fnOf x qual (defArgs st) (defBody st) (defScope st) .none kV doc pm an cdv ct) ⟨us, []⟩ = pure (ps.zip us)) : Binds K fd ps [] := by
  obtain ⟨oc, od, kV, doc, pm, an, cdv, ct, osl, rfl, lk, hcd⟩ := F.ex
  exact .all (h kV doc pm an cdv ct)
theorem fun_mk {x qual : Str} {st : Stmt} {f : Addr} {oc : Value} {od an : Option Addr} {osl : Array (Option Value)} {kV doc pm cdv ct : Value} (l : K.lookup f = some ⟨oc, od, .func (PySem.W.fnOf x qual (defArgs st) (defBody st) (defScope st) .none kV doc pm an cdv ct), osl⟩)
    (c : PySem.W.codeIn K cdv qual = true) (k : PySem.W.keepIn K (.ref f) = true) : Fun K x qual st f (PySem.W.fnOf x qual (defArgs st) (defBody st) (defScope st) .none kV doc pm an cdv ct) := ⟨⟨oc, od, kV, doc, pm, an, cdv, ct, osl, rfl, l, c⟩, k⟩
end
section
variable {X : Cx}
end
def Same (H H' : Hp) : Prop := ∀ b o, H b = some o → H' b = some o
theorem Same.refl (H : Hp) : Same H H := fun _ _ h => h
theorem Same.trans {H H1 H2 : Hp} (a : Same H H1) (b : Same H1 H2) : Same H H2 := fun c o h => b c o (a c o h)
theorem Same.free {H H' : Hp} (e : Same H H') {l : Addr} (h : H' l = Option.none) : H l = Option.none := by
  cases q : H l with
  | none => rfl
  | some o =>
    rw [e l o q] at h
    cases h
theorem Same.seq {K : PySem.W.Frag} {H H' : Hp} {a : Addr} {xs : List V} (e : Same H H') (h : SqL K H a xs) : SqL K H' a xs := by
  rcases h with (h | ⟨o, h⟩) | h
  · exact .inl (.inl (e _ _ h))
  · exact .inl (.inr ⟨o, e _ _ h⟩)
  · exact .inr h
end L2
namespace L2
open PySem PySem.Spec PyProof.Rows
abbrev testsM (ifs : List Expr) (env : Env) : Sem Bool :=
  forIn ifs true fun c r => if r = true then do { let ok ← isTrue c env (eval c env); pure (ForInStep.yield ok) } else pure (ForInStep.yield r)
theorem comp_loop {prog : Program} {w : World} {A : Around} {R : Result → Shared → Prop} {s : Shared} {elt target iter : Expr}
    {ifs : List Expr} {scope : Scope} {pos : Pos} {it acc : Value} {env : Env} (I : Nat → Shared → Prop)
    (turn : ∀ n s, I n s → wpAny (model prog w) A (pyNext it) (fun r s1 => match r with
      | none => R (.ok .next) s1
      | some v => wpAny (model prog w) A (letOwnedTupleGo target it v) (fun _ s2 =>
          wpAny (model prog w) A (assign target env v) (fun _ s3 =>
            wpAny (model prog w) A (testsM ifs env) (fun ok s4 =>
              if ok = true then wpAny (model prog w) A (eval elt env) (fun x s5 =>
                wpAny (model prog w) A (call (.builtin "list.append") [acc, x]) (fun _ s6 => ∃ m, m < n ∧ I m s6)
                  (notedBy (model prog w) A env fun e s' => R (.error e) s') s5)
                  (notedBy (model prog w) A env fun e s' => R (.error e) s') s4
              else ∃ m, m < n ∧ I m s4)
              (notedBy (model prog w) A env fun e s' => R (.error e) s') s3)
            (notedBy (model prog w) A env fun e s' => R (.error e) s') s2)
          (notedBy (model prog w) A env fun e s' => R (.error e) s') s1)
      (notedBy (model prog w) A env fun e s' => R (.error e) s') s)
    (n : Nat) (h : I n s) :
    codeAny (model prog w) A (.compLoop (.ListComp elt [⟨target, iter, ifs, 0⟩] scope pos) 0 it acc env) R s := by
  refine codeAny_loop rfl I (fun n s hI => ?_) n h
  show wpAny _ A ((compTurn (.ListComp elt [⟨target, iter, ifs, 0⟩] scope pos) 0 it acc env).onRaise
    (fun x => do noteFrame x env; theTreesLotGoes x)) _ _ s
  refine wpAny_noted ?_
  rw [compTurn_list]
  refine wpAny_bind (wpAny_standAt (wpAny_bind (wpAny_mono (turn n s hI) (fun r s1 h1 => ?_) fun _ _ z => z)))
  cases r with
  | none => exact wpAny_pure h1
  | some v =>
    refine wpAny_bind (wpAny_mono h1 (fun _ s2 h2 => ?_) fun _ _ z => z)
    refine wpAny_bind (wpAny_mono h2 (fun _ s3 h3 => wpAny_bind (wpAny_mono h3 (fun ok s4 h4 => ?_) fun _ _ z => z)) fun _ _ z => z)
    cases ok with
    | false => exact wpAny_pure ⟨rfl, h4⟩
    | true =>
      refine wpAny_bind (wpAny_bind (wpAny_mono h4 (fun x s5 h5 => wpAny_bind (wpAny_mono h5 (fun _ s6 h6 => ?_) fun _ _ z => z)) fun _ _ z => z))
      exact wpAny_pure (wpAny_pure ⟨rfl, h6⟩)
def capCells (env : Env) : List (Str × NameKind) → List (Str × Addr) → List (Str × Addr)
  | [], acc => acc
  | (n, k) :: r, acc => capCells env r (if k == .free then match env.cells.lookup n with | some c => (n, c) :: acc | none => acc else acc)
theorem closure_eq {env : Env} : ∀ (names : List (Str × NameKind)) (acc : List (Str × Addr)), (∀ x ∈ names, x.2 = .free → ∃ c, env.cells.lookup x.1 = some c) →
    (forIn names acc fun (x : Str × NameKind) (r : List (Str × Addr)) => (if (x.2 == NameKind.free) = true then do { let c ← cellOf env x.1; pure (ForInStep.yield ((x.1, c) :: r)) } else pure (ForInStep.yield r) : Sem (ForInStep (List (Str × Addr))))) = (pure (capCells env names acc) : Sem _)
  | [], acc, _ => by rw [List.forIn_nil]; rfl
  | (n, k) :: r, acc, h => by
    rw [List.forIn_cons]
    have hr : ∀ x ∈ r, x.2 = .free → ∃ c, env.cells.lookup x.1 = some c := fun x hx => h x (List.mem_cons_of_mem _ hx)
    by_cases hk : k = .free
    · subst hk
      obtain ⟨c, hc⟩ := h (n, .free) List.mem_cons_self rfl
      have hc' : env.cells.lookup n = some c := hc
      simp only [capCells, beq_self_eq_true, if_true, cellOf, hc', pure_bind]
      exact closure_eq r _ hr
    · have hb : (k == NameKind.free) = false := by simpa using hk
      simp only [capCells, hb, Bool.false_eq_true, if_false, pure_bind]
      exact closure_eq r _ hr
theorem closureFor_eq {scope : Scope} {env : Env} (h : ∀ x ∈ scope.names, x.2 = .free → ∃ c, env.cells.lookup x.1 = some c) :
    closureFor scope env = pure (capCells env scope.names []) := by
  unfold closureFor
  exact congrArg (fun m : Sem (List (Str × Addr)) => m >>= fun z => pure z) (closure_eq scope.names [] h)
theorem cap_from {env : Env} : ∀ (names : List (Str × NameKind)) (acc : List (Str × Addr)) {x : Str} {c : Addr}, (capCells env names acc).lookup x = some c →
    env.cells.lookup x = some c ∨ acc.lookup x = some c
  | [], acc, x, c, h => .inr h
  | (n, k) :: r, acc, x, c, h => by
    rcases cap_from r _ h with q | q
    · exact .inl q
    · by_cases hk : (k == NameKind.free) = true
      · rw [if_pos hk] at q
        cases e : env.cells.lookup n with
        | none => rw [e] at q; exact .inr q
        | some c' =>
          rw [e] at q
          simp only [List.lookup_cons] at q
          cases hx : x == n with
          | true =>
            rw [hx] at q
            cases q
            have : x = n := by simpa using hx
            subst this
            exact .inl e
          | false => rw [hx] at q; exact .inr q
      · rw [if_neg hk] at q
        exact .inr q
theorem cap_stay {env : Env} {x : Str} {c : Addr} (hc : env.cells.lookup x = some c) : ∀ (names : List (Str × NameKind)) (acc : List (Str × Addr)),
    acc.lookup x = some c → (capCells env names acc).lookup x = some c
  | [], acc, h => h
  | (n, k) :: r, acc, h => by
    refine cap_stay hc r _ ?_
    by_cases hk : (k == NameKind.free) = true
    · rw [if_pos hk]
      cases e : env.cells.lookup n with
      | none => exact h
      | some c' =>
        simp only [List.lookup_cons]
        cases hx : x == n with
        | true =>
          have : x = n := by simpa using hx
          subst this
          rw [hc] at e
          exact e.symm
        | false => exact h
    · rw [if_neg hk]; exact h
theorem cap_has {env : Env} {x : Str} {c : Addr} (hc : env.cells.lookup x = some c) : ∀ (names : List (Str × NameKind)) (acc : List (Str × Addr)),
    (x, NameKind.free) ∈ names → (capCells env names acc).lookup x = some c
  | [], _, h => absurd h (by simp)
  | (n, k) :: r, acc, h => by
    rcases List.mem_cons.mp h with e | h
    · cases e
      refine cap_stay hc r _ ?_
      rw [if_pos (by simp), hc]
      simp [List.lookup_cons]
    · exact cap_has hc r _ h
theorem relabel_lookup {sc : Scope} {env : Env} {x : Str} {k : NameKind} (h : (relabel sc env).names.lookup x = some k) :
    ∃ k0, sc.names.lookup x = some k0 ∧ (k = k0 ∨ (k = .cell ∧ k0 = .free)) := by
  unfold relabel at h
  dsimp only at h
  generalize sc.names = ns at h ⊢
  induction ns with
  | nil => simp at h
  | cons a r ih =>
    obtain ⟨n, k1⟩ := a
    simp only [List.map_cons] at h
    by_cases hc : (k1 == NameKind.free && env.scope.kind == .function && env.kindOf n == some .cell) = true
    · rw [if_pos hc] at h
      simp only [List.lookup_cons] at h ⊢
      cases hx : x == n with
      | true =>
        rw [hx] at h
        cases h
        refine ⟨k1, rfl, .inr ⟨rfl, ?_⟩⟩
        simp only [Bool.and_eq_true] at hc
        simpa using hc.1.1
      | false => rw [hx] at h; exact ih h
    · rw [if_neg hc] at h
      simp only [List.lookup_cons] at h ⊢
      cases hx : x == n with
      | true => rw [hx] at h; cases h; exact ⟨_, rfl, .inl rfl⟩
      | false => rw [hx] at h; exact ih h
theorem relabel_free {sc : Scope} {env : Env} {x : Str} (h : sc.names.lookup x = some .free) :
    (relabel sc env).names.lookup x = some .cell ∨ (relabel sc env).names.lookup x = some .free := by
  unfold relabel
  dsimp only
  generalize sc.names = ns at h ⊢
  induction ns with
  | nil => simp at h
  | cons a r ih =>
    obtain ⟨n, k1⟩ := a
    simp only [List.map_cons]
    simp only [List.lookup_cons] at h
    by_cases hc : (k1 == NameKind.free && env.scope.kind == .function && env.kindOf n == some .cell) = true
    · rw [if_pos hc]
      simp only [List.lookup_cons]
      cases hx : x == n with
      | true => exact .inl rfl
      | false => rw [hx] at h; exact ih h
    · rw [if_neg hc]
      simp only [List.lookup_cons]
      cases hx : x == n with
      | true => rw [hx] at h; exact .inr h
      | false => rw [hx] at h; exact ih h
structure CS (X : Cx) (sc : Scope) (N' : List Str) (cap : List (Option Nat)) : Prop where
  kind : sc.kind = .function
  nocell : ∀ y ∈ sc.names, y.2 ≠ .cell
  loc : ∀ x ∈ sc.names, x.2 = .local → sc.names.lookup x.1 = some .local
  fr : ∀ x ∈ sc.names, x.2 = .free → X.env.kindOf x.1 = some .cell ∨ X.env.kindOf x.1 = some .free
  len : cap.length = N'.length
  capt : ∀ (i j : Nat), cap[i]? = some (some j) → ∃ x, N'[i]? = some x ∧ X.N[j]? = some x ∧ sc.names.lookup x = some .free
def capSt (cap : List (Option Nat)) (σ : St) : St := cap.map fun o => match o with | some j => (σ[j]?).join | none => none
def Cx.comp (X : Cx) (N' : List Str) (sc : Scope) (s : Shared) (H : Hp) (fp : List Addr) (xe : Value → Shared → Prop) : Cx :=
  { X with N := N', s₀ := s, H₀ := H, env := compEnvC sc (capCells X.env sc.names []) s.heap.objs.size X.env, outer := X.stack, stack := X.stack, ex := fp, fn := fun _ => false, pn := [], xe := xe }
section
variable {X : Cx} {pins : List (Addr × Obj)} {σ : St} {H : Hp} {s : Shared} {sc : Scope} {N' : List Str} {cap : List (Option Nat)} {fp : List Addr} {xe : Value → Shared → Prop} {h' : Heap}
theorem CS.cells (S : CS X sc N' cap) (I : Inv X pins σ H s) : ∀ x ∈ sc.names, x.2 = .free → ∃ c, X.env.cells.lookup x.1 = some c := fun x hx hf =>
  I.ok.has x.1 (S.fr x hx hf)
theorem Inv.compIn {t : Nat} (I : Inv X pins σ H s) (S : CS X sc N' cap) (hf : ∀ b ∈ fp, FpOk X pins H b) (hlt : ∀ b ∈ fp, b < s.heap.objs.size)
    (hns : h'.Ns s.heap.objs.size fun _ => none) (hk : ∀ b o, s.heap.get? b = some o → h'.get? b = some o) :
    Inv (X.comp N' sc s H fp xe) [] (capSt cap σ) H { s with heap := h', toks := t } := by
  have hfrom : ∀ {x c}, (capCells X.env sc.names []).lookup x = some c → X.env.cells.lookup x = some c := fun {x c} q => by
    rcases cap_from _ _ q with z | z
    · exact z
    · simp at z
  have hlook : ∀ {x}, ((relabel sc X.env).names.lookup x = some .cell ∨ (relabel sc X.env).names.lookup x = some .free) → sc.names.lookup x = some .free := fun {x} q => by
    rcases q with q | q
    · obtain ⟨k0, e, z⟩ := relabel_lookup q
      rcases z with z | z
      · subst z; exact absurd rfl (S.nocell _ (PySem.mem_of_lookup e))
      · rw [e, z.2]
    · obtain ⟨k0, e, z⟩ := relabel_lookup q
      rcases z with z | z
      · rw [e, z]
      · cases z.1
  refine ⟨⟨I.ok.mod, ?_, I.ok.glob, I.ok.blt, Nat.le_refl _, fun x y c h1 h2 => I.ok.inj x y c (hfrom h1) (hfrom h2), fun x hx => ?_, fun x c q => absurd (show false = true from q) (by decide), I.ok.hd, I.ok.frames, .inl rfl, fun b hb => ⟨?_, fun x c q => ?_⟩,
      I.bs, Nat.le_trans I.ok.bsz I.sz, fun b o e hb => ?_, fun b hb hz => ?_, I.stack, I.stkFree⟩,
    rfl, I.bare, Un.kept hk, ⟨_, hns, fun i x v h1 h2 h3 => ?_⟩, fun x c q => ?_, I.hok.fresh (Nat.le_refl _), fun x c q => I.freeC x c (hfrom q), fun p hp => absurd (show p ∈ ([] : List (Addr × Obj)) from hp) (by simp), I.hok.kept hk, ?_⟩
  · exact S.kind
  · have e := hlook hx
    have e2 := PySem.mem_of_lookup e
    obtain ⟨c, hc⟩ := I.ok.has x (S.fr _ e2 rfl)
    exact ⟨c, cap_has hc _ _ e2⟩
  · exact Nat.ne_of_lt (hlt b hb)
  · exact (hf b hb).2.2.2.2.1 x c (hfrom q)
  · rcases (hf b hb).2.2.2.1 with z | z
    · exact I.ok.noex b o e z
    · exact absurd (Nat.lt_of_lt_of_le (Heap.lt_size e) (Nat.le_trans I.ok.bsz z)) (Nat.lt_irrefl _)
  · rcases List.mem_cons.mp (I.stkSub b hz) with z | z
    · exact (hf b hb).2.1 z
    · exact (hf b hb).2.2.1 z
  · have h2' : (cap.map fun o => match o with | some j => (σ[j]?).join | none => none)[i]? = some (some v) := h2
    rw [List.getElem?_map] at h2'
    cases e : cap[i]? with
    | none => rw [e] at h2'; cases h2'
    | some o =>
      rw [e] at h2'
      cases o with
      | none => simp at h2'
      | some j =>
        have hj : σ[j]? = some (some v) := by
          have h4 : (σ[j]?).join = some v := by simpa using h2'
          cases e2 : σ[j]? with
          | none => rw [e2] at h4; simp at h4
          | some o2 => rw [e2] at h4; simp at h4; rw [h4]
        obtain ⟨y, n1, n2, n3⟩ := S.capt i j e
        have ey : y = x := by
          have h1' : N'[i]? = some x := h1
          rw [n1] at h1'; exact Option.some.inj h1'
        subst ey
        have hm := PySem.mem_of_lookup n3
        have hkind := S.fr _ hm rfl
        obtain ⟨m, hn, hl⟩ := I.loc
        have vis : Vis X.env.scope y := by
          rcases hkind with z | z
          · exact .inr (.inl z)
          · exact .inr (.inr z)
        obtain ⟨u, r, l⟩ := hl j y v n2 hj vis
        refine ⟨u, r, .inr ?_⟩
        rcases l with ⟨z, _⟩ | ⟨_, c, hc, hcell⟩
        · have z' : X.env.kindOf y = some .local := z
          rcases hkind with q | q <;> (have q' : X.env.kindOf y = _ := q; rw [z'] at q'; cases q')
        · obtain ⟨o, ho, hd⟩ := hcell
          exact ⟨relabel_free n3, c, cap_has hc _ _ hm, o, hk c o ho, hd⟩
  · obtain ⟨v, o, ho, hd⟩ := I.cell x c (hfrom q)
    exact ⟨v, o, hk c o ho, hd⟩
  · show (cap.map _).length = N'.length
    rw [List.length_map]; exact S.len
theorem Inv.compOut {pins' : List (Addr × Obj)} {σ' : St} {H' : Hp} {s' : Shared} (I : Inv X pins σ H s) (hf : ∀ b ∈ fp, FpOk X pins H b)
    (J : Inv (X.comp N' sc s H fp xe) pins' σ' H' s') (hs : Heap.SameBut s.heap.objs.size s'.heap h') : Inv X pins σ H' { s' with heap := h' } := by
  have hu : Un (frs X.stack) fp H H' s.heap s'.heap := J.base
  have hC : H' s.heap.objs.size = none := J.free
  have lt : ∀ {b : Addr} {o : Obj}, s.heap.get? b = some o → b ≠ s.heap.objs.size := fun e => Nat.ne_of_lt (Heap.lt_size e)
  refine I.call' (s' := { s' with heap := h' }) (ch := fp) J.os ⟨fun b o e n h1 h2 => ?_, fun b o e n h1 h2 => ?_, hu.free, fun b o e h1 => ?_, hu.tups, hu.frzs, hu.tbls⟩ (fun b u e => ?_) J.bare (fun b hb => ⟨(hf b hb).2.2.2.1, (hf b hb).2.1, (hf b hb).2.2.2.2.1, (hf b hb).2.2.2.2.2⟩)
  · exact (hs.2 b (lt e)).trans (hu.keep b o e n h1 h2)
  · obtain ⟨sl, q⟩ := hu.slot b o e n h1 h2
    exact ⟨sl, (hs.2 b (lt e)).trans q⟩
  · obtain ⟨o', q⟩ := hu.there b o e h1
    exact ⟨o', (hs.2 b (lt e)).trans q⟩
  · refine (J.hok b u e).stay (fun c v hc q => ?_) (fun _ q => q) fun _ _ q => q
    have ne : c ≠ s.heap.objs.size := by
      rintro rfl
      rcases hc with z | z
      · rw [← z, hC] at e; cases e
      · rw [hC] at z; cases z
    exact (hs.2 c ne).trans q
end
end L2
namespace L2
open PySem PySem.Spec PyProof.Rows
def PTs (X : Cx) (ifs : List Expr) (t : TT) : Prop :=
  ∀ (pins : List (Addr × Obj)) (s : Shared) (σ : St) (H : Hp) (Q : Bool → Hp → Prop), Inv X pins σ H s → t σ H Q → wpAny (model X.prog X.w) X.A (testsM ifs X.env) (TP X pins σ Q) X.xe s
def tTests0 : TT := fun _ H Q => Q true H
def tTests (t r : TT) : TT := fun σ H Q => t σ H fun b H1 => if b = true then r σ H1 Q else Q false H1
theorem tests_off {X : Cx} {E : Value → Shared → Prop} {Q : Bool → Shared → Prop} : ∀ {ifs : List Expr} {s : Shared}, Q false s →
    wpAny (model X.prog X.w) X.A (forIn ifs false fun c r => if r = true then do { let ok ← isTrue c X.env (eval c X.env); pure (ForInStep.yield ok) } else pure (ForInStep.yield r)) Q E s
  | [], s, h => by rw [List.forIn_nil]; exact wpAny_pure h
  | c :: r, s, h => by
    rw [List.forIn_cons]
    refine wpAny_bind ?_
    rw [if_neg (by decide)]
    exact wpAny_pure (tests_off h)
theorem pts_nil {X : Cx} : PTs X [] tTests0 := fun pins s σ H Q I h => by
  unfold testsM
  rw [List.forIn_nil]
  exact wpAny_pure ⟨H, I, h⟩
theorem pts_cons {X : Cx} {c : Expr} {r : List Expr} {t u : TT} (h1 : PT X c t) (h2 : PTs X r u) : PTs X (c :: r) (tTests t u) := fun pins s σ H Q I h => by
  unfold testsM
  rw [List.forIn_cons]
  refine wpAny_bind ?_
  rw [if_pos rfl]
  refine wpAny_bind (thn (h1 pins s σ H _ I h) fun b s1 ⟨H1, I1, q1⟩ => wpAny_pure ?_)
  cases b with
  | true => exact h2 pins s1 σ H1 Q I1 (by simpa using q1)
  | false => exact tests_off ⟨H1, I1, by simpa using q1⟩
def compRun (cap : List (Option Nat)) (g : TG) (ti : TT) (te : TE) (σ : St) (J : It) (D : Addr) (Q : Hp → Prop) (H : Hp) : Prop :=
  ∃ W : Nat → Nat → Hp → Prop, (∃ m, W 0 m H) ∧ ∀ i m H, W i m H →
    (J.stop i H ∧ Q H) ∨ (J.go i H ∧ ∀ x H1, J.yld i H x H1 → g x (capSt cap σ) H1 fun σ2 H2 => (∀ (j : Nat) v, (capSt cap σ)[j]? = some (some v) → σ2[j]? = some (some v)) ∧
      ti σ2 H2 fun ok H3 => if ok = true then te σ2 H3 fun v H4 => ∃ acc, H4 D = some (.lst acc) ∧ acc.length < sizeLine ∧ ∃ m', m' < m ∧ W (i + 1) m' (upd H4 D (.lst (acc ++ [v])))
        else ∃ m', m' < m ∧ W (i + 1) m' H3)
section
variable {X : Cx} {elt tg iter : Expr} {ifs : List Expr} {sc : Scope} {pos : Pos} {N' : List Str} {cap : List (Option Nat)} {g : TG} {ti : TT} {te : TE}
theorem comp_core {pins : List (Addr × Obj)} {σ : St} {H2 : Hp} {s2 : Shared} {it : Addr} {fp : List Addr} {tn : Nat → Heap → Prop} {J : It} {E : Value → Shared → Prop} {RR : Value → Addr → Result → Shared → Prop} {Q : Addr → Hp → Prop}
    (hc : X.calm = true) (S : CS X sc N' cap) (hg : ∀ s H fp xe, PG (X.comp N' sc s H fp xe) tg g) (ht : ∀ s H fp xe, PTs (X.comp N' sc s H fp xe) ifs ti) (he : ∀ s H fp xe, PE (X.comp N' sc s H fp xe) elt te)
    (I2 : Inv X pins σ H2 s2) (T : Turn X.prog X.w X.K tg J fp it tn) (st2 : tn 0 s2.heap) (f2 : ∀ b ∈ fp, FpOk X pins H2 b)
    (hq : ∀ D, H2 D = none → compRun cap g ti te σ J D (Q D) (upd H2 D (.lst [])))
    (hRR : ∀ (D : Addr) (s3 : Shared) (H3 : Hp) (xe : Value → Shared → Prop) (H' : Hp) (pins' : List (Addr × Obj)) (σ' : St) (s' : Shared), Inv X pins σ H3 s3 → (∀ b ∈ fp, FpOk X pins H3 b) → Inv (X.comp N' sc s3 H3 fp xe) pins' σ' H' s' → Q D H' → RR (.ref D) s3.heap.objs.size (.ok .next) s') :
    wpAny (model X.prog X.w) X.A (newList []) (fun acc s3 => wpAny (model X.prog X.w) X.A (newFunctionEnv sc X.env.globals (capCells X.env sc.names []) [] X.env.qual none .none (some X.env)) (fun cenv s4 =>
      codeAny (model X.prog X.w) X.A (.compStart (.ListComp elt [⟨tg, iter, ifs, 0⟩] sc pos) 0 (.ref it) acc { cenv with scope := relabel sc X.env }) (RR acc cenv.locals) s4) E s3) E s2 := by
  refine wpAny_newObj_type ?_
  have I3 := I2.lnew (ys := []) (its := []) (t' := s2.toks) .nil (Nat.zero_le _)
  have hfr : H2 s2.heap.objs.size = none := I2.fresh
  have lt2 : ∀ b ∈ fp, b < s2.heap.objs.size := fun b hb => by
    obtain ⟨o, e, _⟩ := T.obj _ _ st2 b hb
    exact Heap.lt_size e
  generalize hD : s2.heap.objs.size = D at I3 hfr lt2 ⊢
  have r0 := hq D hfr
  generalize hs3 : ({ s2 with heap := s2.heap.push { cls := .type "list", data := .seq ([] : List Value).toArray }, toks := s2.toks } : Shared) = s3 at I3
  have f3 : ∀ b ∈ fp, FpOk X pins (upd H2 D (.lst [])) b := fun b hb => ⟨by rw [upd_ne (Nat.ne_of_lt (lt2 b hb))]; exact (f2 b hb).1, (f2 b hb).2⟩
  have kp3 : ∀ b o, s2.heap.get? b = some o → s3.heap.get? b = some o := fun b o e => by rw [← hs3]; exact Heap.get?_push_of_some _ e
  have st3 : tn 0 s3.heap := T.keep _ _ _ st2 fun b hb o e => kp3 b o e
  have lt3 : ∀ b ∈ fp, b < s3.heap.objs.size := fun b hb => by
    obtain ⟨o, e, _⟩ := T.obj _ _ st3 b hb
    exact Heap.lt_size e
  generalize upd H2 D (.lst []) = H3 at I3 r0 f3
  refine wpAny_newFunctionEnv S.nocell (fun x hx => absurd hx (by simp)) (fun h1 hns hsb => ?_) S.kind
  have kp4 : ∀ b o, s3.heap.get? b = some o → h1.get? b = some o := fun b o e => by
    rw [hsb.2 b (Nat.ne_of_lt (Heap.lt_size e))]
    exact Heap.get?_push_of_some _ e
  have hns' : h1.Ns s3.heap.objs.size fun _ => none := hns
  have st4 : tn 0 h1 := T.keep _ _ _ st3 fun b hb o e => kp4 b o e
  have frees : ∀ b ∈ fp, H3 b = none := fun b hb => (f3 b hb).1
  have loop : codeAny (model X.prog X.w) X.A (.compLoop (.ListComp elt [⟨tg, iter, ifs, 0⟩] sc pos) 0 (.ref it) (.ref D) (compEnvC sc (capCells X.env sc.names []) s3.heap.objs.size X.env))
      (RR (.ref D) s3.heap.objs.size) { s3 with heap := h1, toks := s3.toks + ([] : List (Str × Value)).length } := by
    let xe : Value → Shared → Prop := notedBy (model X.prog X.w) X.A (compEnvC sc (capCells X.env sc.names []) s3.heap.objs.size X.env) fun e s' => RR (.ref D) s3.heap.objs.size (.error e) s'
    have I4 : Inv (X.comp N' sc s3 H3 fp xe) [] (capSt cap σ) H3 { s3 with heap := h1, toks := s3.toks + ([] : List (Str × Value)).length } := I3.compIn S f3 lt3 hns' kp4
    have stat : ∀ {H' : Hp}, (∀ b ∈ fp, H' b = none) → ∀ b ∈ fp, FpOk (X.comp N' sc s3 H3 fp xe) [] H' b := fun hn b hb => by
      obtain ⟨q1, q2⟩ := I4.ok.exf b hb
      exact ⟨hn b hb, q1, I4.ok.exfs b hb, .inl hb, q2, fun p hp => absurd (show p ∈ ([] : List (Addr × Obj)) from hp) (by simp)⟩
    obtain ⟨W, ⟨m0, w0⟩, turn⟩ := r0
    refine comp_loop (fun n s' => ∃ i H', Inv (X.comp N' sc s3 H3 fp xe) [] (capSt cap σ) H' s' ∧ tn i s'.heap ∧ (∀ b ∈ fp, H' b = none) ∧ W i n H') ?_ m0 ⟨0, H3, I4, st4, frees, w0⟩
    rintro n s5 ⟨i, H5, I5, st5, fr5, w5⟩
    rcases turn i n H5 w5 with ⟨stop, qn⟩ | ⟨go, step⟩
    · refine thn (T.done (X.comp N' sc s3 H3 fp xe) rfl rfl rfl hc i [] s5 _ H5 xe I5 (stat fr5) st5 stop) fun r s6 ⟨hr, I6⟩ => ?_
      subst hr
      exact hRR D s3 H3 xe H5 [] _ s6 I3 f3 I6 qn
    · refine thn (T.item (X.comp N' sc s3 H3 fp xe) rfl rfl rfl hc i [] s5 _ H5 xe I5 (stat fr5) st5 go) fun r s6 ⟨u, hr, h6⟩ => ?_
      subst hr
      refine thn h6 fun _ s7 ⟨x, H7, I7, r7, y7, st7, fr7⟩ => ?_
      have I7' := I7.pinned (stat fr7) (T.obj _ _ st7)
      refine thn (hg s3 H3 fp xe _ s7 _ H7 x u _ I7' r7 (step x H7 y7)) fun _ s8 ⟨σ8, H8, I8, k8, q8⟩ => ?_
      refine thn (ht s3 H3 fp xe _ s8 σ8 H8 _ I8 q8) fun ok s9 ⟨H9, I9, q9⟩ => ?_
      have again : ∀ {σa : St} {Ha : Hp} {sa : Shared}, Inv (X.comp N' sc s3 H3 fp xe) ([] ++ pinsAt fp s7.heap) σa Ha sa → (∀ (j : Nat) v, (capSt cap σ)[j]? = some (some v) → σa[j]? = some (some v)) →
          Inv (X.comp N' sc s3 H3 fp xe) [] (capSt cap σ) Ha sa ∧ tn (i + 1) sa.heap ∧ ∀ b ∈ fp, Ha b = none := fun {σa Ha sa} Ia ka => by
        refine ⟨Ia.unpinned.weak (I5.len.trans Ia.len.symm) ka, T.keep _ _ _ st7 fun b hb o e => (Ia.pin (b, o) (List.mem_append_right _ (List.mem_append_right _ (mem_pinsAt hb e)))).1, fun b hb => ?_⟩
        obtain ⟨o, e, d⟩ := T.obj _ _ st7 b hb
        exact (Ia.pin (b, o) (List.mem_append_right _ (List.mem_append_right _ (mem_pinsAt hb e)))).2.1
      cases ok with
      | false =>
        have q9' : ∃ m', m' < n ∧ W (i + 1) m' H9 := by simpa using q9
        obtain ⟨m', hm, w9⟩ := q9'
        obtain ⟨a1, a2, a3⟩ := again I9 k8
        exact ⟨m', hm, i + 1, H9, a1, a2, a3, w9⟩
      | true =>
        rw [if_pos rfl] at q9
        refine thn (he s3 H3 fp xe _ s9 σ8 H9 _ I9 q9) fun v sa ⟨y, Ha, Ia, ra, acc, ea, za, m', hm, wa⟩ => ?_
        refine thn (mt_append (X := X.comp N' sc s3 H3 fp xe) _ sa σ8 Ha (.ref D) [y] (.ref D) [v] (fun _ H' => H' = upd Ha D (.lst (acc ++ [y]))) Ia rfl (.cons ra .nil) ⟨D, acc, y, rfl, rfl, ea, za, rfl⟩) fun _ sb ⟨_, Hb, Ib, _, eb⟩ => ?_
        subst eb
        obtain ⟨a1, a2, a3⟩ := again Ib k8
        exact ⟨m', hm, i + 1, _, a1, a2, a3, wa⟩
  exact codeAny_compStart_list loop (T.self _ 0 _ _ _ st4 loop)
def tComp (cap : List (Option Nat)) (wi : TI) (g : TG) (ti : TT) (te : TE) : TE := fun σ H Q => wi σ H fun J H1 => ∀ D, H1 D = none → compRun cap g ti te σ J D (fun H' => Q (.ref D) H') (upd H1 D (.lst []))
theorem pe_comp {wi : TI} (hc : X.calm = true) (S : CS X sc N' cap) (hi : PI X tg iter wi) (hg : ∀ s H fp xe, PG (X.comp N' sc s H fp xe) tg g) (ht : ∀ s H fp xe, PTs (X.comp N' sc s H fp xe) ifs ti)
    (he : ∀ s H fp xe, PE (X.comp N' sc s H fp xe) elt te) (hs : ∀ x, foldedSetIterable iter X.env x = pure x := by intro _; rfl) : PE X (.ListComp elt [⟨tg, iter, ifs, 0⟩] sc pos) (tComp cap wi g ti te) := by
  intro pins s σ H Q I h
  rw [eval_ListComp]
  refine wpAny_comprehension_free (use := none) rfl hs (closureFor_eq (S.cells I)) S.kind S.loc (thn (hi pins s σ H _ I h) fun v s1 h1 => thn h1 fun itv s2 h2 => ?_)
  obtain ⟨it, fp, tn, J, H2, e, I2, T, st2, f2, rq⟩ := h2
  subst e
  refine comp_core (RR := fun acc C => compPost (model X.prog X.w) X.A X.xe none (EP X pins σ Q) acc C) (Q := fun D H' => Q (.ref D) H') hc S hg ht he I2 T st2 f2 rq ?_
  intro D s3 H3 xe H' pins' σ' s' I3 f3 J3 q
  obtain ⟨m, hn, _⟩ := id J3.loc
  exact ⟨m, hn, fun h' hs => ⟨.ref D, H', I3.compOut f3 J3 hs, rfl, q⟩⟩
def sComp (cap : List (Option Nat)) (wi : TI) (g : TG) (ti : TT) (te : TE) (i : Nat) : TS := fun D σ H => wi σ H fun J H1 => ∀ d, H1 d = none → compRun cap g ti te σ J d (fun H' => D.nx (σ.set i (some (.ref d))) H') (upd H1 d (.lst []))
theorem ps_comp {wi : TI} {y : Str} {py spos : Pos} {i : Nat} (hc : X.calm = true) (S : CS X sc N' cap) (hi : PI X tg iter wi) (hg : ∀ s H fp xe, PG (X.comp N' sc s H fp xe) tg g) (ht : ∀ s H fp xe, PTs (X.comp N' sc s H fp xe) ifs ti)
    (he : ∀ s H fp xe, PE (X.comp N' sc s H fp xe) elt te) (hN : X.N.Nodup) (hy : X.N[i]? = some y) (hl : X.env.scope.names.lookup y = some .local)
    (hsw : swapsWith (.ListComp elt [⟨tg, iter, ifs, 0⟩] sc pos) (some (.Name y py)) spos.line X.env = pure true := by rfl) (hs : ∀ x, foldedSetIterable iter X.env x = pure x := by intro _; rfl) :
    PS X (.Assign [.Name y py] (.ListComp elt [⟨tg, iter, ifs, 0⟩] sc pos) spos) (sComp cap wi g ti te i) := by
  intro pins s σ H D I h
  rw [exec_Assign_Name_used _ _ _ _ hsw]
  refine wpAny_bind (wpAny_standAt (wpAny_bind ?_))
  show wpAny _ X.A (do let _ ← comprehension (.ListComp elt [⟨tg, iter, ifs, 0⟩] sc pos) sc X.env _ (newList []) false (eval iter X.env) (some (assign (.Name y py) X.env))) _ _ s
  refine wpAny_bind (wpAny_mono (wpAny_comprehension_free (use := some (assign (.Name y py) X.env)) (Q := fun _ s' => SP X pins D .next s') rfl hs (closureFor_eq (S.cells I)) S.kind S.loc
    (thn (hi pins s σ H _ I h) fun v s1 h1 => thn h1 fun itv s2 h2 => ?_)) (fun _ s' hq => wpAny_pure (wpAny_pure hq)) fun _ _ z => z)
  obtain ⟨it, fp, tn, J, H2, e, I2, T, st2, f2, rq⟩ := h2
  subst e
  refine comp_core (RR := fun acc C => compPost (model X.prog X.w) X.A X.xe (some (assign (.Name y py) X.env)) (fun _ s' => SP X pins D .next s') acc C) (Q := fun d H' => D.nx (σ.set i (some (.ref d))) H') hc S hg ht he I2 T st2 f2 rq ?_
  intro d s3 H3 xe H' pins' σ' s' I3 f3 J3 q
  obtain ⟨m, hn, _⟩ := id J3.loc
  have Is : Inv X pins σ H' s' := I3.compOut (h' := s'.heap) f3 J3 (Heap.SameBut.refl _ _)
  obtain ⟨oC, es, ep, hoC, hdC, hrC⟩ := id hn
  have hC : H' s3.heap.objs.size = none := J3.free
  have neL : s3.heap.objs.size ≠ X.env.locals := Nat.ne_of_gt I3.lt
  have nfs : s3.heap.objs.size ∉ X.fs := I3.nofs (Nat.le_refl _)
  have Ip : Inv X (pins ++ [(s3.heap.objs.size, oC)]) σ H' s' := Is.pins_of fun p hp => by
    rcases List.mem_append.mp hp with z | z
    · exact Is.pin p (List.mem_append_right _ z)
    · obtain rfl : p = (s3.heap.objs.size, oC) := by simpa using z
      exact ⟨hoC, hC, neL, nfs, fun v hv => by have hdC' : oC.data = _ := hdC; rw [hdC'] at hv; cases hv⟩
  show wpAny _ X.A (assign (.Name y py) X.env (.ref d)) _ _ s'
  refine thn (pg_name (X := X) (i := i) hN hy (.inl hl) (.inr hl) _ s' σ H' (.ref d) (.ref d) (fun σ2 H2 => D.nx σ2 H2) Ip rfl q) fun _ s4 ⟨σ4, H4, I4, q4⟩ => ?_
  have pn := I4.pin (s3.heap.objs.size, oC) (List.mem_append_right _ (List.mem_append_right _ (by simp)))
  refine ⟨m, ⟨oC, es, ep, pn.1, hdC, hrC⟩, fun h' hs => ⟨σ4, H4, ?_, q4⟩⟩
  have I4u : Inv X pins σ4 H4 s4 := I4.unpinned
  have st := I4u.step (g' := s4.gens) (t' := s4.toks) (d' := s4.drawn) (h' := h') (H' := H4) (ch := [s3.heap.objs.size]) (fun b hb => ?_) (fun b o _ _ hc e _ => (hs.2 b (by simpa using hc)).trans e)
    (fun b o _ _ hc e _ => ⟨o.slots, (hs.2 b (by simpa using hc)).trans e⟩) (fun _ _ _ _ n => n) (fun b o hc e => ⟨o, (hs.2 b (by simpa using hc)).trans e⟩) (fun _ _ e => e) (fun _ _ _ e => e) (fun b ps e => ⟨#[], by rw [e]; simp⟩) (fun m hm => ?_) (fun b u e => ?_) I4u.bare
  · exact st
  · have e : b = s3.heap.objs.size := by simpa using hb
    subst e
    refine ⟨.inr I3.sz, neL, fun x c e2 z => ?_, fun p hp z => ?_⟩
    · obtain ⟨v, q2⟩ := I3.cell x c e2
      exact absurd q2.lt (by rw [z]; exact Nat.lt_irrefl _)
    · have e3 := (I3.pin p hp).1
      exact absurd (Heap.lt_size e3) (by rw [z]; exact Nat.lt_irrefl _)
  · obtain ⟨o, es', ep', ho', r'⟩ := hm
    exact ⟨o, es', ep', (hs.2 _ (Ne.symm neL)).trans ho', r'⟩
  · refine (I4u.hok b u e).stay (fun c v hc q => ?_) (fun _ q => q) fun _ _ q => q
    have n4 : H4 s3.heap.objs.size = none := pn.2.1
    have ne : c ≠ s3.heap.objs.size := by
      rintro rfl
      rcases hc with z | z
      · rw [← z, n4] at e; cases e
      · rw [n4] at z; cases z
    exact (hs.2 c ne).trans q
end
end L2
namespace L2
open PySem
def excO (a C : Addr) : HO := .ext fun h => ∃ o, h.get? a = some o ∧ o.cls = .ref C
def dctO (a : Addr) : HO := .ext fun h => ∃ o, h.get? a = some o ∧ o.cls = .type "dict"
end L2
namespace FT
open PySem PySem.Spec PyProof.Rows L2
inductive D where
  | non | bl (b : Bool) | int (i : Int) | str (x : Str) | tup (xs : List D) | fl (xs : List D) | ref (n : Nat)
inductive O where
  | lst (xs : List D)
  | set (ks : List Key)
  | dct
  | dK (kvs : List (Key × D))
  | dF (kvs : List (Key × D))
  | exc (c : Str)
abbrev AH := List O
abbrev G := List (Option D)
structure Exn where
  cls : Str
  fs : List (Str × D)
inductive Res (α : Type) where
  | ok (a : α) (h : AH) | err (x : Exn) (h : AH) | bad
abbrev M (α : Type) := AH → Res α
def M.pure {α : Type} (a : α) : M α := fun h => .ok a h
def M.bind {α β : Type} (m : M α) (f : α → M β) : M β := fun h => match m h with
  | .ok a h1 => f a h1
  | .err x h1 => .err x h1
  | .bad => .bad
instance : Monad M where
  pure := M.pure
  bind := M.bind
def bad {α : Type} : M α := fun _ => .bad
theorem M.bind_eq {α β : Type} (m : M α) (f : α → M β) (h : AH) : (m >>= f) h = match m h with
  | .ok a h1 => f a h1
  | .err x h1 => .err x h1
  | .bad => .bad := rfl
theorem M.bind_ok {α β : Type} {m : M α} {f : α → M β} {h h1 : AH} {a : α} (e : m h = .ok a h1) : (m >>= f) h = f a h1 := by rw [M.bind_eq, e]
def SqLP (K : PySem.W.Frag) (H : Hp) (a : Addr) (xs : List V) : Prop :=
  (∃ o, H a = some (.frz o (.lst xs))) ∨
    ∃ (o : Obj) (its : Array Value) (n : Nat), K.lookup a = some o ∧ o.cls = .type "list" ∧ o.dict = none ∧ o.data = .seq its n ∧ its.size ≤ sizeLine ∧ Vals xs its.toList
theorem SqLP.sq {K : PySem.W.Frag} {H : Hp} {a : Addr} {xs : List V} (h : SqLP K H a xs) : SqL K H a xs := by
  rcases h with ⟨o, h⟩ | h
  · exact .inl (.inr ⟨o, h⟩)
  · exact .inr h
mutual
def RD (K : PySem.W.Frag) (ρ : List Addr) (H : Hp) : D → V → Prop
  | .non, v => v = .non
  | .bl b, v => v = .bl b
  | .int i, v => v = .int i
  | .str x, v => v = .str x
  | .tup ds, v => ∃ a xs, v = .ref a ∧ SqT K H a xs ∧ RDs K ρ H ds xs
  | .fl ds, v => ∃ a xs, v = .ref a ∧ SqLP K H a xs ∧ RDs K ρ H ds xs
  | .ref n, v => ∃ a, v = .ref a ∧ ρ[n]? = some a
def RDs (K : PySem.W.Frag) (ρ : List Addr) (H : Hp) : List D → List V → Prop
  | [], xs => xs = []
  | d :: ds, xs => ∃ x r, xs = x :: r ∧ RD K ρ H d x ∧ RDs K ρ H ds r
end
def Pre (ρ ρ' : List Addr) : Prop := ∀ (n : Nat) a, ρ[n]? = some a → ρ'[n]? = some a
theorem Pre.refl (ρ : List Addr) : Pre ρ ρ := fun _ _ h => h
theorem Pre.trans {a b c : List Addr} (x : Pre a b) (y : Pre b c) : Pre a c := fun n z h => y n z (x n z h)
theorem Pre.app (ρ r : List Addr) : Pre ρ (ρ ++ r) := fun n a h => by
  rw [List.getElem?_append_left (List.getElem?_eq_some_iff.mp h).1]; exact h
structure Ext (K : PySem.W.Frag) (H H' : Hp) : Prop where
  t : ∀ a xs, SqT K H a xs → SqT K H' a xs
  l : ∀ a xs, SqLP K H a xs → SqLP K H' a xs
  d : ∀ a o vs, H a = some (.frz o (.dK vs)) → H' a = some (.frz o (.dK vs))
theorem Ext.refl (K : PySem.W.Frag) (H : Hp) : Ext K H H := ⟨fun _ _ h => h, fun _ _ h => h, fun _ _ _ h => h⟩
theorem Ext.trans {K : PySem.W.Frag} {a b c : Hp} (x : Ext K a b) (y : Ext K b c) : Ext K a c := ⟨fun z xs h => y.t z xs (x.t z xs h), fun z xs h => y.l z xs (x.l z xs h), fun z o vs h => y.d z o vs (x.d z o vs h)⟩
def Trk : HO → Prop
  | .lst _ => True
  | .set _ => True
  | .ext _ => True
  | .dK _ => True
  | _ => False
theorem Ext.upd {K : PySem.W.Frag} {H : Hp} {p : Addr} {o : HO} (h : H p = none ∨ ∃ u, H p = some u ∧ Trk u) : Ext K H (upd H p o) := by
  have ne : ∀ {b : Addr} {u : HO}, H b = some u → ¬ Trk u → b ≠ p := fun {b u} e n z => by
    subst z
    rcases h with h | ⟨u', h, tr⟩
    · rw [h] at e; cases e
    · rw [h] at e; cases e; exact n tr
  refine ⟨fun a xs q => ?_, fun a xs q => ?_, fun a o vs q => by rw [upd_ne (ne q (fun z => z))]; exact q⟩
  · rcases q with (q | ⟨u, q⟩) | q
    · exact .inl (.inl (by rw [upd_ne (ne q (fun z => z))]; exact q))
    · exact .inl (.inr ⟨u, by rw [upd_ne (ne q (fun z => z))]; exact q⟩)
    · exact .inr q
  · rcases q with ⟨u, q⟩ | q
    · exact .inl ⟨u, by rw [upd_ne (ne q (fun z => z))]; exact q⟩
    · exact .inr q
section
variable {K : PySem.W.Frag} {ρ ρ' : List Addr} {H H' : Hp}
mutual
theorem RD.mono (p : Pre ρ ρ') (e : Ext K H H') : ∀ {d : D} {v : V}, RD K ρ H d v → RD K ρ' H' d v
  | .non, v, h => by simpa [RD] using h
  | .bl b, v, h => by simpa [RD] using h
  | .int b, v, h => by simpa [RD] using h
  | .str b, v, h => by simpa [RD] using h
  | .tup ds, v, h => by
    simp only [RD] at h ⊢
    obtain ⟨a, xs, h1, h2, h3⟩ := h
    exact ⟨a, xs, h1, e.t a xs h2, RDs.mono p e h3⟩
  | .fl ds, v, h => by
    simp only [RD] at h ⊢
    obtain ⟨a, xs, h1, h2, h3⟩ := h
    exact ⟨a, xs, h1, e.l a xs h2, RDs.mono p e h3⟩
  | .ref n, v, h => by
    simp only [RD] at h ⊢
    obtain ⟨a, h1, h2⟩ := h
    exact ⟨a, h1, p n a h2⟩
theorem RDs.mono (p : Pre ρ ρ') (e : Ext K H H') : ∀ {ds : List D} {xs : List V}, RDs K ρ H ds xs → RDs K ρ' H' ds xs
  | [], xs, h => by simpa [RDs] using h
  | d :: ds, xs, h => by
    simp only [RDs] at h ⊢
    obtain ⟨x, r, h1, h2, h3⟩ := h
    exact ⟨x, r, h1, RD.mono p e h2, RDs.mono p e h3⟩
end
theorem RDs.nil : RDs K ρ H [] [] := by simp [RDs]
theorem RDs.cons {d : D} {ds : List D} {x : V} {xs : List V} (h : RD K ρ H d x) (t : RDs K ρ H ds xs) : RDs K ρ H (d :: ds) (x :: xs) := by
  simp only [RDs]; exact ⟨x, xs, rfl, h, t⟩
theorem RDs.pair : ∀ {ds : List D} {xs : List V}, RDs K ρ H ds xs → Paired (RD K ρ H) ds xs
  | [], xs, h => by simp only [RDs] at h; subst h; exact .nil
  | d :: ds, xs, h => by
    simp only [RDs] at h
    obtain ⟨x, r, rfl, h2, h3⟩ := h
    exact .cons h2 h3.pair
theorem RDs.of : ∀ {ds : List D} {xs : List V}, Paired (RD K ρ H) ds xs → RDs K ρ H ds xs
  | _, _, .nil => RDs.nil
  | _, _, .cons a b => RDs.cons a (RDs.of b)
theorem RDs.length {ds : List D} {xs : List V} (h : RDs K ρ H ds xs) : ds.length = xs.length := Paired.length h.pair
theorem RDs.append {a b : List D} {xs ys : List V} (h : RDs K ρ H a xs) (t : RDs K ρ H b ys) : RDs K ρ H (a ++ b) (xs ++ ys) := by
  induction a generalizing xs with
  | nil => simp only [RDs] at h; subst h; exact t
  | cons d ds ih =>
    simp only [RDs] at h
    obtain ⟨x, r, rfl, h2, h3⟩ := h
    exact RDs.cons h2 (ih h3)
theorem RDs.get {ds : List D} {xs : List V} {i : Nat} {d : D} (h : RDs K ρ H ds xs) (e : ds[i]? = some d) : ∃ x, xs[i]? = some x ∧ RD K ρ H d x := by
  induction ds generalizing xs i with
  | nil => simp at e
  | cons a ds ih =>
    simp only [RDs] at h
    obtain ⟨x, r, rfl, h2, h3⟩ := h
    cases i with
    | zero => simp at e; subst e; exact ⟨x, rfl, h2⟩
    | succ i =>
      obtain ⟨y, h4, h5⟩ := ih h3 (by simpa using e)
      exact ⟨y, by simpa using h4, h5⟩
theorem RDs.getV {ds : List D} {xs : List V} {i : Nat} {x : V} (h : RDs K ρ H ds xs) (e : xs[i]? = some x) : ∃ d, ds[i]? = some d ∧ RD K ρ H d x := by
  have hl := h.length
  have hi := (List.getElem?_eq_some_iff.mp e).1
  obtain ⟨y, h1, h2⟩ := h.get (List.getElem?_eq_getElem (l := ds) (i := i) (by omega))
  rw [e] at h1; cases h1
  exact ⟨_, List.getElem?_eq_getElem (by omega), h2⟩
theorem RDs.drop {ds : List D} {xs : List V} (n : Nat) (h : RDs K ρ H ds xs) : RDs K ρ H (ds.drop n) (xs.drop n) := by
  induction n generalizing ds xs with
  | zero => exact h
  | succ n ih => cases ds with
    | nil => simp only [RDs] at h; subst h; exact RDs.nil
    | cons d ds => simp only [RDs] at h; obtain ⟨x, r, rfl, h2, h3⟩ := h; exact ih h3
theorem RDs.take {ds : List D} {xs : List V} (n : Nat) (h : RDs K ρ H ds xs) : RDs K ρ H (ds.take n) (xs.take n) := by
  induction n generalizing ds xs with
  | zero => exact RDs.nil
  | succ n ih => cases ds with
    | nil => simp only [RDs] at h; subst h; exact RDs.nil
    | cons d ds => simp only [RDs] at h; obtain ⟨x, r, rfl, h2, h3⟩ := h; exact RDs.cons h2 (ih h3)
theorem RDs.set {ds : List D} {xs : List V} {d : D} {x : V} (n : Nat) (h : RDs K ρ H ds xs) (hd : RD K ρ H d x) : RDs K ρ H (ds.set n d) (xs.set n x) := by
  induction n generalizing ds xs with
  | zero => cases ds with
    | nil => simp only [RDs] at h; subst h; exact RDs.nil
    | cons a ds => simp only [RDs] at h; obtain ⟨y, r, rfl, h2, h3⟩ := h; exact RDs.cons hd h3
  | succ n ih => cases ds with
    | nil => simp only [RDs] at h; subst h; exact RDs.nil
    | cons a ds => simp only [RDs] at h; obtain ⟨y, r, rfl, h2, h3⟩ := h; exact RDs.cons h2 (ih h3)
theorem RDs.eraseIdx {ds : List D} {xs : List V} (n : Nat) (h : RDs K ρ H ds xs) : RDs K ρ H (ds.eraseIdx n) (xs.eraseIdx n) := by
  induction n generalizing ds xs with
  | zero => cases ds with
    | nil => simp only [RDs] at h; subst h; exact RDs.nil
    | cons a ds => simp only [RDs] at h; obtain ⟨y, r, rfl, h2, h3⟩ := h; exact h3
  | succ n ih => cases ds with
    | nil => simp only [RDs] at h; subst h; exact RDs.nil
    | cons a ds => simp only [RDs] at h; obtain ⟨y, r, rfl, h2, h3⟩ := h; exact RDs.cons h2 (ih h3)
theorem RDs.flat {ds : List D} {xs : List V} (n : Nat) (h : RDs K ρ H ds xs) : RDs K ρ H (List.replicate n ds).flatten (List.replicate n xs).flatten := by
  induction n with
  | zero => exact RDs.nil
  | succ n ih => rw [List.replicate_succ, List.flatten_cons, List.replicate_succ, List.flatten_cons]; exact h.append ih
def RK (K : PySem.W.Frag) (ρ : List Addr) (H : Hp) : List (Key × D) → List (Key × V) → Prop := Paired fun p q => p.1 = q.1 ∧ RD K ρ H p.2 q.2
theorem RK.imp {α β : Type} {P Q : α → β → Prop} (f : ∀ a b, P a b → Q a b) : ∀ {xs : List α} {ys : List β}, Paired P xs ys → Paired Q xs ys
  | _, _, .nil => .nil
  | _, _, .cons a b => .cons (f _ _ a) (RK.imp f b)
theorem RK.mono {kvs : List (Key × D)} {vs : List (Key × V)} (p : Pre ρ ρ') (e : Ext K H H') (r : RK K ρ H kvs vs) : RK K ρ' H' kvs vs := RK.imp (fun _ _ h => ⟨h.1, h.2.mono p e⟩) r
def RO (K : PySem.W.Frag) (ρ : List Addr) (H : Hp) (o : O) (a : Addr) : Prop := match o with
  | .lst ds => ∃ xs, H a = some (.lst xs) ∧ RDs K ρ H ds xs
  | .set ks => H a = some (.set ks)
  | .dct => H a = some (dctO a)
  | .dK kvs => ∃ vs, H a = some (.dK vs) ∧ RK K ρ H kvs vs
  | .dF kvs => ∃ ob vs, H a = some (.frz ob (.dK vs)) ∧ RK K ρ H kvs vs
  | .exc c => ∃ C, PySem.W.nsIn K mainGlobals c = some (some (.ref C)) ∧ H a = some (excO a C)
structure RH (K : PySem.W.Frag) (ρ : List Addr) (h : AH) (H : Hp) : Prop where
  len : ρ.length = h.length
  nd : ∀ (i j : Nat) a, ρ[i]? = some a → ρ[j]? = some a → i = j
  obj : ∀ (n : Nat) o a, h[n]? = some o → ρ[n]? = some a → RO K ρ H o a
theorem RH.at {h : AH} (r : RH K ρ h H) {n : Nat} {o : O} (e : h[n]? = some o) : ∃ a, ρ[n]? = some a ∧ RO K ρ H o a := by
  have hi := (List.getElem?_eq_some_iff.mp e).1
  have hj : n < ρ.length := by rw [r.len]; exact hi
  have q : ρ[n]? = some ρ[n] := List.getElem?_eq_getElem hj
  exact ⟨_, q, r.obj n o _ e q⟩
def O.fz : O → Bool
  | .dF _ => true
  | _ => false
theorem RO.there {o : O} {a : Addr} (z : RO K ρ H o a) : ∃ u, H a = some u ∧ (o.fz = false → Trk u) := by
  cases o with
  | lst ds => obtain ⟨xs, z, _⟩ := z; exact ⟨_, z, fun _ => trivial⟩
  | set ks => exact ⟨_, z, fun _ => trivial⟩
  | dct => exact ⟨_, z, fun _ => trivial⟩
  | dK kvs => obtain ⟨vs, z, _⟩ := z; exact ⟨_, z, fun _ => trivial⟩
  | dF kvs => obtain ⟨ob, vs, z, _⟩ := z; exact ⟨_, z, fun q => by cases q⟩
  | exc c => obtain ⟨C, _, z⟩ := z; exact ⟨_, z, fun _ => trivial⟩
theorem RH.there {h : AH} (r : RH K ρ h H) {n : Nat} {a : Addr} (e : ρ[n]? = some a) : ∃ u, H a = some u := by
  have hi := (List.getElem?_eq_some_iff.mp e).1
  have hj : n < h.length := by rw [← r.len]; exact hi
  obtain ⟨u, z, _⟩ := (r.obj n _ a (List.getElem?_eq_getElem hj) e).there
  exact ⟨u, z⟩
theorem RH.tracked {h : AH} (r : RH K ρ h H) {n : Nat} {a : Addr} {o : O} (e : ρ[n]? = some a) (eo : h[n]? = some o) (nf : o.fz = false := by rfl) : ∃ u, H a = some u ∧ Trk u := by
  obtain ⟨u, z, q⟩ := (r.obj n _ a eo e).there
  exact ⟨u, z, q nf⟩
theorem RO.mono {o : O} {a : Addr} (p : Pre ρ ρ') (e : Ext K H H') (hs : H' a = H a) (r : RO K ρ H o a) : RO K ρ' H' o a := by
  cases o with
  | lst ds => obtain ⟨xs, h1, h2⟩ := r; exact ⟨xs, hs.trans h1, h2.mono p e⟩
  | set ks => exact hs.trans r
  | dct => exact hs.trans r
  | dK kvs => obtain ⟨vs, h1, h2⟩ := r; exact ⟨vs, hs.trans h1, h2.mono p e⟩
  | dF kvs => obtain ⟨ob, vs, h1, h2⟩ := r; exact ⟨ob, vs, hs.trans h1, h2.mono p e⟩
  | exc c => obtain ⟨C, h1, h2⟩ := r; exact ⟨C, h1, hs.trans h2⟩
theorem RH.other {h : AH} {p : Addr} {o : HO} (r : RH K ρ h H) (hp : H p = none) : RH K ρ h (upd H p o) :=
  ⟨r.len, r.nd, fun n u a h1 h2 => (r.obj n u a h1 h2).mono (Pre.refl _) (Ext.upd (.inl hp)) (by
    obtain ⟨u, q⟩ := r.there h2
    exact upd_ne (ne_of_none q hp))⟩
theorem RH.pushO {h : AH} {p : Addr} {o' : O} {u : HO} (r : RH K ρ h H) (hp : H p = none) (hd : RO K (ρ ++ [p]) (upd H p u) o' p) : RH K (ρ ++ [p]) (h ++ [o']) (upd H p u) := by
  have ne : ∀ {n : Nat} {a : Addr}, ρ[n]? = some a → a ≠ p := fun e => by
    obtain ⟨xs, q⟩ := r.there e
    exact ne_of_none q hp
  have ext : Ext K H (L2.upd H p u) := Ext.upd (.inl hp)
  refine ⟨by simp [r.len], fun i j a h1 h2 => ?_, fun n o a h1 h2 => ?_⟩
  · rw [List.getElem?_append] at h1 h2
    split at h1 <;> split at h2
    · exact r.nd i j a h1 h2
    · rename_i hi hj
      rw [List.getElem?_singleton] at h2
      split at h2
      · cases h2; exact absurd rfl (ne h1)
      · cases h2
    · rename_i hi hj
      rw [List.getElem?_singleton] at h1
      split at h1
      · cases h1; exact absurd rfl (ne h2)
      · cases h1
    · rename_i hi hj
      rw [List.getElem?_singleton] at h1 h2
      split at h1
      · split at h2
        · omega
        · cases h2
      · cases h1
  · rw [List.getElem?_append] at h1 h2
    rw [r.len] at h2
    split at h1
    · rename_i hn
      rw [if_pos hn] at h2
      exact (r.obj n o a h1 h2).mono (Pre.app _ _) ext (upd_ne (ne h2))
    · rename_i hn
      rw [if_neg hn] at h2
      rw [List.getElem?_singleton] at h1 h2
      split at h1
      · rename_i h0
        rw [if_pos h0] at h2
        cases h1; cases h2
        exact hd
      · cases h1
theorem RH.push {h : AH} {p : Addr} {ds : List D} {xs : List V} (r : RH K ρ h H) (hp : H p = none) (hd : RDs K ρ H ds xs) : RH K (ρ ++ [p]) (h ++ [.lst ds]) (upd H p (.lst xs)) :=
  r.pushO hp ⟨xs, upd_same, hd.mono (Pre.app _ _) (Ext.upd (.inl hp))⟩
theorem RH.setO {h : AH} {n : Nat} {a : Addr} {o0 o' : O} {u : HO} (r : RH K ρ h H) (e : h[n]? = some o0) (ea : ρ[n]? = some a) (hd : RO K ρ (upd H a u) o' a) (nf : o0.fz = false := by rfl) : RH K ρ (h.set n o') (upd H a u) := by
  have ext : Ext K H (L2.upd H a u) := Ext.upd (.inr (r.tracked ea e nf))
  refine ⟨by simp [r.len], r.nd, fun m o b h1 h2 => ?_⟩
  by_cases hm : m = n
  · subst hm
    rw [ea] at h2; cases h2
    have hi := (List.getElem?_eq_some_iff.mp e).1
    rw [List.getElem?_set_self hi] at h1
    cases h1
    exact hd
  · rw [List.getElem?_set_ne (fun z => hm z.symm)] at h1
    exact (r.obj m o b h1 h2).mono (Pre.refl _) ext (upd_ne fun z => hm (r.nd m n b h2 (by rw [z]; exact ea)))
theorem RH.set {h : AH} {n : Nat} {a : Addr} {ds0 ds : List D} {xs : List V} (r : RH K ρ h H) (e : h[n]? = some (.lst ds0)) (ea : ρ[n]? = some a) (hd : RDs K ρ H ds xs) : RH K ρ (h.set n (.lst ds)) (upd H a (.lst xs)) :=
  r.setO e ea ⟨xs, upd_same, hd.mono (Pre.refl _) (Ext.upd (.inr (r.tracked ea e)))⟩
structure RG (K : PySem.W.Frag) (ρ : List Addr) (H : Hp) (γ : G) (σ : L2.St) : Prop where
  len : γ.length = σ.length
  var : ∀ (i : Nat) d, γ[i]? = some (some d) → ∃ v, σ[i]? = some (some v) ∧ RD K ρ H d v
theorem RG.mono {γ : G} {σ : L2.St} (p : Pre ρ ρ') (e : Ext K H H') (r : RG K ρ H γ σ) : RG K ρ' H' γ σ :=
  ⟨r.len, fun i d h => let ⟨v, h1, h2⟩ := r.var i d h; ⟨v, h1, h2.mono p e⟩⟩
theorem RG.set {γ : G} {σ : L2.St} {d : D} {v : V} (r : RG K ρ H γ σ) (i : Nat) (hd : RD K ρ H d v) : RG K ρ H (γ.set i (some d)) (σ.set i (some v)) := by
  refine ⟨by simp [r.len], fun j d' h => ?_⟩
  by_cases hj : i = j
  · subst hj
    have hi : i < γ.length := by
      have := (List.getElem?_eq_some_iff.mp h).1
      simpa using this
    rw [List.getElem?_set_self hi] at h
    cases h
    exact ⟨v, List.getElem?_set_self (by rw [← r.len]; exact hi), hd⟩
  · rw [List.getElem?_set_ne hj] at h ⊢
    exact r.var j d' h
structure Rel (K : PySem.W.Frag) (ρ : List Addr) (γ : G) (h : AH) (σ : L2.St) (H : Hp) : Prop where
  g : RG K ρ H γ σ
  h : RH K ρ h H
abbrev XX := Exn → List Addr → AH → Hp → Prop
def Fin {α : Type} (K : PySem.W.Frag) (EX : XX) (ρ : List Addr) (H : Hp) (P : α → List Addr → AH → Hp → Prop) : Res α → Prop
  | .ok a h' => ∀ ρ' H', Pre ρ ρ' → Ext K H H' → RH K ρ' h' H' → P a ρ' h' H'
  | .err x h' => ∀ ρ' H', Pre ρ ρ' → Ext K H H' → RH K ρ' h' H' → EX x ρ' h' H'
  | .bad => False
variable {EX : XX} {α β : Type}
theorem Fin.up {P : α → List Addr → AH → Hp → Prop} {r : Res α} (p : Pre ρ ρ') (e : Ext K H H') (f : Fin K EX ρ H P r) : Fin K EX ρ' H' P r := by
  cases r with
  | ok a h => exact fun ρ2 H2 p2 e2 r2 => f ρ2 H2 (p.trans p2) (e.trans e2) r2
  | err x h => exact fun ρ2 H2 p2 e2 r2 => f ρ2 H2 (p.trans p2) (e.trans e2) r2
  | bad => exact f
theorem Fin.mono {P P' : α → List Addr → AH → Hp → Prop} {r : Res α} (f : Fin K EX ρ H P r) (h : ∀ a ρ' h' H', Pre ρ ρ' → Ext K H H' → RH K ρ' h' H' → P a ρ' h' H' → P' a ρ' h' H') : Fin K EX ρ H P' r := by
  cases r with
  | ok a h1 => exact fun ρ2 H2 p2 e2 r2 => h a ρ2 h1 H2 p2 e2 r2 (f ρ2 H2 p2 e2 r2)
  | err x h1 => exact f
  | bad => exact f
theorem Fin.bind {P : β → List Addr → AH → Hp → Prop} {m : M α} {f : α → M β} {h : AH} (z : Fin K EX ρ H P ((m >>= f) h)) : Fin K EX ρ H (fun a ρ1 h1 H1 => Fin K EX ρ1 H1 P (f a h1)) (m h) := by
  rw [M.bind_eq] at z
  cases e : m h with
  | ok a h1 => rw [e] at z; exact fun ρ2 H2 p2 e2 r2 => Fin.up p2 e2 z
  | err x h1 => rw [e] at z; exact z
  | bad => rw [e] at z; exact z
end
def tE (K : PySem.W.Frag) (EX : XX) (m : G → M D) : TE := fun σ H Q => ∃ ρ γ h, Rel K ρ γ h σ H ∧ Fin K EX ρ H (fun d ρ' _ H' => ∀ v, RD K ρ' H' d v → Q v H') (m γ h)
def tT (K : PySem.W.Frag) (EX : XX) (m : G → M Bool) : TT := fun σ H Q => ∃ ρ γ h, Rel K ρ γ h σ H ∧ Fin K EX ρ H (fun b _ _ H' => Q b H') (m γ h)
def tL (K : PySem.W.Frag) (EX : XX) (m : G → M (List D)) : TA := fun σ H Q => ∃ ρ γ h, Rel K ρ γ h σ H ∧ Fin K EX ρ H (fun ds ρ' _ H' => ∀ vs, RDs K ρ' H' ds vs → Q vs H') (m γ h)
inductive Out where
  | nx (γ : G) | rt (d : D) | bk (γ : G) | ct (γ : G)
def OutP (K : PySem.W.Frag) (D : Ends) (o : Out) (ρ : List Addr) (H : Hp) : Prop := match o with
  | .nx γ => ∀ σ, RG K ρ H γ σ → D.nx σ H
  | .rt d => ∀ v, RD K ρ H d v → D.rt v H
  | .bk γ => ∀ σ, RG K ρ H γ σ → D.bk σ H
  | .ct γ => ∀ σ, RG K ρ H γ σ → D.ct σ H
def tB (K : PySem.W.Frag) (EX : XX) (m : G → M Out) : TS := fun D σ H => ∃ ρ γ h, Rel K ρ γ h σ H ∧ Fin K EX ρ H (fun o ρ' _ H' => OutP K D o ρ' H') (m γ h)
structure SE (X : Cx) (EX : XX) (e : Expr) (m : G → M D) : Prop where
  h : PE X e (tE X.K EX m)
structure SC (X : Cx) (EX : XX) (e : Expr) (m : G → M Bool) : Prop where
  h : PT X e (tT X.K EX m)
structure SA (X : Cx) (EX : XX) (es : List Expr) (m : G → M (List D)) : Prop where
  h : PA X es (tL X.K EX m)
structure S1 (X : Cx) (EX : XX) (st : Stmt) (m : G → M Out) : Prop where
  h : PS X st (tB X.K EX m)
structure SB (X : Cx) (EX : XX) (st : List Stmt) (m : G → M Out) : Prop where
  h : PSs X st (tB X.K EX m)
theorem PE.imp {X : Cx} {e : Expr} {t t' : TE} (h : PE X e t) (f : ∀ σ H Q, t' σ H Q → t σ H Q) : PE X e t' := fun pins s σ H Q I z => h pins s σ H Q I (f σ H Q z)
theorem PT.imp {X : Cx} {e : Expr} {t t' : TT} (h : PT X e t) (f : ∀ σ H Q, t' σ H Q → t σ H Q) : PT X e t' := fun pins s σ H Q I z => h pins s σ H Q I (f σ H Q z)
theorem PA.imp {X : Cx} {e : List Expr} {t t' : TA} (h : PA X e t) (f : ∀ σ H Q, t' σ H Q → t σ H Q) : PA X e t' := fun pos pins s σ H Q I z => h pos pins s σ H Q I (f σ H Q z)
theorem PS.imp {X : Cx} {e : Stmt} {t t' : TS} (h : PS X e t) (f : ∀ σ H Q, t' Q σ H → t Q σ H) : PS X e t' := fun pins s σ H Q I z => h pins s σ H Q I (f σ H Q z)
theorem PSs.imp {X : Cx} {e : List Stmt} {t t' : TS} (h : PSs X e t) (f : ∀ σ H Q, t' Q σ H → t Q σ H) : PSs X e t' := fun pins s σ H Q I z => h pins s σ H Q I (f σ H Q z)
end FT
namespace FT
open PySem PySem.Spec PyProof.Rows L2
abbrev FE (K : PySem.W.Frag) (EX : XX) (ρ : List Addr) (H : Hp) (Q : VK) (r : Res D) : Prop := Fin K EX ρ H (fun d ρ' _ H' => ∀ v, RD K ρ' H' d v → Q v H') r
theorem FE.here {K : PySem.W.Frag} {EX : XX} {ρ : List Addr} {H : Hp} {Q : VK} {d : D} {h : AH} {v : V} (f : FE K EX ρ H Q (.ok d h)) (r : RH K ρ h H) (rd : RD K ρ H d v) : Q v H := f ρ H (Pre.refl _) (Ext.refl _ _) r v rd
theorem FE.tup {K : PySem.W.Frag} {EX : XX} {ρ : List Addr} {H : Hp} {Q : VK} {ds : List D} {xs : List V} {h : AH} {p : Addr} (f : FE K EX ρ H Q (.ok (.tup ds) h)) (r : RH K ρ h H) (hd : RDs K ρ H ds xs) (hp : H p = none) : Q (.ref p) (upd H p (.tup xs)) := by
  have e : Ext K H (L2.upd H p (.tup xs)) := Ext.upd (.inl hp)
  refine f ρ _ (Pre.refl _) e (r.other hp) _ ?_
  simp only [RD]
  exact ⟨p, xs, rfl, SqT.of upd_same, hd.mono (Pre.refl _) e⟩
theorem FE.lst {K : PySem.W.Frag} {EX : XX} {ρ : List Addr} {H : Hp} {Q : VK} {ds : List D} {xs : List V} {h : AH} {p : Addr} (f : FE K EX ρ H Q (.ok (.ref h.length) (h ++ [.lst ds]))) (r : RH K ρ h H) (hd : RDs K ρ H ds xs) (hp : H p = none) : Q (.ref p) (upd H p (.lst xs)) := by
  refine f (ρ ++ [p]) _ (Pre.app _ _) (Ext.upd (.inl hp)) (r.push hp hd) _ ?_
  simp only [RD]
  refine ⟨p, rfl, ?_⟩
  rw [← r.len]; simp
def getL (n : Nat) : M (List D) := fun h => match h[n]? with
  | some (.lst xs) => .ok xs h
  | _ => .bad
def newL (xs : List D) : M D := fun h => if xs.length ≤ sizeLine then .ok (.ref h.length) (h ++ [.lst xs]) else .bad
section
variable {X : Cx} {EX : XX} {a b c e : Expr} {pos : Pos} {ma mb mc : G → M D}
def eVar (i : Nat) : G → M D := fun γ => match γ[i]? with
  | some (some d) => pure d
  | _ => bad
theorem se_var (i : Nat) {x : Str} (hN : X.N[i]? = some x := by rfl) (hv : Vis X.env.scope x := by first | exact Or.inl rfl | exact Or.inr (Or.inl rfl) | exact Or.inr (Or.inr rfl))
    (hd : (x == ("__debug__" : Str)) = false := by decide) (hcd : (x == ("__classdict__" : Str)) = false := by decide) : SE X EX (.Name x pos) (eVar i) :=
  ⟨PE.imp (pe_var hN hv hd hcd) fun σ H Q ⟨ρ, γ, h, rel, f⟩ => by
    have f' : FE X.K EX ρ H Q (eVar i γ h) := f
    unfold eVar at f'
    cases e : γ[i]? with
    | none => rw [e] at f'; exact f'.elim
    | some o => cases o with
      | none => rw [e] at f'; exact f'.elim
      | some d =>
        rw [e] at f'
        obtain ⟨v, h1, h2⟩ := rel.g.var i d e
        exact ⟨v, h1, FE.here f' rel.h h2⟩⟩
theorem se_const {d : D} {v : V} (h : PE X e (tC v)) (r : ∀ ρ H, RD X.K ρ H d v) : SE X EX e (fun _ => pure d) :=
  ⟨PE.imp h fun σ H Q ⟨ρ, γ, h, rel, f⟩ => FE.here f rel.h (r ρ H)⟩
theorem se_int {i : Int} {j : Nat} : SE X EX (.Constant (.int i) j pos) (fun _ => pure (.int i)) := se_const pe_int fun _ _ => by simp [RD]
theorem se_bl {i : Bool} {j : Nat} : SE X EX (.Constant (.bool i) j pos) (fun _ => pure (.bl i)) := se_const pe_bl fun _ _ => by simp [RD]
theorem se_non {j : Nat} : SE X EX (.Constant .none j pos) (fun _ => pure .non) := se_const pe_non fun _ _ => by simp [RD]
theorem se_str {i : Str} {j : Nat} : SE X EX (.Constant (.str i) j pos) (fun _ => pure (.str i)) := se_const pe_str fun _ _ => by simp [RD]
theorem se_glob {x : Str} {d : D} {v : V} {u : Value} (hg : Gl X x) (hm : X.mg x = some u) (r : RelV v u) (hr : ∀ ρ H, RD X.K ρ H d v) (hd : (x == ("__debug__" : Str)) = false := by decide) : SE X EX (.Name x pos) (fun _ => pure d) :=
  se_const (pe_glob hg hm r hd) hr
def BR (K : PySem.W.Frag) (EX : XX) (r : R2) (f : D → D → M D) : Prop := ∀ ρ h H x y v u Q, RH K ρ h H → RD K ρ H x v → RD K ρ H y u → FE K EX ρ H Q (f x y h) → r v u H Q
def e2 (f : D → D → M D) (ma mb : G → M D) : G → M D := fun γ => do
  let x ← ma γ
  let y ← mb γ
  f x y
theorem se_two {r : R2} {f : D → D → M D} {ta tb : TE} (h : PE X e (tOp r (tE X.K EX ma) (tE X.K EX mb))) (hr : BR X.K EX r f) : SE X EX e (e2 f ma mb) :=
  ⟨PE.imp h fun σ H Q ⟨ρ, γ, h, rel, fin⟩ => ⟨ρ, γ, h, rel, (Fin.bind fin).mono fun x ρ1 h1 H1 p1 e1 r1 f1 v rv => ⟨ρ1, γ, h1, ⟨rel.g.mono p1 e1, r1⟩, (Fin.bind f1).mono fun y ρ2 h2 H2 p2 e2 r2 f2 u ru =>
    hr ρ2 h2 H2 x y v u Q r2 (rv.mono p2 e2) ru f2⟩⟩⟩
theorem se_op {op : Operator} {r : R2} {f : D → D → M D} (ho : OpR X (binaryOp op) r) (hr : BR X.K EX r f) (ha : SE X EX a ma) (hb : SE X EX b mb) : SE X EX (.BinOp a op b pos) (e2 f ma mb) :=
  se_two (ta := tE X.K EX ma) (tb := tE X.K EX mb) (pe_op ho ha.h hb.h) hr
theorem se_cmp {op : CmpOp} {r : R2} {f : D → D → M D} (ho : OpR X (compareOp op) r) (hr : BR X.K EX r f) (ha : SE X EX a ma) (hb : SE X EX b mb) (hm : behindInMarks op b = false) : SE X EX (.Compare a [op] [b] pos) (e2 f ma mb) :=
  se_two (ta := tE X.K EX ma) (tb := tE X.K EX mb) (pe_cmpR ho ha.h hb.h hm) hr
theorem BR.or {K : PySem.W.Frag} {r r' : R2} {f g f' : D → D → M D} (h : BR K EX r f) (h' : BR K EX r' g) (e : ∀ x y, (∀ z, f' x y z = f x y z) ∨ (∀ z, f' x y z = g x y z)) : BR K EX (fun x y H Q => r x y H Q ∨ r' x y H Q) f' := by
  intro ρ h0 H x y v u Q r0 rx ry fin
  rcases e x y with z | z
  · exact .inl (h ρ h0 H x y v u Q r0 rx ry (by rw [← z h0]; exact fin))
  · exact .inr (h' ρ h0 H x y v u Q r0 rx ry (by rw [← z h0]; exact fin))
def fI (g : Int → Int → D) : D → D → M D
  | .int i, .int j => pure (g i j)
  | _, _ => bad
theorem br_I0 {K : PySem.W.Frag} {g : Int → Int → D} {g' : Int → Int → V} (hg : ∀ i j ρ H, RD K ρ H (g i j) (g' i j)) : BR K EX (rI0 g') (fI g) := by
  intro ρ h H x y v u Q r rx ry fin
  unfold fI at fin
  split at fin
  · simp only [RD] at rx ry
    subst rx; subst ry
    exact ⟨_, _, rfl, rfl, FE.here fin r (hg _ _ _ _)⟩
  · exact fin.elim
def fIC (C : Int → Int → Bool) (g : Int → Int → D) : D → D → M D
  | .int i, .int j => if C i j then pure (g i j) else bad
  | _, _ => bad
theorem br_IC {K : PySem.W.Frag} {C : Int → Int → Bool} {C' : Int → Int → Prop} {g : Int → Int → D} {g' : Int → Int → V} (hc : ∀ i j, C i j = true → C' i j) (hg : ∀ i j ρ H, RD K ρ H (g i j) (g' i j)) : BR K EX (rI C' g') (fIC C g) := by
  intro ρ h H x y v u Q r rx ry fin
  unfold fIC at fin
  split at fin
  · simp only [RD] at rx ry
    subst rx; subst ry
    split at fin
    · rename_i hC
      exact ⟨_, _, rfl, rfl, hc _ _ hC, FE.here fin r (hg _ _ _ _)⟩
    · exact fin.elim
  · exact fin.elim
def fSub := fI fun i j => .int (i - j)
def fDiv := fIC (fun _ j => decide (0 < j) && decide (j < 1073741824)) fun i j => .int (i / j)
def fMod := fIC (fun _ j => decide (0 < j)) fun i j => .int (i % j)
def fPow := fIC (fun i j => decide (0 ≤ j) && decide (j ≤ 1000) && decide (-(2 ^ 64) < i) && decide (i < 2 ^ 64)) fun i j => .int (i ^ j.toNat)
def fShr := fIC (fun _ j => decide (0 ≤ j)) fun i j => .int (i / 2 ^ j.toNat)
def fAnd := fI fun i j => .int (Builtin.bitAnd i j)
theorem se_sub (ha : SE X EX a ma) (hb : SE X EX b mb) : SE X EX (.BinOp a .Sub b pos) (e2 fSub ma mb) := se_op op_sub (br_I0 fun i j ρ H => by simp [RD]) ha hb
theorem se_div (ha : SE X EX a ma) (hb : SE X EX b mb) : SE X EX (.BinOp a .FloorDiv b pos) (e2 fDiv ma mb) := se_op op_fdiv (br_IC (fun i j h => by simp at h; exact h) fun i j ρ H => by simp [RD]) ha hb
theorem se_mod (ha : SE X EX a ma) (hb : SE X EX b mb) : SE X EX (.BinOp a .Mod b pos) (e2 fMod ma mb) := se_op op_mod (br_IC (fun i j h => by simpa using h) fun i j ρ H => by simp [RD]) ha hb
theorem se_pow (ha : SE X EX a ma) (hb : SE X EX b mb) : SE X EX (.BinOp a .Pow b pos) (e2 fPow ma mb) := se_op op_pow (br_IC (fun i j h => by
  simp at h
  refine ⟨h.1.1.1, by omega, ?_⟩
  have h1 := h.1.2
  have h2 := h.2
  omega) fun i j ρ H => by simp [RD]) ha hb
theorem se_shr (ha : SE X EX a ma) (hb : SE X EX b mb) : SE X EX (.BinOp a .RShift b pos) (e2 fShr ma mb) := se_op op_shr (br_IC (fun i j h => by simpa using h) fun i j ρ H => by simp [RD]) ha hb
theorem se_and (ha : SE X EX a ma) (hb : SE X EX b mb) : SE X EX (.BinOp a .BitAnd b pos) (e2 fAnd ma mb) := se_op op_and (br_I0 fun i j ρ H => by simp [RD]) ha hb
def fAdd : D → D → M D
  | .int i, .int j => pure (.int (i + j))
  | .str i, .str j => if i.length + j.length ≤ sizeLine then pure (.str (i ++ j)) else bad
  | .ref i, .ref j => do
    let x ← getL i
    let y ← getL j
    newL (x ++ y)
  | .tup x, .tup y => if !decide (x.length + y.length ≤ sizeLine) then bad else pure (.tup (x ++ y))
  | _, _ => bad
theorem getL_ok {n : Nat} {h h1 : AH} {xs : List D} (e : getL n h = .ok xs h1) : h1 = h ∧ h[n]? = some (.lst xs) := by
  unfold getL at e
  split at e
  · rename_i q; cases e; exact ⟨rfl, q⟩
  · cases e
theorem getL_no {n : Nat} {h h1 : AH} {x : Exn} (e : getL n h = .err x h1) : False := by
  unfold getL at e
  split at e <;> cases e
def rCat0 (K : PySem.W.Frag) : R2 := fun x y H Q => ∃ a b ys, x = .ref a ∧ y = .ref b ∧ SqT K H a [] ∧ SqT K H b ys ∧ Q (.ref b) H
theorem op_cat0 : OpR X (binaryOp .Add) (rCat0 X.K) := by
  intro pins s σ H x y v u Q I rx ry h
  obtain ⟨a, b, ys, rfl, rfl, ha, hb, q⟩ := h
  cases rx
  cases ry
  obtain ⟨its, r1, p1, _⟩ := I.tuple ha
  obtain ⟨its2, r2, p2, _⟩ := I.tuple hb
  have e : its = [] := (r1.nil_iff).mpr rfl
  subst e
  obtain ⟨⟨cls, dd, data, sl⟩, ho, hc, n, hd⟩ := id p1
  obtain ⟨⟨cls2, dd2, data2, sl2⟩, ho2, hc2, n2, hd2⟩ := id p2
  simp only at hc hd hc2 hd2
  subst hc hd hc2 hd2
  exact concat_meets ⟨_, ho, rfl⟩ ⟨_, ho2, rfl⟩ noFill_tuple_add seq_tuple_add PySem.F.slot_tuple_add PySem.F.entry_tuple_add (PySem.F.args_tuple_add_2 _ _) (tuple_addW0 a b _ _ n n2 dd dd2 sl sl2 rfl) ⟨ho, ho2, .ref b, H, I, rfl, q⟩
theorem op_plus : OpR X (binaryOp .Add) (fun x y H Q => rI0 (fun i j => .int (i + j)) x y H Q ∨ (∃ i j, x = .str i ∧ y = .str j ∧ i.length + j.length ≤ sizeLine ∧ Q (.str (i ++ j)) H) ∨ rCat x y H Q ∨ rCatT X.K x y H Q ∨ rCat0 X.K x y H Q) :=
  op_add.or (op_add_str.or (op_cat.or (op_catT.or op_cat0)))
theorem br_plus : BR X.K EX (fun x y H Q => rI0 (fun i j => .int (i + j)) x y H Q ∨ (∃ i j, x = .str i ∧ y = .str j ∧ i.length + j.length ≤ sizeLine ∧ Q (.str (i ++ j)) H) ∨ rCat x y H Q ∨ rCatT X.K x y H Q ∨ rCat0 X.K x y H Q) fAdd := by
  intro ρ h H x y v u Q r rx ry fin
  unfold fAdd at fin
  split at fin
  · simp only [RD] at rx ry; subst rx; subst ry
    exact .inl ⟨_, _, rfl, rfl, FE.here fin r (by simp [RD])⟩
  · simp only [RD] at rx ry; subst rx; subst ry
    split at fin
    · rename_i hl
      exact .inr (.inl ⟨_, _, rfl, rfl, hl, FE.here fin r (by simp [RD])⟩)
    · exact fin.elim
  · rename_i i j
    simp only [RD] at rx ry
    obtain ⟨ai, rfl, hi⟩ := rx
    obtain ⟨aj, rfl, hj⟩ := ry
    have f1 := Fin.bind fin
    cases e : getL i h with
    | bad => rw [e] at f1; exact f1.elim
    | err z hz => exact (getL_no e).elim
    | ok xs h1 =>
      obtain ⟨rfl, q1⟩ := getL_ok e
      rw [e] at f1
      have f2 := Fin.bind (f1 ρ H (Pre.refl _) (Ext.refl _ _) r)
      cases e3 : getL j h1 with
      | bad => rw [e3] at f2; exact f2.elim
      | err z hz => exact (getL_no e3).elim
      | ok ys h2 =>
        obtain ⟨rfl, q2⟩ := getL_ok e3
        rw [e3] at f2
        have f3 := f2 ρ H (Pre.refl _) (Ext.refl _ _) r
        dsimp only at f3
        unfold newL at f3
        split at f3
        · rename_i hl
          obtain ⟨a1, n1, xs1, o1, d1⟩ := r.at q1
          obtain ⟨a2, n2, xs2, o2, d2⟩ := r.at q2
          rw [hi] at n1; cases n1
          rw [hj] at n2; cases n2
          refine .inr (.inr (.inl ⟨_, _, _, _, rfl, rfl, o1, o2, ?_, fun p hp => FE.lst f3 r (d1.append d2) hp⟩))
          rw [← d1.length, ← d2.length, ← List.length_append]; exact hl
        · exact f3.elim
  · rename_i x y
    simp only [RD] at rx ry
    obtain ⟨ax, xs, rfl, hx, dx⟩ := rx
    obtain ⟨ay, ys, rfl, hy, dy⟩ := ry
    split at fin
    · exact fin.elim
    · rename_i hc
      simp at hc
      have l1 := dx.length
      have l2 := dy.length
      by_cases hxe : xs = []
      · subst hxe
        have xe : x = [] := by simpa using l1
        subst xe
        refine .inr (.inr (.inr (.inr ⟨ax, ay, ys, rfl, rfl, hx, hy, FE.here fin r ?_⟩)))
        simp only [RD]
        exact ⟨ay, ys, rfl, hy, by simpa using dy⟩
      refine .inr (.inr (.inr (.inl ⟨ax, ay, xs, ys, rfl, rfl, hx, hy, hxe, by omega, fun e => ?_, fun e p hp => FE.tup fin r (dx.append dy) hp⟩)))
      · subst e
        refine FE.here fin r ?_
        simp only [RD]
        have : y = [] := by simpa using l2
        subst this
        exact ⟨ax, xs, rfl, hx, by simpa using dx⟩
  · exact fin.elim
theorem se_add (ha : SE X EX a ma) (hb : SE X EX b mb) : SE X EX (.BinOp a .Add b pos) (e2 fAdd ma mb) := se_op op_plus br_plus ha hb
def fMul : D → D → M D
  | .int i, .int j => if (decide (-(2 ^ 64) < i) && decide (i < 2 ^ 64)) || (decide (-(2 ^ 64) < j) && decide (j < 2 ^ 64)) then pure (.int (i * j)) else bad
  | .ref i, .int j => do
    let x ← getL i
    if decide (-(2 ^ 63) ≤ j) && decide (j < 2 ^ 63) then newL (List.replicate j.toNat x).flatten else bad
  | _, _ => bad
theorem br_mul : BR X.K EX (fun x y H Q => rI CMul (fun i j => .int (i * j)) x y H Q ∨ rRep x y H Q) fMul := by
  intro ρ h H x y v u Q r rx ry fin
  unfold fMul at fin
  split at fin
  · simp only [RD] at rx ry; subst rx; subst ry
    split at fin
    · rename_i hc
      refine .inl ⟨_, _, rfl, rfl, ?_, FE.here fin r (by simp [RD])⟩
      simp only [Bool.or_eq_true, Bool.and_eq_true, decide_eq_true_eq] at hc
      exact hc
    · exact fin.elim
  · rename_i i j
    simp only [RD] at rx ry
    obtain ⟨ai, rfl, hi⟩ := rx
    subst ry
    have f1 := Fin.bind fin
    cases e : getL i h with
    | bad => rw [e] at f1; exact f1.elim
    | err z hz => exact (getL_no e).elim
    | ok xs h1 =>
      obtain ⟨rfl, q1⟩ := getL_ok e
      rw [e] at f1
      have f2 := f1 ρ H (Pre.refl _) (Ext.refl _ _) r
      dsimp only at f2
      split at f2
      · rename_i hb
        simp only [Bool.and_eq_true, decide_eq_true_eq] at hb
        unfold newL at f2
        split at f2
        · rename_i hl
          obtain ⟨a1, n1, xs1, o1, d1⟩ := r.at q1
          rw [hi] at n1; cases n1
          refine .inr ⟨_, _, _, rfl, rfl, o1, hb.1, hb.2, ?_, fun p hp => FE.lst f2 r (d1.flat j.toNat) hp⟩
          rw [L2.len_rep, d1.length] at hl
          rw [Nat.mul_comm]; exact hl
        · exact f2.elim
      · exact f2.elim
  · exact fin.elim
def fCmp (g : Int → Int → Bool) : D → D → M D := fI fun i j => .bl (g i j)
def fLt : D → D → M D
  | .int i, .int j => pure (.bl (decide (i < j)))
  | .str i, .str j => pure (.bl (decide (i.cps.toList < j.cps.toList)))
  | _, _ => bad
def fLe : D → D → M D
  | .int i, .int j => pure (.bl (decide (i ≤ j)))
  | .str i, .str j => pure (.bl (!decide (j.cps.toList < i.cps.toList)))
  | _, _ => bad
def fGt : D → D → M D := fCmp fun i j => decide (j < i)
def fGe : D → D → M D := fCmp fun i j => decide (j ≤ i)
theorem op_le_str : OpR X (compareOp .LtE) (fun x y H Q => ∃ i j, x = .str i ∧ y = .str j ∧ Q (.bl (!decide (j.cps.toList < i.cps.toList))) H) := by
  intro pins s σ H x y v u Q I rx ry h
  obtain ⟨i, j, rfl, rfl, q⟩ := h
  obtain ⟨t, rfl⟩ := rx
  obtain ⟨t', rfl⟩ := ry
  exact PySem.P.le_str ⟨.bl _, H, I, rfl, q⟩
theorem br_lt {K : PySem.W.Frag} : BR K EX (fun x y H Q => rI0 (fun i j => .bl (decide (i < j))) x y H Q ∨ ∃ i j, x = .str i ∧ y = .str j ∧ Q (.bl (decide (i.cps.toList < j.cps.toList))) H) fLt := by
  intro ρ h H x y v u Q r rx ry fin
  unfold fLt at fin
  split at fin
  · simp only [RD] at rx ry; subst rx; subst ry
    exact .inl ⟨_, _, rfl, rfl, FE.here fin r (by simp [RD])⟩
  · simp only [RD] at rx ry; subst rx; subst ry
    exact .inr ⟨_, _, rfl, rfl, FE.here fin r (by simp [RD])⟩
  · exact fin.elim
theorem br_le {K : PySem.W.Frag} : BR K EX (fun x y H Q => rI0 (fun i j => .bl (decide (i ≤ j))) x y H Q ∨ ∃ i j, x = .str i ∧ y = .str j ∧ Q (.bl (!decide (j.cps.toList < i.cps.toList))) H) fLe := by
  intro ρ h H x y v u Q r rx ry fin
  unfold fLe at fin
  split at fin
  · simp only [RD] at rx ry; subst rx; subst ry
    exact .inl ⟨_, _, rfl, rfl, FE.here fin r (by simp [RD])⟩
  · simp only [RD] at rx ry; subst rx; subst ry
    exact .inr ⟨_, _, rfl, rfl, FE.here fin r (by simp [RD])⟩
  · exact fin.elim
def eqD : D → D → Option Bool
  | .int i, .int j => some (decide (i = j))
  | .str i, .str j => some (decide (i = j))
  | .bl i, .bl j => some (decide (i = j))
  | .non, .non => some true
  | .int _, .str _ => some false
  | .str _, .int _ => some false
  | .non, .int _ => some false
  | .int _, .non => some false
  | .non, .str _ => some false
  | .str _, .non => some false
  | _, _ => none
def fEq (neg : Bool) : D → D → M D := fun x y => match eqD x y with
  | some b => pure (.bl (b != neg))
  | none => bad
theorem eqD_rel {K : PySem.W.Frag} {ρ : List Addr} {H : Hp} {x y : D} {v u : V} {k : Bool} (e : eqD x y = some k) (rx : RD K ρ H x v) (ry : RD K ρ H y u) : scal v u = true ∧ decide (v = u) = k := by
  cases x <;> cases y <;> first
    | (have e' : none = some k := e
       exact nomatch e')
    | (simp only [eqD] at e
       simp only [RD] at rx ry
       subst rx
       subst ry
       cases e
       exact ⟨rfl, by simp⟩)
theorem br_eq {K : PySem.W.Frag} : BR K EX rEq (fEq false) := by
  intro ρ h H x y v u Q r rx ry fin
  unfold fEq at fin
  cases hk : eqD x y with
  | none => rw [hk] at fin; exact fin.elim
  | some k =>
    rw [hk] at fin
    obtain ⟨h1, h2⟩ := eqD_rel hk rx ry
    refine ⟨h1, ?_⟩
    rw [h2]
    refine FE.here fin r ?_
    cases k <;> simp [RD]
def flatD : D → Bool
  | .non => true
  | .bl _ => true
  | .int _ => true
  | .str _ => true
  | _ => false
def eqF : D → D → Bool
  | .non, .non => true
  | .bl a, .bl b => a == b
  | .bl a, .int b => (if a then 1 else 0) == b
  | .int a, .bl b => a == (if b then 1 else 0)
  | .int a, .int b => a == b
  | .str a, .str b => a == b
  | _, _ => false
def seqD : D → M (List D)
  | .tup xs => pure xs
  | .fl xs => pure xs
  | .ref n => getL n
  | _ => bad
def fIn (neg : Bool) : D → D → M D := fun x y => do
  let ys ← seqD y
  if flatD x && ys.all flatD then pure (.bl ((ys.any fun z => eqF z x) != neg)) else bad
theorem flat_rel {K : PySem.W.Frag} {ρ : List Addr} {H : Hp} {x : D} {v : V} (f : flatD x = true) (r : RD K ρ H x v) : flatV v = true := by
  cases x <;> simp only [RD] at r <;> first | (subst r; rfl) | cases f
theorem eqF_rel {K : PySem.W.Frag} {ρ : List Addr} {H : Hp} {x y : D} {v u : V} (f : flatD x = true) (f' : flatD y = true) (r : RD K ρ H x v) (r' : RD K ρ H y u) : eqV v u = eqF x y := by
  cases x with
  | non => simp only [RD] at r; subst r; cases y <;> first | (simp only [RD] at r'; subst r'; rfl) | cases f'
  | bl b => simp only [RD] at r; subst r; cases y <;> first | (simp only [RD] at r'; subst r'; rfl) | cases f'
  | int b => simp only [RD] at r; subst r; cases y <;> first | (simp only [RD] at r'; subst r'; rfl) | cases f'
  | str b => simp only [RD] at r; subst r; cases y <;> first | (simp only [RD] at r'; subst r'; rfl) | cases f'
  | tup b => cases f
  | fl b => cases f
  | ref b => cases f
theorem flats_rel {K : PySem.W.Frag} {ρ : List Addr} {H : Hp} : ∀ {xs : List D} {vs : List V}, RDs K ρ H xs vs → xs.all flatD = true → vs.all flatV = true
  | [], vs, r, _ => by simp only [RDs] at r; subst r; rfl
  | x :: xs, vs, r, f => by
    simp only [RDs] at r
    obtain ⟨v, r2, rfl, h1, h2⟩ := r
    rw [List.all_cons, Bool.and_eq_true] at f ⊢
    exact ⟨flat_rel f.1 h1, flats_rel h2 f.2⟩
theorem any_rel {K : PySem.W.Frag} {ρ : List Addr} {H : Hp} {x : D} {v : V} (f : flatD x = true) (r : RD K ρ H x v) : ∀ {xs : List D} {vs : List V}, RDs K ρ H xs vs → xs.all flatD = true → (vs.any fun y => eqV y v) = xs.any fun z => eqF z x
  | [], vs, rs, _ => by simp only [RDs] at rs; subst rs; rfl
  | y :: xs, vs, rs, fs => by
    simp only [RDs] at rs
    obtain ⟨u, r2, rfl, h1, h2⟩ := rs
    rw [List.all_cons, Bool.and_eq_true] at fs
    rw [List.any_cons, List.any_cons, eqF_rel fs.1 f h1 r, any_rel f r h2 fs.2]
theorem seqD_rel {K : PySem.W.Frag} {ρ : List Addr} {h h1 : AH} {H : Hp} {y : D} {u : V} {ys : List D} (r : RH K ρ h H) (ry : RD K ρ H y u) (e : seqD y h = .ok ys h1) : h1 = h ∧ ∃ p xs, u = .ref p ∧ (SqL K H p xs ∨ SqT K H p xs) ∧ RDs K ρ H ys xs := by
  unfold seqD at e
  split at e
  · cases e; simp only [RD] at ry; obtain ⟨p, xs, rfl, h2, h3⟩ := ry; exact ⟨rfl, p, xs, rfl, .inr h2, h3⟩
  · cases e; simp only [RD] at ry; obtain ⟨p, xs, rfl, h2, h3⟩ := ry; exact ⟨rfl, p, xs, rfl, .inl h2.sq, h3⟩
  · obtain ⟨rfl, q⟩ := getL_ok e
    simp only [RD] at ry; obtain ⟨p, rfl, h2⟩ := ry
    obtain ⟨a, n1, xs, o1, d1⟩ := r.at q
    rw [h2] at n1; cases n1
    exact ⟨rfl, p, xs, rfl, .inl (SqL.of o1), d1⟩
  · cases e
theorem seqD_no {y : D} {h h1 : AH} {x : Exn} (e : seqD y h = .err x h1) : False := by
  unfold seqD at e
  split at e
  · cases e
  · cases e
  · exact getL_no e
  · cases e
theorem br_in {K : PySem.W.Frag} {neg : Bool} : BR K EX (rIn K neg) (fIn neg) := by
  intro ρ h H x y v u Q r rx ry fin
  have f1 := Fin.bind fin
  cases e : seqD y h with
  | bad => rw [e] at f1; exact f1.elim
  | err z hz => exact (seqD_no e).elim
  | ok ys h1 =>
    obtain ⟨rfl, p, xs, rfl, hs, hd⟩ := seqD_rel r ry e
    rw [e] at f1
    have f2 := f1 ρ H (Pre.refl _) (Ext.refl _ _) r
    dsimp only at f2
    split at f2
    · rename_i hc
      rw [Bool.and_eq_true] at hc
      refine ⟨p, xs, rfl, hs, flat_rel hc.1 rx, flats_rel hd hc.2, ?_⟩
      refine FE.here f2 r ?_
      unfold inV
      rw [any_rel hc.1 rx hd hc.2]
      cases neg <;> simp [RD]
    · exact f2.elim
end
end FT
namespace FT
open PySem PySem.Spec PyProof.Rows L2
section
variable {env : Env} {es : List Expr}
theorem st_Constant {c k p} : starEach (.Constant c k p :: es) env = (false, eval (.Constant c k p) env) :: starEach es env := rfl
theorem st_Name {c p} : starEach (.Name c p :: es) env = (false, eval (.Name c p) env) :: starEach es env := rfl
theorem st_Call {a b c p} : starEach (.Call a b c p :: es) env = (false, eval (.Call a b c p) env) :: starEach es env := rfl
theorem st_BinOp {a b c p} : starEach (.BinOp a b c p :: es) env = (false, eval (.BinOp a b c p) env) :: starEach es env := rfl
theorem st_Compare {a b c p} : starEach (.Compare a b c p :: es) env = (false, eval (.Compare a b c p) env) :: starEach es env := rfl
theorem st_Subscript {a b p} : starEach (.Subscript a b p :: es) env = (false, eval (.Subscript a b p) env) :: starEach es env := rfl
theorem st_Tuple {a b p} : starEach (.Tuple a b p :: es) env = (false, eval (.Tuple a b p) env) :: starEach es env := rfl
theorem st_List {a p} : starEach (.List a p :: es) env = (false, eval (.List a p) env) :: starEach es env := rfl
theorem st_UnaryOp {a b p} : starEach (.UnaryOp a b p :: es) env = (false, eval (.UnaryOp a b p) env) :: starEach es env := rfl
theorem st_ListComp {a b c p} : starEach (.ListComp a b c p :: es) env = (false, eval (.ListComp a b c p) env) :: starEach es env := rfl
end
section
variable {X : Cx} {EX : XX} {a b c e : Expr} {pos : Pos} {ma mb mc : G → M D}
def CO (X : Cx) (EX : XX) (op : CmpOp) (f : D → D → M D) : Prop := ∃ r, OpR X (compareOp op) r ∧ BR X.K EX r f
theorem co_lt : CO X EX .Lt fLt := ⟨_, op_lt.or op_lt_str, br_lt⟩
theorem co_le : CO X EX .LtE fLe := ⟨_, op_le.or op_le_str, br_le⟩
theorem co_gt : CO X EX .Gt fGt := ⟨_, op_gt, br_I0 fun i j ρ H => by simp [RD]⟩
theorem co_ge : CO X EX .GtE fGe := ⟨_, op_ge, br_I0 fun i j ρ H => by simp [RD]⟩
theorem co_eq : CO X EX .Eq (fEq false) := ⟨_, op_eq, br_eq⟩
theorem co_in : CO X EX .In (fIn false) := ⟨_, op_in_seq, br_in⟩
theorem co_notin : CO X EX .NotIn (fIn true) := ⟨_, op_notIn_seq, br_in⟩
theorem se_c {op : CmpOp} {f : D → D → M D} (h : CO X EX op f) (ha : SE X EX a ma) (hb : SE X EX b mb) (hm : behindInMarks op b = false := by first | exact nomark _ | with_unfolding_all rfl) : SE X EX (.Compare a [op] [b] pos) (e2 f ma mb) := by
  obtain ⟨r, h1, h2⟩ := h
  exact se_cmp h1 h2 ha hb hm
def asB : D → M Bool
  | .bl b => pure b
  | _ => bad
theorem tT_of {t : TE} {m : G → M D} (h : ∀ σ H Q, tE X.K EX m σ H Q → t σ H Q) : ∀ σ H Q, tT X.K EX (fun γ => do let d ← m γ; asB d) σ H Q → tTest t σ H Q := by
  intro σ H Q ⟨ρ, γ, h0, rel, fin⟩
  refine h σ H _ ⟨ρ, γ, h0, rel, (Fin.bind fin).mono fun d ρ1 h1 H1 p1 e1 r1 f1 v rv => ?_⟩
  cases d <;> first | exact (show False from f1).elim | skip
  rename_i b
  simp only [RD] at rv
  exact ⟨b, rv, f1 ρ1 H1 (Pre.refl _) (Ext.refl _ _) r1⟩
theorem sc_c {op : CmpOp} {f : D → D → M D} (h : CO X EX op f) (ha : SE X EX a ma) (hb : SE X EX b mb) (hm : behindInMarks op b = false := by first | exact nomark _ | with_unfolding_all rfl) : SC X EX (.Compare a [op] [b] pos) (fun γ => do let d ← e2 f ma mb γ; asB d) := by
  constructor
  obtain ⟨r, h1, h2⟩ := h
  refine PT.imp (pt_cmpR h1 ha.h hb.h hm) (tT_of fun σ H Q ⟨ρ, γ, h, rel, fin⟩ => ?_)
  exact ⟨ρ, γ, h, rel, (Fin.bind fin).mono fun x ρ1 h1 H1 p1 e1 r1 f1 v rv => ⟨ρ1, γ, h1, ⟨rel.g.mono p1 e1, r1⟩, (Fin.bind f1).mono fun y ρ2 h3 H2 p2 e2 r2 f2 u ru =>
    h2 ρ2 h3 H2 x y v u Q r2 (rv.mono p2 e2) ru f2⟩⟩
def e3 (f g : D → D → M D) (ma mb mc : G → M D) : G → M D := fun γ => do
  let x ← ma γ
  let y ← mb γ
  let k ← f x y
  let t ← asB k
  if t then do
    let z ← mc γ
    g y z
  else pure (.bl false)
theorem chain_of {r r' : R2} {f g : D → D → M D} (h2 : BR X.K EX r f) (h4 : BR X.K EX r' g) : ∀ σ H Q, tE X.K EX (e3 f g ma mb mc) σ H Q → tChain r r' (tE X.K EX ma) (tE X.K EX mb) (tE X.K EX mc) σ H Q := by
  intro σ H Q ⟨ρ, γ, h, rel, fin⟩
  refine ⟨ρ, γ, h, rel, (Fin.bind fin).mono fun x ρ1 h1 H1 p1 e1 r1 f1 v rv => ⟨ρ1, γ, h1, ⟨rel.g.mono p1 e1, r1⟩, (Fin.bind f1).mono fun y ρ2 h3 H2 p2 e2 r2 f2 u ru => ?_⟩⟩
  refine h2 ρ2 h3 H2 x y v u _ r2 (rv.mono p2 e2) ru ((Fin.bind f2).mono fun k ρ3 h5 H3 p3 e3 r3 f3 z rz => ?_)
  cases k <;> first | exact (show False from f3).elim | skip
  rename_i t
  simp only [RD] at rz
  refine ⟨t, rz, ?_⟩
  cases t with
  | false =>
    rw [if_neg (by decide)]
    exact FE.here (d := .bl false) (h := h5) (ρ := ρ3) f3 r3 (by simp [RD])
  | true =>
    rw [if_pos rfl]
    have f4 : Fin X.K EX ρ3 H3 (fun d ρ' _ H' => ∀ v, RD X.K ρ' H' d v → Q v H') ((mc γ >>= fun z => g y z) h5) := f3
    exact ⟨ρ3, γ, h5, ⟨((rel.g.mono p1 e1).mono p2 e2).mono p3 e3, r3⟩, (Fin.bind f4).mono fun w ρ4 h6 H4 p4 e4 r4 f5 q rq => h4 ρ4 h6 H4 y w u q Q r4 ((ru.mono p3 e3).mono p4 e4) rq f5⟩
theorem se_c2 {op op' : CmpOp} {f g : D → D → M D} (h : CO X EX op f) (h' : CO X EX op' g) (ha : SE X EX a ma) (hb : SE X EX b mb) (hc : SE X EX c mc) (hm : lastMarks [op, op'] [b, c] = false := by with_unfolding_all rfl) : SE X EX (.Compare a [op, op'] [b, c] pos) (e3 f g ma mb mc) := by
  constructor
  obtain ⟨r, h1, h2⟩ := h
  obtain ⟨r', h3, h4⟩ := h'
  exact PE.imp (pe_chain h1 h3 ha.h hb.h hc.h hm) (chain_of h2 h4)
def eAnd (ma mb : G → M D) : G → M D := fun γ => do
  let x ← ma γ
  let t ← asB x
  if t then mb γ else pure (.bl false)
def eOr (ma mb : G → M D) : G → M D := fun γ => do
  let x ← ma γ
  let t ← asB x
  if t then pure (.bl true) else mb γ
def eNot (ma : G → M D) : G → M D := fun γ => do
  let x ← ma γ
  let t ← asB x
  pure (.bl (!t))
variable {rest : List Expr}
theorem se_one {op : PySem.BoolOp} (ha : SE X EX a ma) : SE X EX (.BoolOp op [a] pos) ma := ⟨pe_one ha.h⟩
theorem se_band (ha : SE X EX a ma) (hb : SE X EX (.BoolOp .And (b :: rest) pos) mb) : SE X EX (.BoolOp .And (a :: b :: rest) pos) (eAnd ma mb) :=
  ⟨PE.imp (pe_and ha.h hb.h) fun σ H Q ⟨ρ, γ, h, rel, fin⟩ => ⟨ρ, γ, h, rel, (Fin.bind fin).mono fun x ρ1 h1 H1 p1 e1 r1 f1 v rv => by
    cases x <;> first | exact (show False from f1).elim | skip
    rename_i t
    simp only [RD] at rv
    refine ⟨t, rv, ?_⟩
    cases t with
    | true => exact ⟨ρ1, γ, h1, ⟨rel.g.mono p1 e1, r1⟩, f1⟩
    | false => exact FE.here (d := .bl false) (h := h1) (ρ := ρ1) f1 r1 (by simp [RD])⟩⟩
theorem se_bnot (ha : SE X EX a ma) : SE X EX (.UnaryOp .Not a pos) (eNot ma) :=
  ⟨PE.imp (pe_not ha.h) fun σ H Q ⟨ρ, γ, h, rel, fin⟩ => ⟨ρ, γ, h, rel, (Fin.bind fin).mono fun x ρ1 h1 H1 p1 e1 r1 f1 v rv => by
    cases x <;> first | exact (show False from f1).elim | skip
    rename_i t
    simp only [RD] at rv
    exact ⟨t, rv, FE.here (d := .bl (!t)) (h := h1) (ρ := ρ1) f1 r1 (by simp [RD])⟩⟩⟩
structure SW (X : Cx) (EX : XX) (e : Expr) (m : G → M Bool) : Prop where
  h : PW X e (tT X.K EX m)
theorem PW.imp {X : Cx} {e : Expr} {t t' : TT} (h : PW X e t) (f : ∀ σ H Q, t' σ H Q → t σ H Q) : PW X e t' := fun w pins s σ H Q I z => h w pins s σ H Q I (f σ H Q z)
variable {ka kb kc : G → M Bool}
def cAnd (ka kb : G → M Bool) : G → M Bool := fun γ => do
  let t ← ka γ
  if t then kb γ else pure false
def cOr (ka kb : G → M Bool) : G → M Bool := fun γ => do
  let t ← ka γ
  if t then pure true else kb γ
def cNot (ka : G → M Bool) : G → M Bool := fun γ => do
  let t ← ka γ
  pure (!t)
theorem sw_and1 (ha : SC X EX a ka) : SW X EX (.BoolOp .And [a] pos) ka := ⟨pw_and1 ha.h⟩
theorem sw_or1 (ha : SC X EX a ka) : SW X EX (.BoolOp .Or [a] pos) ka := ⟨pw_or1 ha.h⟩
theorem sw_and (ha : SC X EX a ka) (hb : SW X EX (.BoolOp .And (b :: rest) pos) kb) : SW X EX (.BoolOp .And (a :: b :: rest) pos) (cAnd ka kb) :=
  ⟨PW.imp (pw_and ha.h hb.h) fun σ H Q ⟨ρ, γ, h, rel, fin⟩ => ⟨ρ, γ, h, rel, (Fin.bind fin).mono fun t ρ1 h1 H1 p1 e1 r1 f1 => by
    cases t with
    | true => exact ⟨ρ1, γ, h1, ⟨rel.g.mono p1 e1, r1⟩, f1⟩
    | false => exact f1 ρ1 H1 (Pre.refl _) (Ext.refl _ _) r1⟩⟩
theorem sw_or (ha : SC X EX a ka) (hb : SW X EX (.BoolOp .Or (b :: rest) pos) kb) : SW X EX (.BoolOp .Or (a :: b :: rest) pos) (cOr ka kb) :=
  ⟨PW.imp (pw_or ha.h hb.h) fun σ H Q ⟨ρ, γ, h, rel, fin⟩ => ⟨ρ, γ, h, rel, (Fin.bind fin).mono fun t ρ1 h1 H1 p1 e1 r1 f1 => by
    cases t with
    | false => exact ⟨ρ1, γ, h1, ⟨rel.g.mono p1 e1, r1⟩, f1⟩
    | true => exact f1 ρ1 H1 (Pre.refl _) (Ext.refl _ _) r1⟩⟩
theorem SW.sc (h : SW X EX e ka) : SC X EX e ka := ⟨PW.pt h.h⟩
theorem sc_not (ha : SC X EX a ka) : SC X EX (.UnaryOp .Not a pos) (cNot ka) :=
  ⟨PT.imp (pt_not ha.h) fun σ H Q ⟨ρ, γ, h, rel, fin⟩ => ⟨ρ, γ, h, rel, (Fin.bind fin).mono fun t ρ1 h1 H1 p1 e1 r1 f1 => f1 ρ1 H1 (Pre.refl _) (Ext.refl _ _) r1⟩⟩
def truD : D → M Bool
  | .non => pure false
  | .bl b => pure b
  | .int i => pure (i != 0)
  | .str y => if y.length ≤ sizeLine then pure (decide (y.length ≠ 0)) else bad
  | .tup xs => pure (!xs.isEmpty)
  | .fl xs => pure (!xs.isEmpty)
  | .ref n => do
    let xs ← getL n
    pure (!xs.isEmpty)
def cVal (ma : G → M D) : G → M Bool := fun γ => do
  let x ← ma γ
  truD x
theorem isE {K : PySem.W.Frag} {ρ : List Addr} {H : Hp} {ds : List D} {xs : List V} (h : RDs K ρ H ds xs) : ds.isEmpty = xs.isEmpty := by
  have := h.length
  cases ds <;> cases xs <;> simp at this ⊢
theorem tru_rel {ρ : List Addr} {h : AH} {H : Hp} {x : D} {v : V} {Q : Bool → Hp → Prop} (r : RH X.K ρ h H) (rx : RD X.K ρ H x v) (f : Fin X.K EX ρ H (fun b _ _ H' => Q b H') (truD x h)) : ∃ k, TruV X.K v H k ∧ Q k H := by
  cases x with
  | non => simp only [RD] at rx; subst rx; exact ⟨false, rfl, f ρ H (Pre.refl _) (Ext.refl _ _) r⟩
  | bl b => simp only [RD] at rx; subst rx; exact ⟨b, rfl, f ρ H (Pre.refl _) (Ext.refl _ _) r⟩
  | int b => simp only [RD] at rx; subst rx; exact ⟨_, rfl, f ρ H (Pre.refl _) (Ext.refl _ _) r⟩
  | str y =>
    simp only [RD] at rx; subst rx
    have f' : Fin X.K EX ρ H (fun b _ _ H' => Q b H') ((if y.length ≤ sizeLine then pure (decide (y.length ≠ 0)) else bad : M Bool) h) := f
    by_cases hl : y.length ≤ sizeLine
    · rw [if_pos hl] at f'
      refine ⟨decide (y.length ≠ 0), ⟨hl, ?_⟩, f' ρ H (Pre.refl _) (Ext.refl _ _) r⟩
      rw [Bool.eq_iff_iff]; simp
    · rw [if_neg hl] at f'; exact f'.elim
  | tup xs =>
    simp only [RD] at rx; obtain ⟨a, vs, rfl, h1, h2⟩ := rx
    exact ⟨!xs.isEmpty, .inr (.inl ⟨vs, h1, by rw [isE h2]⟩), f ρ H (Pre.refl _) (Ext.refl _ _) r⟩
  | fl xs =>
    simp only [RD] at rx; obtain ⟨a, vs, rfl, h1, h2⟩ := rx
    exact ⟨!xs.isEmpty, .inl ⟨vs, h1.sq, by rw [isE h2]⟩, f ρ H (Pre.refl _) (Ext.refl _ _) r⟩
  | ref n =>
    have f1 := Fin.bind f
    cases e : getL n h with
    | bad => rw [e] at f1; exact f1.elim
    | err z hz => exact (getL_no e).elim
    | ok xs h1 =>
      obtain ⟨rfl, q1⟩ := getL_ok e
      rw [e] at f1
      have f2 := f1 ρ H (Pre.refl _) (Ext.refl _ _) r
      simp only [RD] at rx; obtain ⟨a, rfl, h2⟩ := rx
      obtain ⟨a1, n1, vs, o1, d1⟩ := r.at q1
      rw [h2] at n1; cases n1
      exact ⟨!xs.isEmpty, .inl ⟨vs, SqL.of o1, by rw [isE d1]⟩, f2 ρ H (Pre.refl _) (Ext.refl _ _) r⟩
theorem sc_val (ha : SE X EX a ma) (he : ∀ whole, isTrue a X.env whole = (do let v ← whole; standAt a.pos; holding [v] (truthy v)) := by intro _; rfl) : SC X EX a (cVal ma) :=
  ⟨PT.imp (pt_truth ha.h he) fun σ H Q ⟨ρ, γ, h, rel, fin⟩ => ⟨ρ, γ, h, rel, (Fin.bind fin).mono fun x ρ1 h1 H1 p1 e1 r1 f1 v rv => tru_rel r1 rv f1⟩⟩
def eIf (k : G → M Bool) (ma mb : G → M D) : G → M D := fun γ => do
  let t ← k γ
  if t then ma γ else mb γ
def aNil : G → M (List D) := fun _ => pure []
def aCons (ma : G → M D) (mr : G → M (List D)) : G → M (List D) := fun γ => do
  let x ← ma γ
  let r ← mr γ
  pure (x :: r)
variable {es : List Expr} {mr : G → M (List D)}
theorem sa_nil : SA X EX [] aNil := ⟨PA.imp pa_nil fun σ H Q ⟨ρ, γ, h, rel, fin⟩ => fin ρ H (Pre.refl _) (Ext.refl _ _) rel.h [] RDs.nil⟩
theorem sa_cons (ha : SE X EX a ma) (hr : SA X EX es mr) (hs : starEach (a :: es) X.env = (false, eval a X.env) :: starEach es X.env := by first | exact st_Constant | exact st_Name | exact st_Call | exact st_BinOp | exact st_Compare | exact st_Subscript | exact st_Tuple | exact st_List | exact st_UnaryOp | exact st_ListComp | rfl) : SA X EX (a :: es) (aCons ma mr) :=
  ⟨PA.imp (pa_cons ha.h hr.h hs) fun σ H Q ⟨ρ, γ, h, rel, fin⟩ => ⟨ρ, γ, h, rel, (Fin.bind fin).mono fun x ρ1 h1 H1 p1 e1 r1 f1 v rv => ⟨ρ1, γ, h1, ⟨rel.g.mono p1 e1, r1⟩, (Fin.bind f1).mono fun ds ρ2 h2 H2 p2 e2 r2 f2 vs rvs =>
    f2 ρ2 H2 (Pre.refl _) (Ext.refl _ _) r2 (v :: vs) (RDs.cons (rv.mono p2 e2) rvs)⟩⟩⟩
def eTup (mr : G → M (List D)) : G → M D := fun γ => do
  let xs ← mr γ
  if xs.length ≤ sizeLine then pure (.tup xs) else bad
def eLst (mr : G → M (List D)) : G → M D := fun γ => do
  let xs ← mr γ
  newL xs
theorem se_tup {k : Nat} (h : SA X EX es mr) : SE X EX (.Tuple es k pos) (eTup mr) :=
  ⟨PE.imp (pe_tup h.h) fun σ H Q ⟨ρ, γ, h, rel, fin⟩ => ⟨ρ, γ, h, rel, (Fin.bind fin).mono fun xs ρ1 h1 H1 p1 e1 r1 f1 vs rvs => by
    by_cases hl : xs.length ≤ sizeLine
    · rw [if_pos hl] at f1
      exact ⟨by rw [← rvs.length]; exact hl, fun p hp => FE.tup (h := h1) f1 r1 rvs hp⟩
    · rw [if_neg hl] at f1; exact (show False from f1).elim⟩⟩
theorem se_lst (h : SA X EX es mr) : SE X EX (.List es pos) (eLst mr) :=
  ⟨PE.imp (pe_lst h.h) fun σ H Q ⟨ρ, γ, h, rel, fin⟩ => ⟨ρ, γ, h, rel, (Fin.bind fin).mono fun xs ρ1 h1 H1 p1 e1 r1 f1 vs rvs => by
    unfold newL at f1
    split at f1
    · rename_i hl
      exact ⟨by rw [← rvs.length]; exact hl, fun p hp => FE.lst (h := h1) f1 r1 rvs hp⟩
    · exact (show False from f1).elim⟩⟩
def fIx : D → D → M D
  | .str z, .int i => if z.length ≤ sizeLine then (match atI z.cps.toList i with
    | some c => pure (.str ⟨#[c]⟩)
    | none => bad) else bad
  | x, .int i => do
    let xs ← seqD x
    match atI xs i with
    | some d => pure d
    | none => bad
  | _, _ => bad
theorem atI_rel {K : PySem.W.Frag} {ρ : List Addr} {H : Hp} {ds : List D} {xs : List V} {i : Int} {d : D} (h : RDs K ρ H ds xs) (e : atI ds i = some d) : ∃ x, atI xs i = some x ∧ RD K ρ H d x := by
  unfold atI at e ⊢
  rw [← h.length]
  cases q : ixN ds.length i with
  | none => rw [q] at e; cases e
  | some j => rw [q] at e; exact h.get e
theorem br_ix : BR X.K EX (rIx X.K) fIx := by
  intro ρ h H x y v u Q r rx ry fin
  unfold fIx at fin
  split at fin
  · simp only [RD] at rx ry; subst rx; subst ry
    rename_i z i
    by_cases hl : z.length ≤ sizeLine
    · rw [if_pos hl] at fin
      cases hc : atI z.cps.toList i with
      | none => rw [hc] at fin; exact fin.elim
      | some c =>
        rw [hc] at fin
        exact .inr (.inr ⟨_, _, c, rfl, rfl, hl, hc, FE.here fin r (by simp [RD])⟩)
    · rw [if_neg hl] at fin; exact fin.elim
  · rename_i i _
    simp only [RD] at ry; subst ry
    have f1 := Fin.bind fin
    cases e : seqD x h with
    | bad => rw [e] at f1; exact f1.elim
    | err z hz => exact (seqD_no e).elim
    | ok ys h1 =>
      obtain ⟨rfl, p, xs, rfl, hs, hd⟩ := seqD_rel r rx e
      rw [e] at f1
      have f2 := f1 ρ H (Pre.refl _) (Ext.refl _ _) r
      dsimp only at f2
      cases q : atI ys i with
      | none => rw [q] at f2; exact f2.elim
      | some d =>
        rw [q] at f2
        obtain ⟨w, h2, h3⟩ := atI_rel hd q
        rcases hs with hs | hs
        · exact .inl ⟨p, xs, i, w, rfl, rfl, hs, h2, FE.here f2 r h3⟩
        · exact .inr (.inl ⟨p, xs, i, w, rfl, rfl, hs, h2, FE.here f2 r h3⟩)
  · exact fin.elim
theorem se_ix (ha : SE X EX a ma) (hb : SE X EX b mb) (hs : PlainIx b := by intro _ _; rfl) : SE X EX (.Subscript a b pos) (e2 fIx ma mb) :=
  se_two (ta := tE X.K EX ma) (tb := tE X.K EX mb) (pe_ix ix_seq ha.h hb.h hs) br_ix
end
end FT
namespace FT
open PySem PySem.Spec PyProof.Rows L2
section
variable {X : Cx} {EX : XX} {a b c e : Expr} {pos p p2 : Pos} {ma mb mc : G → M D} {es : List Expr} {mr : G → M (List D)}
def AR (K : PySem.W.Frag) (EX : XX) (r : List V → Hp → VK → Prop) (f : List D → M D) : Prop := ∀ ρ h H ds vs Q, RH K ρ h H → RDs K ρ H ds vs → FE K EX ρ H Q (f ds h) → r vs H Q
def eCall (f : List D → M D) (mr : G → M (List D)) : G → M D := fun γ => do
  let xs ← mr γ
  f xs
theorem se_args {r : List V → Hp → VK → Prop} {f : List D → M D} (h : PE X e (tCB r (tL X.K EX mr))) (hr : AR X.K EX r f) : SE X EX e (eCall f mr) :=
  ⟨PE.imp h fun σ H Q ⟨ρ, γ, h, rel, fin⟩ => ⟨ρ, γ, h, rel, (Fin.bind fin).mono fun xs ρ1 h1 H1 p1 e1 r1 f1 vs rvs => hr ρ1 h1 H1 xs vs Q r1 rvs f1⟩⟩
theorem rds1 {K : PySem.W.Frag} {ρ : List Addr} {H : Hp} {d : D} {vs : List V} (h : RDs K ρ H [d] vs) : ∃ v, vs = [v] ∧ RD K ρ H d v := by
  simp only [RDs] at h
  obtain ⟨x, r, rfl, h2, rfl⟩ := h
  exact ⟨x, rfl, h2⟩
def fLen : List D → M D
  | [.str z] => if z.length ≤ sizeLine then pure (.int z.length) else bad
  | [x] => do
    let xs ← seqD x
    pure (.int xs.length)
  | _ => bad
theorem ar_len : AR X.K EX (fun xs H Q => ∃ x n, xs = [x] ∧ LenV X.K x H n ∧ Q (.int n) H) fLen := by
  intro ρ h H ds vs Q r rd fin
  unfold fLen at fin
  split at fin
  · rename_i z
    obtain ⟨v, rfl, rv⟩ := rds1 rd
    simp only [RD] at rv; subst rv
    by_cases hl : z.length ≤ sizeLine
    · rw [if_pos hl] at fin
      exact ⟨_, z.length, rfl, ⟨hl, rfl⟩, FE.here fin r (by simp [RD])⟩
    · rw [if_neg hl] at fin; exact fin.elim
  · rename_i x _
    obtain ⟨v, rfl, rv⟩ := rds1 rd
    have f1 := Fin.bind fin
    cases e : seqD x h with
    | bad => rw [e] at f1; exact f1.elim
    | err z hz => exact (seqD_no e).elim
    | ok ys h1 =>
      obtain ⟨rfl, p, xs, rfl, hs, hd⟩ := seqD_rel r rv e
      rw [e] at f1
      have f2 := f1 ρ H (Pre.refl _) (Ext.refl _ _) r
      refine ⟨_, ys.length, rfl, ?_, FE.here f2 r (by simp [RD])⟩
      rw [hd.length]
      rcases hs with hs | hs
      · exact .inl ⟨xs, hs, rfl⟩
      · exact .inr ⟨xs, hs, rfl⟩
  · exact fin.elim
theorem se_len (hg : Gl X "len") (hm : X.mg "len" = none) (ha : SA X EX [a] mr) (he : starEach [a] X.env = [(false, eval a X.env)] := by rfl) : SE X EX (.Call (.Name "len" p) [a] [] pos) (eCall fLen mr) :=
  se_args (pe_callB call_len hg hm PySem.boot_len ha.h (by decide) (by decide) he rfl) ar_len
def fTuple : List D → M D
  | [.tup xs] => pure (.tup xs)
  | [x] => do
    let xs ← seqD x
    pure (.tup xs)
  | _ => bad
theorem ar_tuple : AR X.K EX (fun xs H Q => ∃ p ys, xs = [.ref p] ∧ ((SqL X.K H p ys ∧ ∀ l, H l = none → Q (.ref l) (upd H l (.tup ys))) ∨ (SqT X.K H p ys ∧ Q (.ref p) H))) fTuple := by
  intro ρ h H ds vs Q r rd fin
  unfold fTuple at fin
  split at fin
  · obtain ⟨v, rfl, rv⟩ := rds1 rd
    have rv' := rv
    simp only [RD] at rv
    obtain ⟨q, xs, rfl, h1, h2⟩ := rv
    exact ⟨q, xs, rfl, .inr ⟨h1, FE.here fin r rv'⟩⟩
  · rename_i x hx
    obtain ⟨v, rfl, rv⟩ := rds1 rd
    have f1 := Fin.bind fin
    cases e : seqD x h with
    | bad => rw [e] at f1; exact f1.elim
    | err z hz => exact (seqD_no e).elim
    | ok ys h1 =>
      obtain ⟨rfl, q, xs, rfl, hs, hd⟩ := seqD_rel r rv e
      rw [e] at f1
      have f2 := f1 ρ H (Pre.refl _) (Ext.refl _ _) r
      refine ⟨q, xs, rfl, ?_⟩
      rcases hs with hs | hs
      · exact .inl ⟨hs, fun l hl => FE.tup f2 r hd hl⟩
      · refine .inr ⟨hs, FE.here f2 r ?_⟩
        simp only [RD]
        exact ⟨q, xs, rfl, hs, hd⟩
  · exact fin.elim
theorem se_tuple (hg : Gl X "tuple") (hm : X.mg "tuple" = none) (ha : SA X EX [a] mr) (he : starEach [a] X.env = [(false, eval a X.env)] := by rfl) : SE X EX (.Call (.Name "tuple" p) [a] [] pos) (eCall fTuple mr) :=
  se_args (pe_callTy call_tuple_of hg hm (by decide +kernel) ha.h (by decide) (by decide) he rfl) ar_tuple
def fList : List D → M D
  | [x] => do
    let xs ← seqD x
    newL xs
  | _ => bad
theorem ar_list : AR X.K EX (fun xs H Q => ∃ p ys, xs = [.ref p] ∧ (SqL X.K H p ys ∨ SqT X.K H p ys) ∧ ∀ l, H l = none → Q (.ref l) (upd H l (.lst ys))) fList := by
  intro ρ h H ds vs Q r rd fin
  unfold fList at fin
  split at fin
  · rename_i x
    obtain ⟨v, rfl, rv⟩ := rds1 rd
    have f1 := Fin.bind fin
    cases e : seqD x h with
    | bad => rw [e] at f1; exact f1.elim
    | err z hz => exact (seqD_no e).elim
    | ok ys h1 =>
      obtain ⟨rfl, q, xs, rfl, hs, hd⟩ := seqD_rel r rv e
      rw [e] at f1
      have f2 := f1 ρ H (Pre.refl _) (Ext.refl _ _) r
      unfold newL at f2
      dsimp only at f2
      split at f2
      · exact ⟨q, xs, rfl, hs, fun l hl => FE.lst f2 r hd hl⟩
      · exact f2.elim
  · exact fin.elim
theorem se_list (hg : Gl X "list") (hm : X.mg "list" = none) (ha : SA X EX [a] mr) (he : starEach [a] X.env = [(false, eval a X.env)] := by rfl) : SE X EX (.Call (.Name "list" p) [a] [] pos) (eCall fList mr) :=
  se_args (pe_callTy call_list_of hg hm (by decide +kernel) ha.h (by decide) (by decide) he rfl) ar_list
def tyD : D → M String
  | .non => pure "NoneType"
  | .bl _ => pure "bool"
  | .int _ => pure "int"
  | .str _ => pure "str"
  | .tup _ => pure "tuple"
  | .fl _ => pure "list"
  | .ref n => fun h => match h[n]? with
    | some (.lst _) => .ok "list" h
    | some .dct => .ok "dict" h
    | some (.dK _) => .ok "dict" h
    | _ => .bad
def subT (t T : String) : Bool := t == T || (t == "bool" && T == "int")
def tyNames : List String := ["NoneType", "bool", "int", "str", "tuple", "list", "dict"]
def tyAsked : List String := ["bool", "int", "str", "tuple", "list", "dict"]
theorem kit_all : tyNames.all (fun t => tyAsked.all fun T => decide (PySem.W.kitOne [] (.type t) (.type T) = some (subT t T))) = true := by decide +kernel
theorem kit_ty {K : PySem.W.Frag} {t T : String} (h1 : t ∈ tyNames) (h2 : T ∈ tyAsked) : PySem.W.kitOne K (.type t) (.type T) = some (subT t T) := by
  have q := kit_all
  rw [List.all_eq_true] at q
  have q2 := q t h1
  rw [List.all_eq_true] at q2
  have q3 := q2 T h2
  exact of_decide_eq_true q3
def fIsi (T : String) : D → M D := fun x => do
  let t ← tyD x
  pure (.bl (subT t T))
theorem isi_seq {pins : List (Addr × Obj)} {σ : L2.St} {H : Hp} {s : Shared} {E : Value → Shared → Prop} {Q : Value → Shared → Prop} {q : Addr} {c : Value} {k : Bool} {xs : List V} (I : Inv X pins σ H s) (h : SqT X.K H q xs) (e : PySem.W.kitOne X.K (.type "tuple") c = some k) (hQ : ∀ tk, Q (.bool k) { s with toks := tk }) :
    wpAny (model X.prog X.w) X.A (call (.builtin "isinstance") [.ref q, c]) Q E s := by
  obtain ⟨its, _, ht, _⟩ := I.tuple h
  obtain ⟨o, h1, h2, _⟩ := ht
  exact PySem.W.kia_one PySem.W.kitx_tuple I.kIn ⟨o, h1, h2⟩ e (fun z => nomatch z) hQ
theorem isi_lst {pins : List (Addr × Obj)} {σ : L2.St} {H : Hp} {s : Shared} {E : Value → Shared → Prop} {Q : Value → Shared → Prop} {q : Addr} {c : Value} {k : Bool} {xs : List V} (I : Inv X pins σ H s) (h : SqL X.K H q xs) (e : PySem.W.kitOne X.K (.type "list") c = some k) (hQ : ∀ tk, Q (.bool k) { s with toks := tk }) :
    wpAny (model X.prog X.w) X.A (call (.builtin "isinstance") [.ref q, c]) Q E s := by
  obtain ⟨its, _, ht, _⟩ := I.list h
  obtain ⟨o, n, h1, h2, _⟩ := ht
  exact PySem.W.kia_one PySem.W.kitx_list I.kIn ⟨o, h1, h2⟩ e (fun z => nomatch z) hQ
def TyV (K : PySem.W.Frag) (H : Hp) (v : V) (t : String) : Prop := match v with
  | .non => t = "NoneType"
  | .bl _ => t = "bool"
  | .int _ => t = "int"
  | .str _ => t = "str"
  | .ref q => (t = "tuple" ∧ ∃ xs, SqT K H q xs) ∨ (t = "list" ∧ ∃ xs, SqL K H q xs) ∨ (t = "dict" ∧ (H q = some (dctO q) ∨ ∃ kvs, H q = some (.dK kvs)))
  | _ => False
theorem call_isi {T : String} (hT : T ∈ tyAsked) : CallR X (.builtin "isinstance") (fun xs H Q => ∃ x t, xs = [x, .ty T] ∧ TyV X.K H x t ∧ Q (.bl (subT t T)) H) := by
  intro pins s σ H xs us Q I r h
  obtain ⟨x, t, rfl, ty, q⟩ := h
  obtain ⟨u, w', rfl, rx, rt⟩ := vals2 r
  cases rt
  have fin : ∀ tk, EP X pins σ Q (.bool (subT t T)) { s with toks := tk } := fun tk => ⟨.bl _, H, I.tok tk, rfl, q⟩
  have tb : ∀ {z : V} {t' : Value}, z = x → TyOf X.K H z t' → t' = .type t → t ∈ tyNames → wpAny (model X.prog X.w) X.A (call (.builtin "isinstance") [u, .type T]) (EP X pins σ Q) X.xe s := fun {z t'} e1 ty' e2 hn => by
    subst e1; subst e2
    exact isinst_ok I rx ty' (kit_ty hn hT) fin
  cases x with
  | non => exact tb rfl .non (by rw [show t = "NoneType" from ty]) (by rw [show t = "NoneType" from ty]; decide)
  | bl y => exact tb rfl (.bl y) (by rw [show t = "bool" from ty]) (by rw [show t = "bool" from ty]; decide)
  | int y => exact tb rfl (.int y) (by rw [show t = "int" from ty]) (by rw [show t = "int" from ty]; decide)
  | str y => exact tb rfl (.str y) (by rw [show t = "str" from ty]) (by rw [show t = "str" from ty]; decide)
  | ref y =>
    cases rx
    rcases (show (t = "tuple" ∧ ∃ xs, SqT X.K H y xs) ∨ (t = "list" ∧ ∃ xs, SqL X.K H y xs) ∨ (t = "dict" ∧ (H y = some (dctO y) ∨ ∃ kvs, H y = some (.dK kvs))) from ty) with ⟨rfl, xs, hs⟩ | ⟨rfl, xs, hs⟩ | ⟨rfl, hs | ⟨kvs, hs⟩⟩
    · exact isi_seq I hs (kit_ty (by decide) hT) fin
    · exact isi_lst I hs (kit_ty (by decide) hT) fin
    · exact PySem.W.kia_one PySem.W.kitx_dict I.kIn (I.hok y _ hs).1 (kit_ty (by decide) hT) (fun z => nomatch z) fin
    · exact tb rfl (.dK hs) rfl (by decide)
  | byt y => exact (show False from ty).elim
  | flt y => exact (show False from ty).elim
  | ty y => exact (show False from ty).elim
theorem tyD_rel {K : PySem.W.Frag} {ρ : List Addr} {h h1 : AH} {H : Hp} {x : D} {v : V} {t : String} (r : RH K ρ h H) (rx : RD K ρ H x v) (e : tyD x h = .ok t h1) : h1 = h ∧ TyV K H v t := by
  cases x with
  | non => cases e; simp only [RD] at rx; subst rx; exact ⟨rfl, rfl⟩
  | bl y => cases e; simp only [RD] at rx; subst rx; exact ⟨rfl, rfl⟩
  | int y => cases e; simp only [RD] at rx; subst rx; exact ⟨rfl, rfl⟩
  | str y => cases e; simp only [RD] at rx; subst rx; exact ⟨rfl, rfl⟩
  | tup y => cases e; simp only [RD] at rx; obtain ⟨q, xs, rfl, h2, _⟩ := rx; exact ⟨rfl, .inl ⟨rfl, xs, h2⟩⟩
  | fl y => cases e; simp only [RD] at rx; obtain ⟨q, xs, rfl, h2, _⟩ := rx; exact ⟨rfl, .inr (.inl ⟨rfl, xs, h2.sq⟩)⟩
  | ref n =>
    simp only [RD] at rx; obtain ⟨q, rfl, h2⟩ := rx
    unfold tyD at e
    dsimp only at e
    cases q1 : h[n]? with
    | none => rw [q1] at e; cases e
    | some ob =>
      rw [q1] at e
      cases ob with
      | set ks => cases e
      | dK kvs =>
        cases e
        obtain ⟨a1, n1, vs, o1, d1⟩ := r.at q1
        rw [h2] at n1; cases n1
        exact ⟨rfl, .inr (.inr ⟨rfl, .inr ⟨_, o1⟩⟩)⟩
      | dF kvs => cases e
      | exc c => cases e
      | lst ds =>
        cases e
        obtain ⟨a1, n1, vs, o1, d1⟩ := r.at q1
        rw [h2] at n1; cases n1
        exact ⟨rfl, .inr (.inl ⟨rfl, vs, SqL.of o1⟩)⟩
      | dct =>
        cases e
        obtain ⟨a1, n1, o1⟩ := r.at q1
        rw [h2] at n1; cases n1
        exact ⟨rfl, .inr (.inr ⟨rfl, .inl o1⟩)⟩
theorem tyD_no {x : D} {h h1 : AH} {z : Exn} (e : tyD x h = .err z h1) : False := by
  cases x with
  | ref n =>
    unfold tyD at e
    dsimp only at e
    split at e <;> cases e
  | _ => cases e
def eIsi (T : String) (ma : G → M D) : G → M D := fun γ => do
  let x ← ma γ
  fIsi T x
theorem se_isi {T : Str} {T' : String} (hg : Gl X "isinstance") (hm : X.mg "isinstance" = none) (hgT : Gl X T) (hmT : X.mg T = none) (hv : bootBuiltins T = some (.type T')) (hT : T' ∈ tyAsked) (ha : SE X EX a ma) (hn : T ≠ "__name__" := by decide) (hd : (T == ("__debug__" : Str)) = false := by decide)
    (he : starEach [a, .Name T p2] X.env = [(false, eval a X.env), (false, eval (.Name T p2) X.env)] := by rfl) (he2 : starEach [.Name T p2] X.env = [(false, eval (.Name T p2) X.env)] := by rfl) : SE X EX (.Call (.Name "isinstance" p) [a, .Name T p2] [] pos) (eIsi T' ma) := by
  constructor
  have hA : PA X [a, .Name T p2] (tCons (tE X.K EX ma) (tCons (tC (.ty T')) tNil)) := pa_cons ha.h (pa_cons (pe_bltn hgT hmT hv rfl hn hd) pa_nil he2) (by rw [he, he2])
  refine PE.imp (pe_callB (call_isi hT) hg hm (by decide +kernel) hA (by decide) (by decide) (by rw [he, he2]) (by rw [he2]; rfl)) fun σ H Q ⟨ρ, γ, h, rel, fin⟩ => ⟨ρ, γ, h, rel, (Fin.bind fin).mono fun x ρ1 h1 H1 p1 e1 r1 f1 v rv => ?_⟩
  have f2 := Fin.bind f1
  cases e : tyD x h1 with
  | bad => rw [e] at f2; exact f2.elim
  | err z hz => exact (tyD_no e).elim
  | ok t h2 =>
    obtain ⟨rfl, ty⟩ := tyD_rel r1 rv e
    rw [e] at f2
    have f3 := f2 ρ1 H1 (Pre.refl _) (Ext.refl _ _) r1
    exact ⟨v, t, rfl, ty, FE.here f3 r1 (by simp [RD])⟩
def blsD : List D → Option (List Bool)
  | [] => some []
  | .bl b :: r => (blsD r).map (b :: ·)
  | _ :: _ => none
def fAll (any : Bool) : List D → M D
  | [.ref n] => do
    let xs ← getL n
    match blsD xs with
    | some bs => pure (.bl (if any then bs.any id else bs.all id))
    | none => bad
  | _ => bad
theorem bls_rel {K : PySem.W.Frag} {ρ : List Addr} {H : Hp} : ∀ {xs : List D} {bs : List Bool} {vs : List V}, blsD xs = some bs → RDs K ρ H xs vs → vs = bs.map V.bl
  | [], bs, vs, e, r => by simp only [RDs] at r; cases e; subst r; rfl
  | x :: xs, bs, vs, e, r => by
    simp only [RDs] at r
    obtain ⟨v, r2, rfl, h1, h2⟩ := r
    cases x <;> first | (simp only [blsD] at e; cases e; done) | skip
    rename_i b
    simp only [blsD] at e
    obtain ⟨bs', e1, rfl⟩ := Option.map_eq_some_iff.mp e
    simp only [RD] at h1
    subst h1
    rw [bls_rel e1 h2]; rfl
theorem vals_bls : ∀ {bs : List Bool} {us : List Value}, Vals (bs.map V.bl) us → us = bs.map Value.bool
  | [], us, h => by cases h; rfl
  | b :: bs, us, h => by
    cases h with
    | cons h1 h2 => cases h1; rw [vals_bls h2]; rfl
theorem range_all {bs : List Bool} : ((List.range bs.length).all fun i => bs.getD i false) = bs.all id := by
  rw [Bool.eq_iff_iff, List.all_eq_true, List.all_eq_true]
  constructor
  · intro h x hx
    obtain ⟨i, hi, rfl⟩ := List.getElem_of_mem hx
    have := h i (List.mem_range.mpr hi)
    simpa [List.getD, hi] using this
  · intro h i hi
    have hi' := List.mem_range.mp hi
    have := h bs[i] (List.getElem_mem hi')
    simpa [List.getD, hi'] using this
theorem range_any {bs : List Bool} : ((List.range bs.length).any fun i => bs.getD i false) = bs.any id := by
  rw [Bool.eq_iff_iff, List.any_eq_true, List.any_eq_true]
  constructor
  · rintro ⟨i, hi, h⟩
    have hi' := List.mem_range.mp hi
    refine ⟨bs[i], List.getElem_mem hi', ?_⟩
    simpa [List.getD, hi'] using h
  · rintro ⟨x, hx, h⟩
    obtain ⟨i, hi, rfl⟩ := List.getElem_of_mem hx
    exact ⟨i, List.mem_range.mpr hi, by simpa [List.getD, hi] using h⟩
theorem call_allany (any : Bool) (hc : X.calm = true) : CallR X (.builtin (if any then "any" else "all")) (fun xs H Q => ∃ (q : Addr) (bs : List Bool), xs = [.ref q] ∧ SqL X.K H q (bs.map V.bl) ∧ Q (.bl (if any then bs.any id else bs.all id)) H) := by
  intro pins s σ H xs us Q I r h
  obtain ⟨q, bs, rfl, hq, hQ⟩ := h
  obtain ⟨u, rfl, ru⟩ := vals1 r
  cases ru
  obtain ⟨its, rv, pl, hz⟩ := I.list hq
  have ei := vals_bls rv
  have ne : q ≠ s.heap.objs.size := Nat.ne_of_lt (by obtain ⟨o, n, e, _⟩ := pl; exact Heap.lt_size e)
  have pl' := pl.isList
  have hwalk := Walks.list (prog := X.prog) (w := X.w) (A := X.A.in1) (show X.A.in1.handled = none from I.ok.hd hc) s.heap.objs.size q ne its.toArray
  have len : its.toArray.size = bs.length := by rw [ei]; simp
  have st0 : (s.heap.push { cls := .type "list_iterator", data := .fields #[.ref q, .int 0 0] }).IsListIter s.heap.objs.size q 0 ∧ (s.heap.push { cls := .type "list_iterator", data := .fields #[.ref q, .int 0 0] }).IsList q its.toArray :=
    ⟨⟨_, Heap.get?_push_size _ rfl, rfl, rfl⟩, pl'.at fun o e => Heap.get?_push_of_some _ e⟩
  have tr : TruthOf X.prog X.w X.A.in1 (fun i v => its.toArray[i]? = some v) fun i => bs.getD i false := fun i v s' Q' E' hv hq' => by
    have hv' : its[i]? = some v := by simpa using hv
    rw [ei, List.getElem?_map] at hv'
    cases eb : bs[i]? with
    | none => rw [eb] at hv'; cases hv'
    | some b =>
      rw [eb] at hv'
      cases hv'
      have : bs.getD i false = b := by simp [List.getD, eb]
      dsimp only at hq'; rw [this] at hq'
      exact wpAny_truthy_bool hq'
  have fin : ∀ k, k = (if any then bs.any id else bs.all id) → ∀ h' tk, (∀ b o, b ∉ [s.heap.objs.size] → (s.heap.push { cls := .type "list_iterator", data := .fields #[.ref q, .int 0 0] }).get? b = some o → h'.get? b = some o) →
      EP X pins σ Q (.bool k) { s with heap := h', toks := tk } := fun k ek h' tk hk => by
    subst ek
    refine ⟨.bl _, H, I.kept fun b o e => hk b o ?_ (Heap.get?_push_of_some _ e), rfl, hQ⟩
    intro z
    have : b = s.heap.objs.size := by simpa using z
    exact absurd (Heap.lt_size e) (by rw [this]; exact Nat.lt_irrefl _)
  cases any with
  | false =>
    refine call_all_walk (wpAny_pyIter_list pl' ⟨_, _, _, _, _, _, _, rfl, hwalk, st0, tr, fun h' tk hk => ?_⟩)
    exact fin _ (by rw [len]; exact range_all) h' tk hk
  | true =>
    refine call_any_walk (wpAny_pyIter_list pl' ⟨_, _, _, _, _, _, _, rfl, hwalk, st0, tr, fun h' tk hk => ?_⟩)
    exact fin _ (by rw [len]; exact range_any) h' tk hk
theorem ar_all {any : Bool} : AR X.K EX (fun xs H Q => ∃ (q : Addr) (bs : List Bool), xs = [.ref q] ∧ SqL X.K H q (bs.map V.bl) ∧ Q (.bl (if any then bs.any id else bs.all id)) H) (fAll any) := by
  intro ρ h H ds vs Q r rd fin
  unfold fAll at fin
  split at fin
  · rename_i n
    obtain ⟨v, rfl, rv⟩ := rds1 rd
    have f1 := Fin.bind fin
    cases e : getL n h with
    | bad => rw [e] at f1; exact f1.elim
    | err z hz => exact (getL_no e).elim
    | ok xs h1 =>
      obtain ⟨rfl, q1⟩ := getL_ok e
      rw [e] at f1
      have f2 := f1 ρ H (Pre.refl _) (Ext.refl _ _) r
      dsimp only at f2
      cases eb : blsD xs with
      | none => rw [eb] at f2; exact f2.elim
      | some bs =>
        rw [eb] at f2
        simp only [RD] at rv; obtain ⟨q, rfl, h2⟩ := rv
        obtain ⟨a1, n1, vs, o1, d1⟩ := r.at q1
        rw [h2] at n1; cases n1
        have ev := bls_rel eb d1
        subst ev
        exact ⟨q, bs, rfl, SqL.of o1, FE.here f2 r (by simp [RD])⟩
  · exact fin.elim
theorem se_all (hc : X.calm = true) (hg : Gl X "all") (hm : X.mg "all" = none) (ha : SA X EX [a] mr) (he : starEach [a] X.env = [(false, eval a X.env)] := by rfl) : SE X EX (.Call (.Name "all" p) [a] [] pos) (eCall (fAll false) mr) :=
  se_args (pe_callB (call_allany false hc) hg hm (by decide +kernel) ha.h (by decide) (by decide) he rfl) ar_all
end
end FT
namespace FT
open PySem PySem.Spec PyProof.Rows L2
abbrev EX0 : XX := fun _ _ _ _ => False
def spB (K : PySem.W.Frag) (mf : List D → M D) (n : Nat) : Sp := fun vs H Q _ => vs.length = n ∧ ∃ ρ ds h, RH K ρ h H ∧ RDs K ρ H ds vs ∧ FE K EX0 ρ H Q (mf ds h)
structure Fn (P : Program) (w : World) (K : PySem.W.Frag) (mg : Str → Option Value) (base : Heap) (k : Nat) (x : Str) (n : Nat) (mf : List D → M D) : Prop where
  ex : ∃ f fd ps, FnOk P w K mg base CX0 k f fd ps (spB K mf n) ∧ Binds K fd ps [] ∧ PySem.W.keepIn K (.ref f) = true ∧ mg x = some (.ref f)
theorem Fn.up {P : Program} {w : World} {K : PySem.W.Frag} {mg : Str → Option Value} {base : Heap} {j k : Nat} {x : Str} {n : Nat} {mf : List D → M D} (F : Fn P w K mg base j x n mf) (h : j ≤ k) : Fn P w K mg base k x n mf := by
  obtain ⟨f, fd, ps, h1, h2, h3, h4⟩ := F.ex
  exact ⟨f, fd, ps, h1.mono h, h2, h3, h4⟩
def eFn (n : Nat) (mf : List D → M D) (mr : G → M (List D)) : G → M D := fun γ => do
  let xs ← mr γ
  if xs.length = n then mf xs else bad
section
variable {X : Cx} {a b c e : Expr} {pos p p2 : Pos} {ma mb mc : G → M D} {es : List Expr} {mr : G → M (List D)} {k n : Nat} {x : Str} {mf : List D → M D}
theorem se_call (F : Fn X.prog X.w X.K X.mg X.base k x n mf) (hr : Room k X.A) (hg : Gl X x) (ha : SA X EX0 (a :: es) mr) (hdb : (x == ("__debug__" : Str)) = false := by decide)
    (he : starEach (a :: es) X.env = (false, eval a X.env) :: starEach es X.env := by rfl) (hpl : (backTo pos (starEach es X.env)).any (·.1) = false := by rfl) : SE X EX0 (.Call (.Name x p) (a :: es) [] pos) (eFn n mf mr) := by
  constructor
  obtain ⟨f, fd, ps, h1, h2, h3, h4⟩ := F.ex
  refine PE.imp (pe_call h1 hr hg h4 h3 h2 .nil pass0 ha.h hdb he hpl) fun σ H Q ⟨ρ, γ, h, rel, fin⟩ => ⟨ρ, γ, h, rel, (Fin.bind fin).mono fun xs ρ1 h1 H1 p1 e1 r1 f1 vs rvs => ?_⟩
  show spB X.K mf n (vs ++ []) H1 Q E0
  rw [List.append_nil]
  by_cases hl : xs.length = n
  · rw [if_pos hl] at f1
    exact ⟨by rw [← rvs.length]; exact hl, ρ1, xs, h1, r1, rvs, f1⟩
  · rw [if_neg hl] at f1; exact (show False from f1).elim
end
def startG (n : Nat) (ds : List D) : G := ds.map some ++ List.replicate (n - ds.length) none
def runF (n : Nat) (mb : G → M Out) (ds : List D) : M D := do
  let o ← mb (startG n ds)
  match o with
  | .nx _ => pure .non
  | .rt d => pure d
  | _ => bad
section
variable {P : Program} {w : World} {K : PySem.W.Frag} {mg : Str → Option Value} {base : Heap}
theorem start_rel {ρ : List Addr} {H : Hp} {N : List Str} {ds : List D} {vs : List V} (h : RDs K ρ H ds vs) : RG K ρ H (startG N.length ds) (L2.start N vs) := by
  have hl := h.length
  refine ⟨by unfold startG L2.start; simp [hl], fun i d e => ?_⟩
  unfold startG at e
  unfold L2.start
  rw [List.getElem?_append] at e ⊢
  rw [List.length_map] at e ⊢
  rw [← hl]
  split at e
  · rename_i hi
    rw [if_pos hi]
    rw [List.getElem?_map] at e ⊢
    cases q : ds[i]? with
    | none => rw [q] at e; cases e
    | some d' =>
      rw [q] at e
      cases e
      obtain ⟨v, h1, h2⟩ := h.get q
      exact ⟨v, by rw [h1]; rfl, h2⟩
  · rw [List.getElem?_replicate] at e
    split at e <;> cases e
end
section
variable {env : Env} {t : Option Expr} {l : Nat} {tg : List Expr}
theorem sw_List {a p} : swapsWith (.List a p) t l env = pure false := rfl
theorem sw_Tuple {a b p} : swapsWith (.Tuple a b p) t l env = pure false := rfl
theorem sw_Constant {c k p} : swapsWith (.Constant c k p) t l env = pure false := rfl
theorem sw_Name {c p} : swapsWith (.Name c p) t l env = pure false := rfl
theorem sw_Call {a b c p} : swapsWith (.Call a b c p) t l env = pure false := rfl
theorem sw_BinOp {a b c p} : swapsWith (.BinOp a b c p) t l env = pure false := rfl
theorem sw_Compare {a b c p} : swapsWith (.Compare a b c p) t l env = pure false := rfl
theorem sw_Subscript {a b p} : swapsWith (.Subscript a b p) t l env = pure false := rfl
theorem sw_UnaryOp {a b p} : swapsWith (.UnaryOp a b p) t l env = pure false := rfl
theorem sw_BoolOp {a b p} : swapsWith (.BoolOp a b p) t l env = pure false := rfl
theorem sw_IfExp {a b c p} : swapsWith (.IfExp a b c p) t l env = pure false := rfl
end
section
variable {X : Cx} {EX : XX} {a b c e : Expr} {pos p p2 : Pos} {ma mb mc : G → M D} {ka kb kc : G → M Bool} {st : Stmt} {sts : List Stmt} {ms mt : G → M Out}
def bNil : G → M Out := fun γ => pure (.nx γ)
def bCons (ms mt : G → M Out) : G → M Out := fun γ => do
  let o ← ms γ
  match o with
  | .nx γ' => mt γ'
  | o => pure o
theorem sb_nil : SB X EX [] bNil := ⟨PSs.imp pss_nil fun σ H D ⟨ρ, γ, h, rel, fin⟩ => fin ρ H (Pre.refl _) (Ext.refl _ _) rel.h σ rel.g⟩
theorem sb_cons (h1 : S1 X EX st ms) (h2 : SB X EX sts mt) : SB X EX (st :: sts) (bCons ms mt) :=
  ⟨PSs.imp (pss_cons h1.h h2.h) fun σ H D ⟨ρ, γ, h, rel, fin⟩ => ⟨ρ, γ, h, rel, (Fin.bind fin).mono fun o ρ1 h1 H1 p1 e1 r1 f1 => by
    cases o with
    | nx γ' => exact fun σ' rg => ⟨ρ1, γ', h1, ⟨rg, r1⟩, f1⟩
    | rt d => exact f1 ρ1 H1 (Pre.refl _) (Ext.refl _ _) r1
    | bk γ' => exact f1 ρ1 H1 (Pre.refl _) (Ext.refl _ _) r1
    | ct γ' => exact f1 ρ1 H1 (Pre.refl _) (Ext.refl _ _) r1⟩⟩
def sRet (ma : G → M D) : G → M Out := fun γ => do
  let d ← ma γ
  pure (.rt d)
theorem s_ret (ha : SE X EX a ma) : S1 X EX (.Return (some a) pos) (sRet ma) :=
  ⟨PS.imp (ps_ret ha.h) fun σ H D ⟨ρ, γ, h, rel, fin⟩ => ⟨ρ, γ, h, rel, (Fin.bind fin).mono fun d ρ1 h1 H1 p1 e1 r1 f1 v rv => f1 ρ1 H1 (Pre.refl _) (Ext.refl _ _) r1 v rv⟩⟩
def sExpr (ma : G → M D) : G → M Out := fun γ => do
  let _ ← ma γ
  pure (.nx γ)
theorem s_expr (ha : SE X EX a ma) (hs : swapsWith a none pos.line X.env = pure false := by first | exact sw_List | exact sw_Tuple | exact sw_Constant | exact sw_Name | exact sw_Call | exact sw_BinOp | exact sw_Compare | exact sw_Subscript | exact sw_UnaryOp | exact sw_BoolOp | exact sw_IfExp | rfl) : S1 X EX (.Expr a pos) (sExpr ma) :=
  ⟨PS.imp (ps_expr ha.h hs) fun σ H D ⟨ρ, γ, h, rel, fin⟩ => ⟨ρ, γ, h, rel, (Fin.bind fin).mono fun d ρ1 h1 H1 p1 e1 r1 f1 v rv => f1 ρ1 H1 (Pre.refl _) (Ext.refl _ _) r1 σ (rel.g.mono p1 e1)⟩⟩
def sIf (k : G → M Bool) (ms mt : G → M Out) : G → M Out := fun γ => do
  let t ← k γ
  if t then ms γ else mt γ
theorem s_if {sts' : List Stmt} (hc : SC X EX c kc) (h1 : SB X EX sts ms) (h2 : SB X EX sts' mt) : S1 X EX (.If c sts sts' pos) (sIf kc ms mt) :=
  ⟨PS.imp (ps_if hc.h h1.h h2.h) fun σ H D ⟨ρ, γ, h, rel, fin⟩ => ⟨ρ, γ, h, rel, (Fin.bind fin).mono fun t ρ1 h1 H1 p1 e1 r1 f1 => by
    cases t with
    | true => exact ⟨ρ1, γ, h1, ⟨rel.g.mono p1 e1, r1⟩, f1⟩
    | false => exact ⟨ρ1, γ, h1, ⟨rel.g.mono p1 e1, r1⟩, f1⟩⟩⟩
def tG (K : PySem.W.Frag) (EX : XX) (m : D → G → M G) : TG := fun v σ H Q => ∃ ρ γ h d, Rel K ρ γ h σ H ∧ RD K ρ H d v ∧ Fin K EX ρ H (fun γ' ρ' _ H' => ∀ σ', RG K ρ' H' γ' σ' → Q σ' H') (m d γ h)
def tGs (K : PySem.W.Frag) (EX : XX) (m : List D → G → M G) : TGs := fun vs σ H Q => ∃ ρ γ h ds, Rel K ρ γ h σ H ∧ RDs K ρ H ds vs ∧ Fin K EX ρ H (fun γ' ρ' _ H' => ∀ σ', RG K ρ' H' γ' σ' → Q σ' H') (m ds γ h)
structure SG (X : Cx) (EX : XX) (tg : Expr) (m : D → G → M G) : Prop where
  h : PG X tg (tG X.K EX m)
structure SGs (X : Cx) (EX : XX) (tg : List Expr) (m : List D → G → M G) : Prop where
  h : PGs X tg (tGs X.K EX m)
theorem PG.imp {X : Cx} {e : Expr} {t t' : TG} (h : PG X e t) (f : ∀ v σ H Q, t' v σ H Q → t v σ H Q) : PG X e t' := fun pins s σ H v u Q I r z => h pins s σ H v u Q I r (f v σ H Q z)
theorem PGs.imp {X : Cx} {e : List Expr} {t t' : TGs} (h : PGs X e t) (f : ∀ v σ H Q, t' v σ H Q → t v σ H Q) : PGs X e t' := fun pins s σ H v u Q I r z => h pins s σ H v u Q I r (f v σ H Q z)
def tGk (K : PySem.W.Frag) (EX : XX) (own : List Nat) (m : D → G → M G) : TG := fun v σ H Q => ∃ ρ γ h d, Rel K ρ γ h σ H ∧ RD K ρ H d v ∧ Fin K EX ρ H (fun γ' ρ' _ H' => ∀ σ', RG K ρ' H' γ' σ' → (∀ j : Nat, j ∉ own → σ'[j]? = σ[j]?) → Q σ' H') (m d γ h)
def tGks (K : PySem.W.Frag) (EX : XX) (own : List Nat) (m : List D → G → M G) : TGs := fun vs σ H Q => ∃ ρ γ h ds, Rel K ρ γ h σ H ∧ RDs K ρ H ds vs ∧ Fin K EX ρ H (fun γ' ρ' _ H' => ∀ σ', RG K ρ' H' γ' σ' → (∀ j : Nat, j ∉ own → σ'[j]? = σ[j]?) → Q σ' H') (m ds γ h)
structure SGk (X : Cx) (EX : XX) (tg : Expr) (own : List Nat) (m : D → G → M G) : Prop where
  h : PG X tg (tGk X.K EX own m)
structure SGks (X : Cx) (EX : XX) (tg : List Expr) (own : List Nat) (m : List D → G → M G) : Prop where
  h : PGs X tg (tGks X.K EX own m)
def gN (i : Nat) : D → G → M G := fun d γ => pure (γ.set i (some d))
theorem sg_name (i : Nat) {x : Str} (hN : X.N.Nodup) (hi : X.N[i]? = some x := by rfl) (hx : Loc X.env.scope x := by first | exact Or.inl rfl | exact Or.inr rfl) (hf : X.fn x = true ∨ X.env.scope.names.lookup x = some .local := by first | exact .inl rfl | exact .inr rfl | assumption) : SG X EX (.Name x pos) (gN i) :=
  ⟨PG.imp (pg_name hN hi hx hf) fun v σ H Q ⟨ρ, γ, h, d, rel, rd, fin⟩ => fin ρ H (Pre.refl _) (Ext.refl _ _) rel.h _ (rel.g.set i rd)⟩
theorem sgk_name (i : Nat) {x : Str} (hN : X.N.Nodup) (hi : X.N[i]? = some x := by rfl) (hx : Loc X.env.scope x := by first | exact Or.inl rfl | exact Or.inr rfl) (hf : X.fn x = true ∨ X.env.scope.names.lookup x = some .local := by first | exact .inl rfl | exact .inr rfl | assumption) : SGk X EX (.Name x pos) [i] (gN i) :=
  ⟨PG.imp (pg_name hN hi hx hf) fun v σ H Q ⟨ρ, γ, h, d, rel, rd, fin⟩ => fin ρ H (Pre.refl _) (Ext.refl _ _) rel.h _ (rel.g.set i rd) fun j hj => List.getElem?_set_ne (fun z => hj (by simp [z]))⟩
def gNils : List D → G → M G := fun ds γ => match ds with
  | [] => pure γ
  | _ => bad
def gConss (m : D → G → M G) (ms : List D → G → M G) : List D → G → M G := fun ds γ => match ds with
  | [] => bad
  | d :: r => do
    let γ1 ← m d γ
    ms r γ1
theorem sgs_nil : SGs X EX [] gNils := ⟨PGs.imp pgs_nil fun v σ H Q ⟨ρ, γ, h, ds, rel, rd, fin⟩ => by
  cases ds with
  | nil => simp only [RDs] at rd; exact ⟨rd, fin ρ H (Pre.refl _) (Ext.refl _ _) rel.h σ rel.g⟩
  | cons d r => exact (show False from fin).elim⟩
theorem sgs_cons {es : List Expr} {m : D → G → M G} {mr : List D → G → M G} (h1 : SG X EX e m) (h2 : SGs X EX es mr) (hs : (assignEach (e :: es) X.env).map (·.2) = assign e X.env :: (assignEach es X.env).map (·.2) := by rfl) : SGs X EX (e :: es) (gConss m mr) :=
  ⟨PGs.imp (pgs_cons h1.h h2.h hs) fun vs σ H Q ⟨ρ, γ, h, ds, rel, rd, fin⟩ => by
    cases ds with
    | nil => exact (show False from fin).elim
    | cons d r =>
      simp only [RDs] at rd
      obtain ⟨v, vr, rfl, h3, h4⟩ := rd
      have fin' : Fin X.K EX ρ H (fun γ' ρ' _ H' => ∀ σ', RG X.K ρ' H' γ' σ' → Q σ' H') ((m d γ >>= fun γ1 => mr r γ1) h) := fin
      exact ⟨v, vr, rfl, ρ, γ, h, d, rel, h3, (Fin.bind fin').mono fun γ1 ρ1 h1 H1 p1 e1 r1 f1 σ1 g1 => ⟨ρ1, γ1, h1, r, ⟨g1, r1⟩, h4.mono p1 e1, f1⟩⟩⟩
theorem sgks_nil : SGks X EX [] [] gNils := ⟨PGs.imp pgs_nil fun v σ H Q ⟨ρ, γ, h, ds, rel, rd, fin⟩ => by
  cases ds with
  | nil => simp only [RDs] at rd; exact ⟨rd, fin ρ H (Pre.refl _) (Ext.refl _ _) rel.h σ rel.g fun _ _ => rfl⟩
  | cons d r => exact (show False from fin).elim⟩
theorem sgks_cons {es : List Expr} {o1 o2 : List Nat} {m : D → G → M G} {mr : List D → G → M G} (h1 : SGk X EX e o1 m) (h2 : SGks X EX es o2 mr) (hs : (assignEach (e :: es) X.env).map (·.2) = assign e X.env :: (assignEach es X.env).map (·.2) := by rfl) : SGks X EX (e :: es) (o1 ++ o2) (gConss m mr) :=
  ⟨PGs.imp (pgs_cons h1.h h2.h hs) fun vs σ H Q ⟨ρ, γ, h, ds, rel, rd, fin⟩ => by
    cases ds with
    | nil => exact (show False from fin).elim
    | cons d r =>
      simp only [RDs] at rd
      obtain ⟨v, vr, rfl, h3, h4⟩ := rd
      have fin' : Fin X.K EX ρ H (fun γ' ρ' _ H' => ∀ σ', RG X.K ρ' H' γ' σ' → (∀ j : Nat, j ∉ o1 ++ o2 → σ'[j]? = σ[j]?) → Q σ' H') ((m d γ >>= fun γ1 => mr r γ1) h) := fin
      refine ⟨v, vr, rfl, ρ, γ, h, d, rel, h3, (Fin.bind fin').mono fun γ1 ρ1 h1 H1 p1 e1 r1 f1 σ1 g1 k1 => ⟨ρ1, γ1, h1, r, ⟨g1, r1⟩, h4.mono p1 e1, f1.mono fun γ2 ρ2 h2 H2 p2 e2 r2 f2 σ2 g2 k2 => f2 σ2 g2 fun j hj => ?_⟩⟩
      rw [List.mem_append, not_or] at hj
      rw [k2 j hj.2, k1 j hj.1]⟩
def gT (n : Nat) (m : List D → G → M G) : D → G → M G := fun d γ => match d with
  | .tup xs => if xs.length = n then m xs γ else bad
  | _ => bad
theorem sg_tup {es : List Expr} {k n : Nat} {m : List D → G → M G} (hc : X.calm = true) (h : SGs X EX es m) (hn : (assignEach es X.env).length = n := by rfl) (hst : (assignEach es X.env).findIdx? (·.1) = none := by rfl) : SG X EX (.Tuple es k pos) (gT n m) :=
  ⟨PG.imp (pg_tup hc h.h hn hst) fun v σ H Q ⟨ρ, γ, h, d, rel, rd, fin⟩ => by
    cases d <;> first | exact (show False from fin).elim | skip
    rename_i xs
    simp only [RD] at rd
    obtain ⟨q, vs, rfl, h1, h2⟩ := rd
    have fin' : Fin X.K EX ρ H (fun γ' ρ' _ H' => ∀ σ', RG X.K ρ' H' γ' σ' → Q σ' H') ((if xs.length = n then m xs γ else bad) h) := fin
    by_cases hl : xs.length = n
    · rw [if_pos hl] at fin'
      exact ⟨q, vs, rfl, h1, by rw [← h2.length]; exact hl, ρ, γ, h, xs, rel, h2, fin'⟩
    · rw [if_neg hl] at fin'; exact (show False from fin').elim⟩
theorem sgk_tup {es : List Expr} {k n : Nat} {own : List Nat} {m : List D → G → M G} (hc : X.calm = true) (h : SGks X EX es own m) (hn : (assignEach es X.env).length = n := by rfl) (hst : (assignEach es X.env).findIdx? (·.1) = none := by rfl) : SGk X EX (.Tuple es k pos) own (gT n m) :=
  ⟨PG.imp (pg_tup hc h.h hn hst) fun v σ H Q ⟨ρ, γ, h, d, rel, rd, fin⟩ => by
    cases d <;> first | exact (show False from fin).elim | skip
    rename_i xs
    simp only [RD] at rd
    obtain ⟨q, vs, rfl, h1, h2⟩ := rd
    have fin' : Fin X.K EX ρ H (fun γ' ρ' _ H' => ∀ σ', RG X.K ρ' H' γ' σ' → (∀ j : Nat, j ∉ own → σ'[j]? = σ[j]?) → Q σ' H') ((if xs.length = n then m xs γ else bad) h) := fin
    by_cases hl : xs.length = n
    · rw [if_pos hl] at fin'
      exact ⟨q, vs, rfl, h1, by rw [← h2.length]; exact hl, ρ, γ, h, xs, rel, h2, fin'⟩
    · rw [if_neg hl] at fin'; exact (show False from fin').elim⟩
def fSet : D → D → D → M Unit := fun o i v => match o, i with
  | .ref n, .int k => fun h => match h[n]? with
    | some (.lst xs) => (match ixN xs.length k with
      | some j => .ok () (h.set n (.lst (xs.set j v)))
      | none => .bad)
    | _ => .bad
  | _, _ => bad
def gIx (mo mi : G → M D) : D → G → M G := fun v γ => do
  let o ← mo γ
  let i ← mi γ
  let _ ← fSet o i v
  pure γ
theorem sg_ix {o i : Expr} {mo mi : G → M D} (ho : SE X EX o mo) (hi : SE X EX i mi)
    (ha : ∀ v, assign (.Subscript o i pos) X.env v = (do
      let ov ← holding [v] (eval o X.env)
      let iv ← holding [v, ov] (eval i X.env)
      standAt pos
      holding [v, ov, iv] (setItem ov iv v)
      release [v, ov, iv] []) := by intro _; rfl) : SG X EX (.Subscript o i pos) (gIx mo mi) :=
  ⟨PG.imp (pg_sub ho.h hi.h set_list ha) fun v σ H Q ⟨ρ, γ, h, d, rel, rd, fin⟩ => ⟨ρ, γ, h, rel, (Fin.bind fin).mono fun od ρ1 h1 H1 p1 e1 r1 f1 ov ro => ⟨ρ1, γ, h1, ⟨rel.g.mono p1 e1, r1⟩, (Fin.bind f1).mono fun id ρ2 h2 H2 p2 e2 r2 f2 iv ri => by
    have f3 := Fin.bind f2
    cases od <;> first | exact (show False from f3).elim | skip
    rename_i n
    cases id <;> first | exact (show False from f3).elim | skip
    rename_i k
    simp only [RD] at ro ri
    obtain ⟨q, rfl, hq⟩ := ro
    subst ri
    have hq2 := p2 n q hq
    unfold fSet at f3
    dsimp only at f3
    cases e4 : h2[n]? with
    | none => rw [e4] at f3; exact (show False from f3).elim
    | some ob =>
      cases ob with
      | set ks => rw [e4] at f3; exact (show False from f3).elim
      | dct => rw [e4] at f3; exact (show False from f3).elim
      | dK kvs => rw [e4] at f3; exact (show False from f3).elim
      | dF kvs => rw [e4] at f3; exact (show False from f3).elim
      | exc c => rw [e4] at f3; exact (show False from f3).elim
      | lst xs =>
        rw [e4] at f3
        dsimp only at f3
        cases e5 : ixN xs.length k with
        | none => rw [e5] at f3; exact (show False from f3).elim
        | some j =>
          rw [e5] at f3
          obtain ⟨a1, n1, vs, o1, d1⟩ := r2.at e4
          rw [hq2] at n1; cases n1
          have rd2 := (rd.mono p1 e1).mono p2 e2
          have dd := d1.set j rd2
          refine ⟨q, vs, k, j, rfl, rfl, o1, by rw [← d1.length]; exact e5, ?_⟩
          have ext : Ext X.K H2 (upd H2 q (.lst (vs.set j v))) := Ext.upd (.inr ⟨_, o1, trivial⟩)
          have f4 := f3 ρ2 _ (Pre.refl _) ext (r2.set e4 hq2 dd)
          exact f4 ρ2 _ (Pre.refl _) (Ext.refl _ _) (r2.set e4 hq2 dd) σ (((rel.g.mono p1 e1).mono p2 e2).mono (Pre.refl _) ext)⟩⟩⟩
def sAsg (ma : G → M D) (g : D → G → M G) : G → M Out := fun γ => do
  let d ← ma γ
  let γ1 ← g d γ
  pure (.nx γ1)
theorem s_asg {tg : Expr} {g : D → G → M G} (ha : SE X EX a ma) (hg : SG X EX tg g) (hs : swapsWithSole [tg] a pos.line X.env = pure false := by rfl) (hw : swappedStores [tg] a X.env = pure none := by rfl)
    (h1 : (assignEach [tg] X.env).map (·.2) = [assign tg X.env] := by rfl) : S1 X EX (.Assign [tg] a pos) (sAsg ma g) :=
  ⟨PS.imp (ps_asg ha.h hg.h hs hw h1) fun σ H D ⟨ρ, γ, h, rel, fin⟩ => ⟨ρ, γ, h, rel, (Fin.bind fin).mono fun d ρ1 h1 H1 p1 e1 r1 f1 v rv => ⟨ρ1, γ, h1, d, ⟨rel.g.mono p1 e1, r1⟩, rv, (Fin.bind f1).mono fun γ1 ρ2 h2 H2 p2 e2 r2 f2 σ2 g2 =>
    f2 ρ2 H2 (Pre.refl _) (Ext.refl _ _) r2 σ2 g2⟩⟩⟩
theorem s_set (i : Nat) {x : Str} (hN : X.N.Nodup) (ha : SE X EX a ma) (hi : X.N[i]? = some x := by rfl) (hx : Loc X.env.scope x := by first | exact Or.inl rfl | exact Or.inr rfl) (hs : swapsWith a (some (.Name x p)) pos.line X.env = pure false := by first | exact sw_List | exact sw_Tuple | exact sw_Constant | exact sw_Name | exact sw_Call | exact sw_BinOp | exact sw_Compare | exact sw_Subscript | exact sw_UnaryOp | exact sw_BoolOp | exact sw_IfExp | rfl)
    (hf : X.fn x = true ∨ X.env.scope.names.lookup x = some .local := by first | exact .inl rfl | exact .inr rfl | assumption) : S1 X EX (.Assign [.Name x p] a pos) (sAsg ma (gN i)) :=
  ⟨PS.imp (ps_set hN hi hx ha.h hs hf) fun σ H D ⟨ρ, γ, h, rel, fin⟩ => ⟨ρ, γ, h, rel, (Fin.bind fin).mono fun d ρ1 h1 H1 p1 e1 r1 f1 v rv => f1 ρ1 H1 (Pre.refl _) (Ext.refl _ _) r1 _ ((rel.g.mono p1 e1).set i rv)⟩⟩
end
end FT
namespace FT
open PySem PySem.Spec PyProof.Rows L2
section
variable {X : Cx} {EX : XX} {a o e : Expr} {pos cpos apos : Pos} {ma mo : G → M D}
def updL (n : Nat) (f : List D → Option (D × List D)) : M D := fun h => match h[n]? with
  | some (.lst xs) => (match f xs with
    | some (d, ys) => if ys.length ≤ sizeLine then .ok d (h.set n (.lst ys)) else .bad
    | none => .bad)
  | _ => .bad
def asRef : D → M Nat
  | .ref n => fun h => match h[n]? with
    | some (.lst _) => .ok n h
    | _ => .bad
  | _ => bad
def fAppend (n : Nat) (v : D) : M D := updL n fun xs => some (.non, xs ++ [v])
def fPopAt (n : Nat) (i : D) : M D := match i with
  | .int k => updL n fun xs => if -(2 ^ 63) ≤ k ∧ k < 2 ^ 63 then (match seqIndex? k xs.length with
    | some j => (xs[j]?).map fun d => (d, xs.eraseIdx j)
    | none => none) else none
  | _ => bad
def eM1 (f : Nat → D → M D) (mo ma : G → M D) : G → M D := fun γ => do
  let o ← mo γ
  let n ← asRef o
  let v ← ma γ
  f n v
def eM0 (f : Nat → M D) (mo : G → M D) : G → M D := fun γ => do
  let o ← mo γ
  let n ← asRef o
  f n
theorem updL_rel {K : PySem.W.Frag} {ρ : List Addr} {h : AH} {H : Hp} {Q : VK} {n : Nat} {q : Addr} {f : List D → Option (D × List D)} (r : RH K ρ h H) (hq : ρ[n]? = some q) (fin : FE K EX ρ H Q (updL n f h)) :
    ∃ xs d ys vs, f xs = some (d, ys) ∧ ys.length ≤ sizeLine ∧ H q = some (.lst vs) ∧ RDs K ρ H xs vs ∧ ∀ v ws, RD K ρ H d v → RDs K ρ H ys ws → Q v (upd H q (.lst ws)) := by
  unfold updL at fin
  cases e : h[n]? with
  | none => rw [e] at fin; exact fin.elim
  | some ob =>
    cases ob with
    | set ks => rw [e] at fin; exact fin.elim
    | dct => rw [e] at fin; exact fin.elim
    | dK kvs => rw [e] at fin; exact fin.elim
    | dF kvs => rw [e] at fin; exact fin.elim
    | exc c => rw [e] at fin; exact fin.elim
    | lst xs =>
      rw [e] at fin
      dsimp only at fin
      cases e2 : f xs with
      | none => rw [e2] at fin; exact fin.elim
      | some dy =>
        obtain ⟨d, ys⟩ := dy
        rw [e2] at fin
        dsimp only at fin
        split at fin
        · rename_i hl
          obtain ⟨a1, n1, vs, o1, d1⟩ := r.at e
          rw [hq] at n1; cases n1
          refine ⟨xs, d, ys, vs, e2, hl, o1, d1, fun v ws rv rw' => ?_⟩
          have ext : Ext K H (upd H q (.lst ws)) := Ext.upd (.inr ⟨_, o1, trivial⟩)
          exact fin ρ _ (Pre.refl _) ext (r.set e hq rw') v (rv.mono (Pre.refl _) ext)
        · exact fin.elim
theorem list_ty {K : PySem.W.Frag} {ρ : List Addr} {h : AH} {H : Hp} {n : Nat} {q : Addr} {Z : Nat → List Addr → AH → Hp → Prop} (r : RH K ρ h H) (hq : ρ[n]? = some q) (f : Fin K EX ρ H Z (asRef (.ref n) h)) : tyV K "list" (.ref q) H ∧ Z n ρ h H := by
  unfold asRef at f
  dsimp only at f
  cases e : h[n]? with
  | none => rw [e] at f; exact f.elim
  | some ob =>
    cases ob with
    | set ks => rw [e] at f; exact f.elim
    | dct => rw [e] at f; exact f.elim
    | dK kvs => rw [e] at f; exact f.elim
    | dF kvs => rw [e] at f; exact f.elim
    | exc c => rw [e] at f; exact f.elim
    | lst xs =>
      rw [e] at f
      obtain ⟨a1, n1, vs, o1, d1⟩ := r.at e
      rw [hq] at n1; cases n1
      exact ⟨.inl ⟨rfl, vs, SqL.of o1⟩, f ρ H (Pre.refl _) (Ext.refl _ _) r⟩
theorem meth1 {f : Nat → D → M D} {r : V → List V → Hp → VK → Prop} (hr : ∀ ρ h H n q y u Q, RH X.K ρ h H → ρ[n]? = some q → RD X.K ρ H y u → FE X.K EX ρ H Q (f n y h) → r (.ref q) [u] H Q) :
    ∀ σ H Q, tE X.K EX (eM1 f mo ma) σ H Q → tBM X.K "list" r (tE X.K EX mo) (tCons (tE X.K EX ma) tNil) σ H Q := fun σ H Q ⟨ρ, γ, h, rel, fin⟩ => ⟨ρ, γ, h, rel, (Fin.bind fin).mono fun x ρ1 h1 H1 p1 e1 r1 f1 v rv => by
    have f2 := Fin.bind f1
    cases x <;> first | exact (show False from f2).elim | skip
    rename_i n
    simp only [RD] at rv
    obtain ⟨q, rfl, hq⟩ := rv
    obtain ⟨lt, f3⟩ := list_ty r1 hq f2
    exact ⟨lt, ρ1, γ, h1, ⟨rel.g.mono p1 e1, r1⟩, (Fin.bind f3).mono fun y ρ2 h2 H2 p2 e2 r2 f4 u ru => hr ρ2 h2 H2 n q y u Q r2 (p2 n q hq) ru f4⟩⟩
theorem se_append (ho : SE X EX o mo) (ha : SE X EX a ma)
    (hbase : attributeBase o "append" X.env (eval o X.env) = eval o X.env := by rfl)
    (hfew : ((backTo cpos (starEach [a] X.env)).all (fun x => !x.1) && (backToKw cpos (keywordEach [] X.env)).all (fun x => x.1.isSome)
      && decide (([a] : List Expr).length + ([] : List Keyword).length + (if ([] : List Keyword).isEmpty then 0 else 1) < 30)) = true := by rfl)
    (hline : (apos.endLine == cpos.line) = true := by rfl) (hs : starEach [a] X.env = [(false, eval a X.env)] := by rfl) :
    SE X EX (.Call (.Attribute o "append" apos) [a] [] cpos) (eM1 fAppend mo ma) :=
  ⟨PE.imp (pe_bm PySem.F.plainAttrs_list PySem.F.slot_list_append PySem.F.type_list_append mt_append ho.h (pa_cons ha.h pa_nil hs) hbase hfew hline hs rfl) (meth1 fun ρ h H n q y u Q r hq ru fin => by
    obtain ⟨xs, d, ys, vs, g1, g2, g3, g4, g5⟩ := updL_rel r hq fin
    cases g1
    have hl := g4.length
    rw [List.length_append, List.length_singleton] at g2
    exact ⟨q, vs, u, rfl, rfl, g3, by omega, g5 _ _ (by simp [RD]) (g4.append (RDs.cons ru RDs.nil))⟩)⟩
theorem se_popAt (ho : SE X EX o mo) (ha : SE X EX a ma)
    (hbase : attributeBase o "pop" X.env (eval o X.env) = eval o X.env := by rfl)
    (hfew : ((backTo cpos (starEach [a] X.env)).all (fun x => !x.1) && (backToKw cpos (keywordEach [] X.env)).all (fun x => x.1.isSome)
      && decide (([a] : List Expr).length + ([] : List Keyword).length + (if ([] : List Keyword).isEmpty then 0 else 1) < 30)) = true := by rfl)
    (hline : (apos.endLine == cpos.line) = true := by rfl) (hs : starEach [a] X.env = [(false, eval a X.env)] := by rfl) :
    SE X EX (.Call (.Attribute o "pop" apos) [a] [] cpos) (eM1 fPopAt mo ma) :=
  ⟨PE.imp (pe_bm PySem.F.plainAttrs_list PySem.F.slot_list_pop PySem.F.type_list_pop mt_popAt ho.h (pa_cons ha.h pa_nil hs) hbase hfew hline hs rfl) (meth1 fun ρ h H n q y u Q r hq ru fin => by
    cases y <;> first | exact (show False from fin).elim | skip
    rename_i k
    simp only [RD] at ru
    subst ru
    obtain ⟨xs, d, ys, vs, g1, g2, g3, g4, g5⟩ := updL_rel r hq fin
    split at g1
    · rename_i hk
      cases e5 : seqIndex? k xs.length with
      | none => rw [e5] at g1; cases g1
      | some j =>
        rw [e5] at g1
        obtain ⟨d', e1, e2⟩ := Option.map_eq_some_iff.mp g1
        cases e2
        obtain ⟨v, e3, e4⟩ := g4.get e1
        exact ⟨q, vs, k, j, v, rfl, rfl, g3, hk.1, hk.2, by rw [← g4.length]; exact e5, e3, g5 _ _ e4 (g4.eraseIdx j)⟩
    · cases g1)⟩
end
inductive Src where
  | con (xs : List D)
  | lst (n : Nat) (xs : List D)
  | obj (n : Nat) (o : O) (xs : List D)
def Src.items : Src → List D
  | .con xs => xs
  | .lst _ xs => xs
  | .obj _ _ xs => xs
def Src.good : Src → AH → Prop
  | .con _, _ => True
  | .lst n xs, h => h[n]? = some (.lst xs)
  | .obj n o _, h => h[n]? = some o
open Classical in
noncomputable def Src.chk (s : Src) : M Unit := fun h => if s.good h then .ok () h else .bad
def JOK (K : PySem.W.Frag) (src : Src) (ρ : List Addr) (H : Hp) (J : It) : Prop := ∀ i ρ1 h1 H1, Pre ρ ρ1 → Ext K H H1 → RH K ρ1 h1 H1 → src.good h1 →
  (∀ d, src.items[i]? = some d → J.go i H1 ∧ ∀ x H2, J.yld i H1 x H2 → RD K ρ1 H2 d x ∧ RH K ρ1 h1 H2 ∧ Ext K H1 H2) ∧ (src.items.length = i → J.stop i H1)
def tI (K : PySem.W.Frag) (EX : XX) (m : G → M Src) : TI := fun σ H R => ∃ ρ γ h, Rel K ρ γ h σ H ∧ Fin K EX ρ H (fun src ρ' _ H' => ∀ J, JOK K src ρ' H' J → R J H') (m γ h)
structure SI (X : Cx) (EX : XX) (tg iter : Expr) (m : G → M Src) : Prop where
  h : PI X tg iter (tI X.K EX m)
theorem PI.imp {X : Cx} {tg e : Expr} {t t' : TI} (h : PI X tg e t) (f : ∀ σ H R, t' σ H R → t σ H R) : PI X tg e t' := fun pins s σ H R I z => h pins s σ H R I (f σ H R z)
section
variable {X : Cx} {EX : XX} {a o e tg : Expr} {pos cpos apos p : Pos} {ma mo : G → M D} {mr : G → M (List D)}
def iSeqL (ma : G → M D) : G → M Src := fun γ => do
  let x ← ma γ
  match x with
  | .fl xs => pure (.con xs)
  | .ref n => do
    let xs ← getL n
    pure (.lst n xs)
  | _ => bad
theorem si_list (ha : SE X EX a ma) : SI X EX tg a (iSeqL ma) :=
  ⟨PI.imp (pi_list ha.h) fun σ H R ⟨ρ, γ, h, rel, fin⟩ => ⟨ρ, γ, h, rel, (Fin.bind fin).mono fun x ρ1 h1 H1 p1 e1 r1 f1 v rv => by
    cases x <;> first | exact (show False from f1).elim | skip
    case fl xs =>
      simp only [RD] at rv
      obtain ⟨q, vs, rfl, h2, h3⟩ := rv
      refine ⟨q, rfl, ⟨vs, h2.sq⟩, f1 ρ1 H1 (Pre.refl _) (Ext.refl _ _) r1 _ fun i ρ2 h4 H2 p2 e2 r2 _ => ⟨fun d hd => ?_, fun hi => ?_⟩⟩
      · have h3' := h3.mono p2 e2
        obtain ⟨x, g1, g2⟩ := h3'.get hd
        refine ⟨⟨vs, x, (e2.l _ _ h2).sq, g1⟩, fun y H3 ⟨z1, z2⟩ => ?_⟩
        subst z1
        have := z2 vs (e2.l _ _ h2).sq
        rw [g1] at this; cases this
        exact ⟨g2, r2, Ext.refl _ _⟩
      · exact ⟨vs, (e2.l _ _ h2).sq, by rw [← h3.length]; exact Nat.le_of_eq hi⟩
    case ref n =>
      have f2 : Fin X.K EX ρ1 H1 (fun src ρ' _ H' => ∀ J, JOK X.K src ρ' H' J → R J H') ((getL n >>= fun xs => (pure (.lst n xs) : M Src)) h1) := f1
      have f3 := Fin.bind f2
      cases e3 : getL n h1 with
      | bad => rw [e3] at f3; exact f3.elim
      | err z hz => exact (getL_no e3).elim
      | ok xs h3 =>
        obtain ⟨rfl, q1⟩ := getL_ok e3
        rw [e3] at f3
        simp only [RD] at rv
        obtain ⟨q, rfl, hq⟩ := rv
        obtain ⟨a1, n1, vs, o1, d1⟩ := r1.at q1
        rw [hq] at n1; cases n1
        have f4 := f3 ρ1 H1 (Pre.refl _) (Ext.refl _ _) r1
        refine ⟨q, rfl, ⟨vs, SqL.of o1⟩, f4 ρ1 H1 (Pre.refl _) (Ext.refl _ _) r1 _ fun i ρ2 h4 H2 p2 e2 r2 g => ?_⟩
        have g' : h4[n]? = some (.lst xs) := g
        obtain ⟨a2, n2, vs2, o2, d2⟩ := r2.at g'
        rw [p2 n q hq] at n2; cases n2
        refine ⟨fun d hd => ?_, fun hi => ⟨vs2, SqL.of o2, by rw [← d2.length]; exact Nat.le_of_eq hi⟩⟩
        obtain ⟨x, g1, g2⟩ := d2.get hd
        refine ⟨⟨vs2, x, SqL.of o2, g1⟩, fun y H3 ⟨z1, z2⟩ => ?_⟩
        subst z1
        have := z2 vs2 (SqL.of o2)
        rw [g1] at this; cases this
        exact ⟨g2, r2, Ext.refl _ _⟩⟩⟩
def iSeqT (ma : G → M D) : G → M Src := fun γ => do
  let x ← ma γ
  match x with
  | .tup xs => pure (.con xs)
  | _ => bad
theorem si_tup (ha : SE X EX a ma) : SI X EX tg a (iSeqT ma) :=
  ⟨PI.imp (pi_tup ha.h) fun σ H R ⟨ρ, γ, h, rel, fin⟩ => ⟨ρ, γ, h, rel, (Fin.bind fin).mono fun x ρ1 h1 H1 p1 e1 r1 f1 v rv => by
    cases x <;> first | exact (show False from f1).elim | skip
    rename_i xs
    simp only [RD] at rv
    obtain ⟨q, vs, rfl, h2, h3⟩ := rv
    refine ⟨q, rfl, ⟨vs, h2⟩, f1 ρ1 H1 (Pre.refl _) (Ext.refl _ _) r1 _ fun i ρ2 h4 H2 p2 e2 r2 _ => ⟨fun d hd => ?_, fun hi => ?_⟩⟩
    · have h3' := h3.mono p2 e2
      obtain ⟨x, g1, g2⟩ := h3'.get hd
      refine ⟨⟨vs, x, e2.t _ _ h2, g1⟩, fun y H3 ⟨z1, z2⟩ => ?_⟩
      subst z1
      have := z2 vs (e2.t _ _ h2)
      rw [g1] at this; cases this
      exact ⟨g2, r2, Ext.refl _ _⟩
    · exact ⟨vs, e2.t _ _ h2, by rw [← h3.length]; exact Nat.le_of_eq hi⟩⟩⟩
def intsD (n : Nat) : List D := (List.range n).map fun (i : Nat) => .int i
def iRange (ma : G → M D) : G → M Src := fun γ => do
  let x ← ma γ
  match x with
  | .int j => if -(2 ^ 62) ≤ j ∧ j < 2 ^ 62 then pure (.con (intsD j.toNat)) else bad
  | _ => bad
theorem si_range (hg : Gl X "range") (hm : X.mg "range" = none) (ha : SE X EX a ma) (hs : starEach [a] X.env = [(false, eval a X.env)] := by rfl) : SI X EX tg (.Call (.Name "range" p) [a] [] pos) (iRange ma) :=
  ⟨PI.imp (pi_range1 hg hm (pa_cons ha.h pa_nil hs) hs) fun σ H R ⟨ρ, γ, h, rel, fin⟩ => ⟨ρ, γ, h, rel, (Fin.bind fin).mono fun x ρ1 h1 H1 p1 e1 r1 f1 v rv => by
    cases x <;> first | exact (show False from f1).elim | skip
    rename_i j
    simp only [RD] at rv
    subst rv
    have f2 : Fin X.K EX ρ1 H1 (fun src ρ' _ H' => ∀ J, JOK X.K src ρ' H' J → R J H') ((if -(2 ^ 62) ≤ j ∧ j < 2 ^ 62 then pure (.con (intsD j.toNat)) else bad : M Src) h1) := f1
    by_cases hj : -(2 ^ 62) ≤ j ∧ j < 2 ^ 62
    · rw [if_pos hj] at f2
      refine ⟨j, rfl, hj.1, hj.2, f2 ρ1 H1 (Pre.refl _) (Ext.refl _ _) r1 _ fun i ρ2 h4 H2 p2 e2 r2 _ => ⟨fun d hd => ?_, fun hi => ?_⟩⟩
      · have hd' : (intsD j.toNat)[i]? = some d := hd
        unfold intsD at hd'
        rw [List.getElem?_map] at hd'
        have hi : i < j.toNat := by
          by_cases hi : i < j.toNat
          · exact hi
          · rw [List.getElem?_eq_none (by simpa using hi)] at hd'; cases hd'
        rw [List.getElem?_range hi] at hd'
        cases hd'
        refine ⟨hi, fun y H3 ⟨z1, z2⟩ => ?_⟩
        subst z1; subst z2
        exact ⟨by simp [RD], r2, Ext.refl _ _⟩
      · have hi' : (intsD j.toNat).length = i := hi
        unfold intsD at hi'
        rw [List.length_map, List.length_range] at hi'
        exact Nat.le_of_eq hi'
    · rw [if_neg hj] at f2; exact f2.elim⟩⟩
end
noncomputable def forR (src : Src) (g : D → G → M G) (body : G → M Out) : List D → G → M Out
  | [], γ => do
    let _ ← src.chk
    pure (.nx γ)
  | d :: r, γ => do
    let _ ← src.chk
    let γ1 ← g d γ
    let o ← body γ1
    match o with
    | .nx γ2 => forR src g body r γ2
    | .ct γ2 => forR src g body r γ2
    | .bk γ2 => pure (.nx γ2)
    | .rt v => pure (.rt v)
noncomputable def sFor (mi : G → M Src) (g : D → G → M G) (body : G → M Out) : G → M Out := fun γ => do
  let src ← mi γ
  forR src g body src.items γ
theorem chk_ok {K : PySem.W.Frag} {EX : XX} {ρ : List Addr} {H : Hp} {α : Type} {P : α → List Addr → AH → Hp → Prop} {src : Src} {f : Unit → M α} {h : AH} (fin : Fin K EX ρ H P ((src.chk >>= f) h)) (r : RH K ρ h H) : src.good h ∧ Fin K EX ρ H P (f () h) := by
  have f1 := Fin.bind fin
  unfold Src.chk at f1
  split at f1
  · rename_i hg
    exact ⟨hg, f1 ρ H (Pre.refl _) (Ext.refl _ _) r⟩
  · exact f1.elim
section
variable {X : Cx} {EX : XX} {a o e tg c : Expr} {pos cpos apos p : Pos} {ma mo : G → M D} {mi : G → M Src} {g : D → G → M G} {mb : G → M Out} {sts : List Stmt} {kc : G → M Bool}
theorem s_for (hp : PassesOwn (model X.prog X.w) X.A X.env X.xe) (hc : X.calm = true) (hi : SI X EX tg e mi) (hg : SG X EX tg g) (hb : SB X EX sts mb) (hs : ∀ x, foldedSetIterable e X.env x = pure x := by intro _; rfl) : S1 X EX (.For tg e sts [] pos) (sFor mi g mb) :=
  ⟨PS.imp (ps_for hp hc hi.h hg.h hb.h hs) fun σ H D ⟨ρ, γ, h, rel, fin⟩ => ⟨ρ, γ, h, rel, (Fin.bind fin).mono fun src ρ0 h0 H0 p0 e0 r0 f0 J hJ => by
    refine ⟨fun i m σ H => m + i = src.items.length ∧ ∃ ρ γ h, Pre ρ0 ρ ∧ Ext X.K H0 H ∧ Rel X.K ρ γ h σ H ∧ Fin X.K EX ρ H (fun o ρ' _ H' => OutP X.K D o ρ' H') (forR src g mb (src.items.drop i) γ h),
      ⟨src.items.length, rfl, ρ0, γ, h0, Pre.refl _, Ext.refl _ _, ⟨rel.g.mono p0 e0, r0⟩, f0⟩, ?_⟩
    rintro i m σ1 H1 ⟨hm, ρ1, γ1, h1, p1, e1, rel1, f1⟩
    by_cases hi : i < src.items.length
    · have hd : src.items.drop i = src.items[i] :: src.items.drop (i + 1) := List.drop_eq_getElem_cons hi
      rw [hd] at f1
      unfold forR at f1
      obtain ⟨good, f2⟩ := chk_ok f1 rel1.h
      obtain ⟨j1, j2⟩ := hJ i ρ1 h1 H1 p1 e1 rel1.h good
      obtain ⟨go, yld⟩ := j1 src.items[i] (List.getElem?_eq_getElem hi)
      refine .inr ⟨go, fun σ' H' => ∃ ρ γ h, Pre ρ0 ρ ∧ Ext X.K H0 H' ∧ Rel X.K ρ γ h σ' H' ∧ Fin X.K EX ρ H' (fun o ρ' _ H' => OutP X.K D o ρ' H') (forR src g mb (src.items.drop (i + 1)) γ h), fun σ' H' z => ⟨m - 1, by omega, by omega, z⟩, fun x H2 y => ?_⟩
      obtain ⟨rd, rh, ext⟩ := yld x H2 y
      refine ⟨ρ1, γ1, h1, _, ⟨rel1.g.mono (Pre.refl _) ext, rh⟩, rd, (Fin.bind (Fin.up (Pre.refl _) ext f2)).mono fun γ2 ρ3 h3 H3 p3 e3 r3 f3 σ3 g3 => ⟨ρ3, γ2, h3, ⟨g3, r3⟩, (Fin.bind f3).mono fun o ρ4 h4 H4 p4 e4 r4 f4 => ?_⟩⟩
      have pp : Pre ρ0 ρ4 := (p1.trans p3).trans p4
      have ee : Ext X.K H0 H4 := ((e1.trans ext).trans e3).trans e4
      cases o with
      | nx γ5 => exact fun σ5 g5 => ⟨ρ4, γ5, h4, pp, ee, ⟨g5, r4⟩, f4⟩
      | ct γ5 => exact fun σ5 g5 => ⟨ρ4, γ5, h4, pp, ee, ⟨g5, r4⟩, f4⟩
      | bk γ5 => exact fun σ5 g5 => f4 ρ4 H4 (Pre.refl _) (Ext.refl _ _) r4 σ5 g5
      | rt d => exact fun v rv => f4 ρ4 H4 (Pre.refl _) (Ext.refl _ _) r4 v rv
    · have hd : src.items.drop i = [] := List.drop_eq_nil_of_le (by omega)
      rw [hd] at f1
      unfold forR at f1
      obtain ⟨good, f2⟩ := chk_ok f1 rel1.h
      obtain ⟨j1, j2⟩ := hJ i ρ1 h1 H1 p1 e1 rel1.h good
      exact .inl ⟨j2 (by omega), f2 ρ1 H1 (Pre.refl _) (Ext.refl _ _) rel1.h σ1 rel1.g⟩⟩⟩
end
end FT
namespace FT
open PySem PySem.Spec PyProof.Rows L2
def capG (cap : List (Option Nat)) (γ : G) : G := cap.map fun o => match o with | some j => (γ[j]?).join | none => none
theorem cap_rel {K : PySem.W.Frag} {ρ : List Addr} {H : Hp} {γ : G} {σ : L2.St} (cap : List (Option Nat)) (r : RG K ρ H γ σ) : RG K ρ H (capG cap γ) (capSt cap σ) := by
  refine ⟨by simp [capG, capSt], fun i d e => ?_⟩
  unfold capG at e
  unfold capSt
  rw [List.getElem?_map] at e ⊢
  cases q : cap[i]? with
  | none => rw [q] at e; cases e
  | some o =>
    rw [q] at e
    cases o with
    | none => simp at e
    | some j =>
      have e2 : (γ[j]?).join = some d := by simpa using e
      have e3 : γ[j]? = some (some d) := by
        cases q2 : γ[j]? with
        | none => rw [q2] at e2; simp at e2
        | some o2 => rw [q2] at e2; simp at e2; rw [e2]
      obtain ⟨v, h1, h2⟩ := r.var j d e3
      exact ⟨v, by simp [h1], h2⟩
noncomputable def compR (src : Src) (g : D → G → M G) (k : G → M Bool) (me : G → M D) (n0 : Nat) (γ : G) : List D → M Unit
  | [] => do
    let _ ← src.chk
    pure ()
  | d :: r => do
    let _ ← src.chk
    let γ1 ← g d γ
    let t ← k γ1
    if t then do
      let v ← me γ1
      let _ ← fAppend n0 v
      compR src g k me n0 γ r
    else compR src g k me n0 γ r
noncomputable def eComp (cap : List (Option Nat)) (mi : G → M Src) (g : D → G → M G) (k : G → M Bool) (me : G → M D) : G → M D := fun γ => do
  let src ← mi γ
  let n0 ← (fun h => .ok h.length (h ++ [.lst []]) : M Nat)
  let _ ← compR src g k me n0 (capG cap γ) src.items
  pure (.ref n0)
structure SCs (X : Cx) (EX : XX) (ifs : List Expr) (m : G → M Bool) : Prop where
  h : PTs X ifs (tT X.K EX m)
theorem PTs.imp {X : Cx} {e : List Expr} {t t' : TT} (h : PTs X e t) (f : ∀ σ H Q, t' σ H Q → t σ H Q) : PTs X e t' := fun pins s σ H Q I z => h pins s σ H Q I (f σ H Q z)
section
variable {X : Cx} {EX : XX} {elt tg iter c : Expr} {ifs : List Expr} {sc : Scope} {pos : Pos} {N' : List Str} {cap : List (Option Nat)} {own : List Nat} {mi : G → M Src} {g : D → G → M G} {k kr : G → M Bool} {me : G → M D}
theorem scs_nil : SCs X EX [] (fun _ => pure true) := ⟨PTs.imp pts_nil fun σ H Q ⟨ρ, γ, h, rel, fin⟩ => fin ρ H (Pre.refl _) (Ext.refl _ _) rel.h⟩
theorem scs_one (h : SC X EX c k) : SCs X EX [c] k := ⟨PTs.imp (pts_cons h.h pts_nil) fun σ H Q ⟨ρ, γ, h, rel, fin⟩ => ⟨ρ, γ, h, rel, fin.mono fun t ρ1 h1 H1 p1 e1 r1 f1 => by
  cases t with
  | true => exact f1
  | false => exact f1⟩⟩
theorem comp_run {σ : L2.St} {H0 : Hp} {ρ0 : List Addr} {h0 : AH} {γ : G} {src : Src} {J : It} {Dd : Addr} {P : Hp → Prop} (r0 : RH X.K ρ0 h0 H0) (rg : RG X.K ρ0 H0 γ σ) (hJ : JOK X.K src ρ0 H0 J) (hD : H0 Dd = none) (hown : ∀ j ∈ own, cap[j]? = some none)
    (fin : Fin X.K EX (ρ0 ++ [Dd]) (upd H0 Dd (.lst [])) (fun _ ρ' h' H' => ρ'[h0.length]? = some Dd → RH X.K ρ' h' H' → Ext X.K (upd H0 Dd (.lst [])) H' → Pre (ρ0 ++ [Dd]) ρ' → P H') (compR src g k me h0.length (capG cap γ) src.items (h0 ++ [.lst []]))) :
    compRun cap (tGk X.K EX own g) (tT X.K EX k) (tE X.K EX me) σ J Dd P (upd H0 Dd (.lst [])) := by
  have rP := r0.push hD (RDs.nil (K := X.K) (ρ := ρ0) (H := H0))
  have eP : Ext X.K H0 (upd H0 Dd (.lst [])) := Ext.upd (.inl hD)
  have at0 : (ρ0 ++ [Dd])[h0.length]? = some Dd := by rw [← r0.len]; simp
  refine ⟨fun i m H => m + i = src.items.length ∧ ∃ ρ h, Pre (ρ0 ++ [Dd]) ρ ∧ Ext X.K (upd H0 Dd (.lst [])) H ∧ RH X.K ρ h H ∧
    Fin X.K EX ρ H (fun _ ρ' h' H' => ρ'[h0.length]? = some Dd → RH X.K ρ' h' H' → Ext X.K (upd H0 Dd (.lst [])) H' → Pre (ρ0 ++ [Dd]) ρ' → P H') (compR src g k me h0.length (capG cap γ) (src.items.drop i) h),
    ⟨src.items.length, rfl, _, _, Pre.refl _, Ext.refl _ _, rP, fin⟩, ?_⟩
  rintro i m H1 ⟨hm, ρ1, h1, p1, e1, r1, f1⟩
  have p01 : Pre ρ0 ρ1 := (Pre.app _ _).trans p1
  have e01 : Ext X.K H0 H1 := eP.trans e1
  by_cases hi : i < src.items.length
  · have hd : src.items.drop i = src.items[i] :: src.items.drop (i + 1) := List.drop_eq_getElem_cons hi
    rw [hd] at f1
    unfold compR at f1
    obtain ⟨good, f2⟩ := chk_ok f1 r1
    obtain ⟨j1, j2⟩ := hJ i ρ1 h1 H1 p01 e01 r1 good
    obtain ⟨go, yld⟩ := j1 src.items[i] (List.getElem?_eq_getElem hi)
    refine .inr ⟨go, fun x H2 y => ?_⟩
    obtain ⟨rd, rh, ext⟩ := yld x H2 y
    have rgc : RG X.K ρ1 H2 (capG cap γ) (capSt cap σ) := (cap_rel cap rg).mono p01 (e01.trans ext)
    refine ⟨ρ1, _, h1, _, ⟨rgc, rh⟩, rd, (Fin.bind (Fin.up (Pre.refl _) ext f2)).mono fun γ2 ρ3 h3 H3 p3 e3 r3 f3 σ3 g3 k3 => ⟨fun j v hv => ?_, ρ3, γ2, h3, ⟨g3, r3⟩, (Fin.bind f3).mono fun t ρ4 h4 H4 p4 e4 r4 f4 => ?_⟩⟩
    · rw [k3 j fun hj => ?_]
      · exact hv
      · have z := hown j hj
        unfold capSt at hv
        rw [List.getElem?_map, z] at hv
        simp at hv
    · have pp : Pre (ρ0 ++ [Dd]) ρ4 := (p1.trans p3).trans p4
      have ee : Ext X.K (upd H0 Dd (.lst [])) H4 := ((e1.trans ext).trans e3).trans e4
      cases t with
      | false =>
        rw [if_neg (by decide)] at f4
        dsimp only
        rw [if_neg (by decide)]
        exact ⟨m - 1, by omega, by omega, ρ4, h4, pp, ee, r4, f4⟩
      | true =>
        rw [if_pos rfl] at f4
        dsimp only
        rw [if_pos rfl]
        refine ⟨ρ4, γ2, h4, ⟨g3.mono p4 e4, r4⟩, (Fin.bind f4).mono fun d ρ5 h5 H5 p5 e5 r5 f5 v rv => ?_⟩
        have hq : ρ5[h0.length]? = some Dd := (pp.trans p5) _ _ at0
        have f6 := Fin.bind f5
        unfold fAppend updL at f6
        cases e7 : h5[h0.length]? with
        | none => rw [e7] at f6; exact f6.elim
        | some ob =>
          cases ob with
          | set ks => rw [e7] at f6; exact f6.elim
          | dct => rw [e7] at f6; exact f6.elim
          | dK kvs => rw [e7] at f6; exact f6.elim
          | dF kvs => rw [e7] at f6; exact f6.elim
          | exc c => rw [e7] at f6; exact f6.elim
          | lst xs =>
            rw [e7] at f6
            dsimp only at f6
            split at f6
            · rename_i hl
              obtain ⟨a1, n1, vs, o1, d1⟩ := r5.at e7
              rw [hq] at n1; cases n1
              have dd := d1.append (RDs.cons rv RDs.nil)
              have ext2 : Ext X.K H5 (upd H5 Dd (.lst (vs ++ [v]))) := Ext.upd (.inr ⟨_, o1, trivial⟩)
              have r6 := r5.set e7 hq dd
              rw [List.length_append, List.length_singleton] at hl
              have hl2 := d1.length
              exact ⟨vs, o1, by omega, m - 1, by omega, by omega, ρ5, _, pp.trans p5, (ee.trans e5).trans ext2, r6, f6 ρ5 _ (Pre.refl _) ext2 r6⟩
            · exact f6.elim
  · have hd : src.items.drop i = [] := List.drop_eq_nil_of_le (by omega)
    rw [hd] at f1
    unfold compR at f1
    obtain ⟨good, f2⟩ := chk_ok f1 r1
    obtain ⟨j1, j2⟩ := hJ i ρ1 h1 H1 p01 e01 r1 good
    exact .inl ⟨j2 (by omega), f2 ρ1 H1 (Pre.refl _) (Ext.refl _ _) r1 (p1 _ _ at0) r1 e1 p1⟩
theorem se_comp (hc : X.calm = true) (S : CS X sc N' cap) (hi : SI X EX tg iter mi) (hg : ∀ s H fp xe, SGk (X.comp N' sc s H fp xe) EX tg own g) (ht : ∀ s H fp xe, SCs (X.comp N' sc s H fp xe) EX ifs k)
    (he : ∀ s H fp xe, SE (X.comp N' sc s H fp xe) EX elt me) (hown : ∀ j ∈ own, cap[j]? = some none := by decide) (hs : ∀ x, foldedSetIterable iter X.env x = pure x := by intro _; rfl) : SE X EX (.ListComp elt [⟨tg, iter, ifs, 0⟩] sc pos) (eComp cap mi g k me) :=
  ⟨PE.imp (pe_comp (g := tGk X.K EX own g) (ti := tT X.K EX k) (te := tE X.K EX me) hc S hi.h (fun s H fp xe => (hg s H fp xe).h) (fun s H fp xe => (ht s H fp xe).h) (fun s H fp xe => (he s H fp xe).h) hs) fun σ H Q ⟨ρ, γ, h, rel, fin⟩ => ⟨ρ, γ, h, rel, (Fin.bind fin).mono fun src ρ0 h0 H0 p0 e0 r0 f0 J hJ Dd hD => by
    have rP := r0.push hD (RDs.nil (K := X.K) (ρ := ρ0) (H := H0))
    have eP : Ext X.K H0 (upd H0 Dd (.lst [])) := Ext.upd (.inl hD)
    have f1 := Fin.bind f0
    have f2 := f1 (ρ0 ++ [Dd]) _ (Pre.app _ _) eP rP
    refine comp_run r0 (rel.g.mono p0 e0) hJ hD hown ((Fin.bind f2).mono fun _ ρ5 h5 H5 p5 e5 r5 f5 hat rr ee pp => ?_)
    refine FE.here (d := .ref h0.length) (h := h5) f5 rr ?_
    simp only [RD]
    exact ⟨Dd, rfl, hat⟩⟩⟩
noncomputable def sComp' (i : Nat) (cap : List (Option Nat)) (mi : G → M Src) (g : D → G → M G) (k : G → M Bool) (me : G → M D) : G → M Out := sAsg (eComp cap mi g k me) (gN i)
theorem s_comp (i : Nat) {y : Str} {py spos : Pos} (hc : X.calm = true) (S : CS X sc N' cap) (hi : SI X EX tg iter mi) (hg : ∀ s H fp xe, SGk (X.comp N' sc s H fp xe) EX tg own g) (ht : ∀ s H fp xe, SCs (X.comp N' sc s H fp xe) EX ifs k)
    (he : ∀ s H fp xe, SE (X.comp N' sc s H fp xe) EX elt me) (hN : X.N.Nodup) (hy : X.N[i]? = some y := by rfl) (hl : X.env.scope.names.lookup y = some .local := by rfl) (hown : ∀ j ∈ own, cap[j]? = some none := by decide)
    (hsw : swapsWith (.ListComp elt [⟨tg, iter, ifs, 0⟩] sc pos) (some (.Name y py)) spos.line X.env = pure true := by rfl) (hs : ∀ x, foldedSetIterable iter X.env x = pure x := by intro _; rfl) :
    S1 X EX (.Assign [.Name y py] (.ListComp elt [⟨tg, iter, ifs, 0⟩] sc pos) spos) (sComp' i cap mi g k me) :=
  ⟨PS.imp (ps_comp (g := tGk X.K EX own g) (ti := tT X.K EX k) (te := tE X.K EX me) hc S hi.h (fun s H fp xe => (hg s H fp xe).h) (fun s H fp xe => (ht s H fp xe).h) (fun s H fp xe => (he s H fp xe).h) hN hy hl hsw hs) fun σ H D ⟨ρ, γ, h, rel, fin⟩ => ⟨ρ, γ, h, rel, (Fin.bind (Fin.bind fin)).mono fun src ρ0 h0 H0 p0 e0 r0 f0 J hJ Dd hD => by
    have rP := r0.push hD (RDs.nil (K := X.K) (ρ := ρ0) (H := H0))
    have eP : Ext X.K H0 (upd H0 Dd (.lst [])) := Ext.upd (.inl hD)
    have f1 := Fin.bind f0
    have f2 := f1 (ρ0 ++ [Dd]) _ (Pre.app _ _) eP rP
    refine comp_run r0 (rel.g.mono p0 e0) hJ hD hown ((Fin.bind f2).mono fun _ ρ5 h5 H5 p5 e5 r5 f5 hat rr ee pp => ?_)
    have f6 := f5 ρ5 H5 (Pre.refl _) (Ext.refl _ _) rr
    have f7 := f6 ρ5 H5 (Pre.refl _) (Ext.refl _ _) rr
    refine f7 _ (RG.set (((rel.g.mono p0 e0).mono (Pre.app _ _) eP).mono pp ee) i ?_)
    simp only [RD]
    exact ⟨Dd, rfl, hat⟩⟩⟩
end
end FT
namespace FT
open PySem PySem.Spec PyProof.Rows L2
def csOk (osc : Scope) (N : List Str) (sc : Scope) (N' : List Str) (cap : List (Option Nat)) : Bool :=
  (sc.kind == .function) && sc.names.all (fun y => y.2 != .cell) && sc.names.all (fun x => x.2 != .local || sc.names.lookup x.1 == some .local) &&
  sc.names.all (fun x => x.2 != .free || (osc.names.lookup x.1 == some .cell || osc.names.lookup x.1 == some .free)) && (cap.length == N'.length) &&
  (List.range cap.length).all fun i => match cap[i]? with
    | some (some j) => (match N'[i]?, N[j]? with
      | some x, some y => x == y && sc.names.lookup x == some .free
      | _, _ => false)
    | _ => true
theorem cs_mk {X : Cx} {sc : Scope} {N' : List Str} {cap : List (Option Nat)} (h : csOk X.env.scope X.N sc N' cap = true) : CS X sc N' cap := by
  unfold csOk at h
  simp only [Bool.and_eq_true] at h
  obtain ⟨⟨⟨⟨⟨h1, h2⟩, h3⟩, h4⟩, h5⟩, h6⟩ := h
  refine ⟨by simpa using h1, fun y hy => ?_, fun x hx hl => ?_, fun x hx hf => ?_, by simpa using h5, fun i j e => ?_⟩
  · have := List.all_eq_true.mp h2 y hy
    simpa using this
  · have := List.all_eq_true.mp h3 x hx
    simpa [hl] using this
  · have := List.all_eq_true.mp h4 x hx
    have : (X.env.scope.names.lookup x.1 == some .cell || X.env.scope.names.lookup x.1 == some .free) = true := by simpa [hf] using this
    rw [Bool.or_eq_true] at this
    rcases this with z | z
    · exact .inl (show X.env.scope.names.lookup x.1 = _ by simpa using z)
    · exact .inr (show X.env.scope.names.lookup x.1 = _ by simpa using z)
  · have hi : i < cap.length := (List.getElem?_eq_some_iff.mp e).1
    have := List.all_eq_true.mp h6 i (List.mem_range.mpr hi)
    rw [e] at this
    dsimp only at this
    cases e1 : N'[i]? with
    | none => rw [e1] at this; cases this
    | some x =>
      cases e2 : X.N[j]? with
      | none => rw [e1, e2] at this; cases this
      | some y =>
        rw [e1, e2] at this
        simp only [Bool.and_eq_true] at this
        have exy : x = y := by simpa using this.1
        subst exy
        exact ⟨x, rfl, rfl, by simpa using this.2⟩
def DefAt (K : PySem.W.Frag) (x : Str) (st : Stmt) : Prop := ∃ f fd, PySem.W.nsIn K mainGlobals x = some (some (.ref f)) ∧ Fun K x x st f fd
theorem defAt_mk {K : PySem.W.Frag} {x : Str} {st : Stmt} {f : Addr} {oc : Value} {od an : Option Addr} {sl : Array (Option Value)} {kV dc pm cd ct : Value} (a : PySem.W.nsIn K mainGlobals x = some (some (.ref f)))
    (l : K.lookup f = some ⟨oc, od, .func (PySem.W.fnOf x x (defArgs st) (defBody st) (defScope st) .none kV dc pm an cd ct), sl⟩) (c : PySem.W.codeIn K cd x = true) (k : PySem.W.keepIn K (.ref f) = true) : DefAt K x st :=
  ⟨f, _, a, fun_mk l c k⟩
structure Cst (K : PySem.W.Frag) (mg : Str → Option Value) (x : Str) (d : D) : Prop where
  ex : ∃ v u, mg x = some u ∧ RelV v u ∧ ∀ ρ H, RD K ρ H d v
theorem cst_int {K : PySem.W.Frag} {mg : Str → Option Value} {x : Str} {i : Int} {t : Tok} (h : mg x = some (.int i t)) : Cst K mg x (.int i) := ⟨.int i, _, h, ⟨t, rfl⟩, fun _ _ => by simp [RD]⟩
theorem se_cst {X : Cx} {EX : XX} {x : Str} {d : D} {pos : Pos} (C : Cst X.K X.mg x d) (hg : Gl X x) (hd : (x == ("__debug__" : Str)) = false := by decide) : SE X EX (.Name x pos) (fun _ => pure d) := by
  obtain ⟨v, u, h1, h2, h3⟩ := C.ex
  exact se_glob hg h1 h2 h3 hd
end FT
namespace FT
open PySem PySem.Spec PyProof.Rows L2
section
variable {prog : Program} {w : World} {A : Around} {E : Value → Shared → Prop} {s : Shared}
theorem nx_item {it t : Addr} {i : Nat} {items : Array Value} {x : Value} {Q : Value → Shared → Prop} (hit : s.heap.IsTupleIter it t i) (ht : s.heap.IsTuple t items) (hx : items[i]? = some x)
    (hQ : ∀ h', h'.IsTupleIter it t (i + 1) → Heap.SameBut it s.heap h' → Q x { s with heap := h' }) : wpAny (model prog w) A (Builtin.SmallTypes.nextOf (.ref it)) Q E s := by
  obtain ⟨oi, e1, c1, d1⟩ := id hit
  obtain ⟨ot, e2, _, nt, d2⟩ := ht
  unfold Builtin.SmallTypes.nextOf
  refine wpAny_bind (wpAny_callSpecial?_slot (name := Str.ofString "__next__") hit.typeIs PySem.F.slot_tuple_iterator_next
    (wpAny_call_entry PySem.F.slot_tuple_iterator_next hit.typeIs PySem.F.entry_tuple_iterator_next ?_ (PySem.F.args_tuple_iterator_next_1 _)))
  show wpAny _ _ (field (.ref it) 0 >>= _) _ _ s
  refine wpAny_bind (wpAny_field e1 d1 (x := .ref t) rfl ?_)
  show wpAny _ _ (if (Value.ref t == Value.none) = true then _ else _) _ _ s
  have nn : ¬ (Value.ref t == Value.none) = true := Bool.false_ne_true
  rw [if_neg nn]
  show wpAny _ _ (field (.ref it) 1 >>= _) _ _ s
  refine wpAny_bind (wpAny_field e1 d1 (x := .int i 0) rfl ?_)
  show wpAny _ _ (seqItems? (.ref t) >>= _) _ _ s
  refine wpAny_bind (wpAny_seqItems e2 d2 ?_)
  simp only [Int.toNat_natCast, hx]
  refine wpAny_bind (wpAny_setField e1 d1 (by simp) (wpAny_pure ⟨x, rfl, wpAny_pure (hQ _ ?_ (Heap.SameBut.update ..))⟩))
  exact ⟨_, Heap.get?_update_self _ e1 (Obj.isFreed_of_fields (Obj.data_mapFields d1 _)), (Obj.cls_mapFields ..).trans c1, by
    rw [Obj.data_mapFields d1]; simp [rawInt]⟩
theorem nx_end {it t : Addr} {i : Nat} {items : Array Value} {Q : Value → Shared → Prop} (hh : A.handled = none) (hit : s.heap.IsTupleIter it t i) (ht : s.heap.IsTuple t items) (hx : items[i]? = none)
    (hE : ∀ h' e, Heap.ExtBut it s.heap h' → (∃ o, h'.get? e = some o ∧ o.cls = .type "StopIteration") → E (.ref e) { s with heap := h' }) : wpAny (model prog w) A (Builtin.SmallTypes.nextOf (.ref it)) Q E s := by
  obtain ⟨oi, e1, c1, d1⟩ := id hit
  obtain ⟨ot, e2, _, nt, d2⟩ := ht
  unfold Builtin.SmallTypes.nextOf
  refine wpAny_bind (wpAny_callSpecial?_slot (name := Str.ofString "__next__") hit.typeIs PySem.F.slot_tuple_iterator_next
    (wpAny_call_entry PySem.F.slot_tuple_iterator_next hit.typeIs PySem.F.entry_tuple_iterator_next ?_ (PySem.F.args_tuple_iterator_next_1 _)))
  show wpAny _ _ (field (.ref it) 0 >>= _) _ _ s
  refine wpAny_bind (wpAny_field e1 d1 (x := .ref t) rfl ?_)
  show wpAny _ _ (if (Value.ref t == Value.none) = true then _ else _) _ _ s
  have nn : ¬ (Value.ref t == Value.none) = true := Bool.false_ne_true
  rw [if_neg nn]
  show wpAny _ _ (field (.ref it) 1 >>= _) _ _ s
  refine wpAny_bind (wpAny_field e1 d1 (x := .int i 0) rfl ?_)
  show wpAny _ _ (seqItems? (.ref t) >>= _) _ _ s
  refine wpAny_bind (wpAny_seqItems e2 d2 ?_)
  simp only [Int.toNat_natCast, hx]
  refine wpAny_bind (wpAny_rule (wpAny_bind (wpAny_setField e1 d1 (by simp) ?_)))
  show wpAny _ _ (newExc (.type "StopIteration") [] >>= _) _ _ _
  refine wpAny_bind ?_
  simp only [newExc, newTuple]
  refine wpAny_bind (wpAny_newObj_type ?_ (by size_fits))
  refine wpAny_bind (m := firstArgMember _ _) (wpAny_of_eq (a := Value.none) (by first | rfl | (simp only [firstArgMember]; rfl)) ?_)
  refine wpAny_newObj_type ?_ (by size_fits)
  simp only [raiseNew]
  refine wpAny_bind (wpAny_handled ?_)
  first | rw [show A.in1.handled = none from hh] | rw [hh]
  refine wpAny_bind (wpAny_pure (wpAny_throw ?_))
  exact hE _ _ (((Heap.SameBut.update ..).extBut.push _).push _) ⟨_, Heap.get?_push_size _ rfl, rfl⟩
structure ZS (h : Heap) (z TI TO i1 i2 t1 t2 : Addr) (i : Nat) (f0 : Value) : Prop where
  zip : IsZip h z TI TO f0
  ti : IsPair h TI (.ref i1) (.ref i2)
  to : ∃ a b, IsPair h TO a b
  n1 : h.IsTupleIter i1 t1 i
  n2 : h.IsTupleIter i2 t2 i
structure ZA (z TI TO i1 i2 : Addr) : Prop where
  a1 : TI ≠ z
  a2 : TO ≠ z
  a3 : i1 ≠ z
  a4 : i2 ≠ z
  a5 : TI ≠ TO
  a6 : TI ≠ i1
  a7 : TI ≠ i2
  a8 : TO ≠ i1
  a9 : TO ≠ i2
  a0 : i1 ≠ i2
structure ZO (z TO i1 i2 t : Addr) : Prop where
  o1 : t ≠ z
  o2 : t ≠ TO
  o3 : t ≠ i1
  o4 : t ≠ i2
theorem zs_item {z TI TO i1 i2 t1 t2 : Addr} {i : Nat} {xs ys : Array Value} {x y : Value} {Q : Value → Shared → Prop} (D : ZA z TI TO i1 i2) (O1 : ZO z TO i1 i2 t1) (O2 : ZO z TO i1 i2 t2)
    (Z : ZS s.heap z TI TO i1 i2 t1 t2 i .none) (hl1 : s.heap.IsTuple t1 xs) (hl2 : s.heap.IsTuple t2 ys) (hx : xs[i]? = some x) (hy : ys[i]? = some y)
    (hQ : ∀ h', ZS h' z TI TO i1 i2 t1 t2 (i + 1) (rawInt s.heap.objs.size) → IsPair h' s.heap.objs.size x y → h'.objs.size = s.heap.objs.size + 1 →
      (∀ c o, c ≠ z → c ≠ TO → c ≠ i1 → c ≠ i2 → s.heap.get? c = some o → h'.get? c = some o) → Q (.ref s.heap.objs.size) { s with heap := h' }) :
    wpAny (model prog w) A (Builtin.«zip.__next__» ⟨[.ref z], []⟩) (fun fin s' => ∃ v, fin = .done (.ret v) ∧ Q v s') E s := by
  obtain ⟨zz, zi, ⟨a, b, zo⟩, g1, g2⟩ := Z
  show wpAny _ _ (field (.ref z) 2 >>= _) _ _ _
  refine wpAny_bind (wpAny_field zz rfl (x := .bool false) rfl ?_)
  show wpAny _ _ (field (.ref z) 3 >>= _) _ _ _
  refine wpAny_bind (wpAny_field zz rfl (x := .ref TI) rfl ?_)
  refine wpAny_bind (wpAny_seqItems zi rfl ?_)
  show wpAny _ _ (Builtin.SmallTypes.ownedTupleIsFree (.ref z) >>= _) _ _ _
  refine wpAny_bind ?_
  unfold Builtin.SmallTypes.ownedTupleIsFree
  refine wpAny_bind (wpAny_field zz rfl (x := .none) rfl (wpAny_pure ?_))
  simp only [if_true]
  refine wpAny_bind (wpAny_rule ?_)
  refine wpAny_bind (wpAny_field zz rfl (x := .ref TO) rfl ?_)
  refine wpAny_bind (wpAny_setField_rec zz (by simp) fun k1 z1 s1 => ?_)
  replace z1 : IsZip k1 z TI TO .ellipsis := z1
  refine wpAny_bind ?_
  simp only [List.zipIdx_cons, List.zipIdx_nil, List.forIn_cons, List.forIn_nil]
  refine wpAny_bind (wpAny_bind (wpAny_onRaise ?_))
  show wpAny _ _ (Builtin.SmallTypes.nextOf (.ref i1) >>= _) _ _ _
  refine wpAny_bind (nx_item (g1.extBut s1.extBut D.a3) (hl1.extBut s1.extBut O1.o1) hx fun k2 g12 s2 => wpAny_pure ?_)
  have zo2 : IsPair k2 TO a b := s2.extBut _ _ D.a8 (s1.extBut _ _ D.a2 zo)
  refine wpAny_bind (wpAny_seqItems zo2 rfl ?_)
  refine wpAny_bind (wpAny_updateSeq_pair zo2 fun k3 zo3 s3 => ?_)
  replace zo3 : IsPair k3 TO x b := zo3
  refine wpAny_bind (wpAny_letGo (wpAny_pure ?_))
  refine wpAny_bind (wpAny_bind (wpAny_onRaise ?_))
  show wpAny _ _ (Builtin.SmallTypes.nextOf (.ref i2) >>= _) _ _ _
  refine wpAny_bind (nx_item (((g2.extBut s1.extBut D.a4).extBut s2.extBut D.a0.symm).extBut s3.extBut D.a9.symm)
    (((hl2.extBut s1.extBut O2.o1).extBut s2.extBut O2.o3).extBut s3.extBut O2.o2) hy fun k4 g24 s4 => wpAny_pure ?_)
  have zo4 : IsPair k4 TO x b := s4.extBut _ _ D.a9 zo3
  refine wpAny_bind (wpAny_seqItems zo4 rfl ?_)
  refine wpAny_bind (wpAny_updateSeq_pair zo4 fun k5 zo5 s5 => ?_)
  replace zo5 : IsPair k5 TO x y := zo5
  refine wpAny_bind (wpAny_letGo (wpAny_pure (wpAny_pure ?_)))
  refine wpAny_bind (wpAny_seqItems zo5 rfl ?_)
  refine wpAny_bind (wpAny_newTuple ?_)
  have sz : k5.objs.size = s.heap.objs.size := by rw [s5.1, s4.1, s3.1, s2.1, s1.1]
  have z5 : IsZip k5 z TI TO .ellipsis := s5.extBut _ _ D.a2.symm (s4.extBut _ _ D.a4.symm (s3.extBut _ _ D.a2.symm (s2.extBut _ _ D.a3.symm z1)))
  have kk : ∀ c o, c ≠ z → c ≠ TO → c ≠ i1 → c ≠ i2 → s.heap.get? c = some o → k5.get? c = some o := fun c o c1 c2 c3 c4 e =>
    s5.extBut _ _ c2 (s4.extBut _ _ c4 (s3.extBut _ _ c2 (s2.extBut _ _ c3 (s1.extBut _ _ c1 e))))
  have g15 : k5.IsTupleIter i1 t1 (i + 1) := ((g12.extBut s3.extBut D.a8.symm).extBut s4.extBut D.a0).extBut s5.extBut D.a8.symm
  have g25 : k5.IsTupleIter i2 t2 (i + 1) := g24.extBut s5.extBut D.a9.symm
  have zlt : z < k5.objs.size := Heap.lt_size z5
  show wpAny _ _ (Builtin.SmallTypes.ownedTupleHandOut (.ref z) (.ref k5.objs.size) >>= _) _ _ _
  refine wpAny_bind ?_
  unfold Builtin.SmallTypes.ownedTupleHandOut
  have z6 : IsZip (k5.push { cls := .type "tuple", data := .seq #[x, y] }) z TI TO .ellipsis := Heap.get?_push_of_some _ z5
  refine wpAny_bind (wpAny_setField_rec z6 (by simp) fun k7 z7 s7 => ?_)
  replace z7 : IsZip k7 z TI TO (rawInt k5.objs.size) := z7
  refine wpAny_setField_rec z7 (by simp) fun k8 z8 s8 => ?_
  replace z8 : IsZip k8 z TI TO (rawInt k5.objs.size) := z8
  have up : ∀ c o, c ≠ z → k5.get? c = some o → k8.get? c = some o := fun c o c1 e => s8.extBut _ _ c1 (s7.extBut _ _ c1 (Heap.get?_push_of_some _ e))
  have t8 : IsPair k8 k5.objs.size x y := s8.extBut _ _ (Nat.ne_of_gt zlt) (s7.extBut _ _ (Nat.ne_of_gt zlt) (Heap.get?_push_size _ rfl))
  have sz8 : k8.objs.size = k5.objs.size + 1 := by rw [s8.1, s7.1, Heap.size_push]
  rw [sz] at z8 t8 sz8
  refine wpAny_pure ⟨_, rfl, ?_⟩
  show Q (.ref k5.objs.size) _
  rw [sz]
  exact hQ k8 ⟨z8, up _ _ D.a1 (kk _ _ D.a1 D.a5 D.a6 D.a7 zi), ⟨_, _, up _ _ D.a2 zo5⟩, g15.at fun o e => up _ o D.a3 e, g25.at fun o e => up _ o D.a4 e⟩ t8 sz8 fun c o c1 c2 c3 c4 e => up c o c1 (kk c o c1 c2 c3 c4 e)
theorem zs_end {z TI TO i1 i2 t1 t2 : Addr} {i : Nat} {xs ys : Array Value} {Q : PySem.Fin → Shared → Prop} (hh : A.handled = none) (D : ZA z TI TO i1 i2) (O1 : ZO z TO i1 i2 t1) (O2 : ZO z TO i1 i2 t2)
    (Z : ZS s.heap z TI TO i1 i2 t1 t2 i .none) (hl1 : s.heap.IsTuple t1 xs) (hl2 : s.heap.IsTuple t2 ys) (hend : xs[i]? = none ∨ ys[i]? = none)
    (hE : ∀ h' e, (∀ c o, c ≠ z → c ≠ TO → c ≠ i1 → c ≠ i2 → s.heap.get? c = some o → h'.get? c = some o) → (∃ o, h'.get? e = some o ∧ o.cls = .type "StopIteration") → E (.ref e) { s with heap := h' }) :
    wpAny (model prog w) A (Builtin.«zip.__next__» ⟨[.ref z], []⟩) Q E s := by
  obtain ⟨zz, zi, ⟨a, b, zo⟩, g1, g2⟩ := Z
  show wpAny _ _ (field (.ref z) 2 >>= _) _ _ _
  refine wpAny_bind (wpAny_field zz rfl (x := .bool false) rfl ?_)
  show wpAny _ _ (field (.ref z) 3 >>= _) _ _ _
  refine wpAny_bind (wpAny_field zz rfl (x := .ref TI) rfl ?_)
  refine wpAny_bind (wpAny_seqItems zi rfl ?_)
  show wpAny _ _ (Builtin.SmallTypes.ownedTupleIsFree (.ref z) >>= _) _ _ _
  refine wpAny_bind ?_
  unfold Builtin.SmallTypes.ownedTupleIsFree
  refine wpAny_bind (wpAny_field zz rfl (x := .none) rfl (wpAny_pure ?_))
  simp only [if_true]
  refine wpAny_bind (wpAny_rule ?_)
  refine wpAny_bind (wpAny_field zz rfl (x := .ref TO) rfl ?_)
  refine wpAny_bind (wpAny_setField_rec zz (by simp) fun k1 z1 s1 => ?_)
  replace z1 : IsZip k1 z TI TO .ellipsis := z1
  refine wpAny_bind ?_
  simp only [List.zipIdx_cons, List.zipIdx_nil, List.forIn_cons, List.forIn_nil]
  refine wpAny_bind (wpAny_bind (wpAny_onRaise ?_))
  show wpAny _ _ (Builtin.SmallTypes.nextOf (.ref i1) >>= _) _ _ _
  cases hx : xs[i]? with
  | none =>
    refine wpAny_bind (nx_end hh (g1.extBut s1.extBut D.a3) (hl1.extBut s1.extBut O1.o1) hx fun k2 e s2 he => ?_)
    obtain ⟨oe, q1, q2⟩ := he
    have z2 : IsZip k2 z TI TO .ellipsis := s2 _ _ D.a3.symm z1
    have ez : e ≠ z := fun q => by subst q; rw [z2] at q1; cases q1; simp at q2
    exact wpAny_setField_rec z2 (by simp) fun k3 _ s3 => hE k3 e (fun c o c1 _ c3 _ q => s3.extBut _ _ c1 (s2 _ _ c3 (s1.extBut _ _ c1 q))) ⟨oe, s3.extBut _ _ ez q1, q2⟩
  | some x =>
    have hy : ys[i]? = none := by rcases hend with q | q; rw [hx] at q; cases q; exact q
    refine wpAny_bind (nx_item (g1.extBut s1.extBut D.a3) (hl1.extBut s1.extBut O1.o1) hx fun k2 g12 s2 => wpAny_pure ?_)
    have zo2 : IsPair k2 TO a b := s2.extBut _ _ D.a8 (s1.extBut _ _ D.a2 zo)
    refine wpAny_bind (wpAny_seqItems zo2 rfl ?_)
    refine wpAny_bind (wpAny_updateSeq_pair zo2 fun k3 zo3 s3 => ?_)
    refine wpAny_bind (wpAny_letGo (wpAny_pure ?_))
    refine wpAny_bind (wpAny_bind (wpAny_onRaise ?_))
    show wpAny _ _ (Builtin.SmallTypes.nextOf (.ref i2) >>= _) _ _ _
    refine wpAny_bind (nx_end hh (((g2.extBut s1.extBut D.a4).extBut s2.extBut D.a0.symm).extBut s3.extBut D.a9.symm)
      (((hl2.extBut s1.extBut O2.o1).extBut s2.extBut O2.o3).extBut s3.extBut O2.o2) hy fun k4 e s4 he => ?_)
    obtain ⟨oe, q1, q2⟩ := he
    have z4 : IsZip k4 z TI TO .ellipsis := s4 _ _ D.a4.symm (s3.extBut _ _ D.a2.symm (s2.extBut _ _ D.a3.symm z1))
    have ez : e ≠ z := fun q => by subst q; rw [z4] at q1; cases q1; simp at q2
    exact wpAny_setField_rec z4 (by simp) fun k5 _ s5 => hE k5 e (fun c o c1 c2 c3 c4 q => s5.extBut _ _ c1 (s4 _ _ c4 (s3.extBut _ _ c2 (s2.extBut _ _ c3 (s1.extBut _ _ c1 q))))) ⟨oe, s5.extBut _ _ ez q1, q2⟩
theorem zs_next {z TI TO i1 i2 t1 t2 : Addr} {i : Nat} {xs ys : Array Value} {x y : Value} {Q : Option Value → Shared → Prop} (D : ZA z TI TO i1 i2) (O1 : ZO z TO i1 i2 t1) (O2 : ZO z TO i1 i2 t2)
    (Z : ZS s.heap z TI TO i1 i2 t1 t2 i .none) (hl1 : s.heap.IsTuple t1 xs) (hl2 : s.heap.IsTuple t2 ys) (hx : xs[i]? = some x) (hy : ys[i]? = some y)
    (hQ : ∀ h', ZS h' z TI TO i1 i2 t1 t2 (i + 1) (rawInt s.heap.objs.size) → IsPair h' s.heap.objs.size x y → h'.objs.size = s.heap.objs.size + 1 →
      (∀ c o, c ≠ z → c ≠ TO → c ≠ i1 → c ≠ i2 → s.heap.get? c = some o → h'.get? c = some o) → Q (some (.ref s.heap.objs.size)) { s with heap := h' }) :
    wpAny (model prog w) A (pyNext (.ref z)) Q E s := by
  have hT : s.TypeIs (.ref z) "zip" := ⟨_, Z.zip, rfl⟩
  unfold pyNext
  exact wpAny_bind (wpAny_attempt (wpAny_callSpecial?_slot (name := Str.ofString "__next__") hT PySem.F.slot_zip_next
    (wpAny_call_entry PySem.F.slot_zip_next hT PySem.F.entry_zip_next (zs_item D O1 O2 Z hl1 hl2 hx hy fun h' q1 q2 q3 q4 => wpAny_pure (hQ h' q1 q2 q3 q4)) (PySem.F.args_zip_next_1 _))))
theorem zs_stop {z TI TO i1 i2 t1 t2 : Addr} {i : Nat} {xs ys : Array Value} {Q : Option Value → Shared → Prop} (hh : A.handled = none) (D : ZA z TI TO i1 i2) (O1 : ZO z TO i1 i2 t1) (O2 : ZO z TO i1 i2 t2)
    (Z : ZS s.heap z TI TO i1 i2 t1 t2 i .none) (hl1 : s.heap.IsTuple t1 xs) (hl2 : s.heap.IsTuple t2 ys) (hend : xs[i]? = none ∨ ys[i]? = none)
    (hQ : ∀ h', (∀ c o, c ≠ z → c ≠ TO → c ≠ i1 → c ≠ i2 → s.heap.get? c = some o → h'.get? c = some o) → Q none { s with heap := h' }) : wpAny (model prog w) A (pyNext (.ref z)) Q E s := by
  have hT : s.TypeIs (.ref z) "zip" := ⟨_, Z.zip, rfl⟩
  unfold pyNext
  refine wpAny_bind (wpAny_attempt (wpAny_callSpecial?_slot (name := Str.ofString "__next__") hT PySem.F.slot_zip_next
    (wpAny_call_entry PySem.F.slot_zip_next hT PySem.F.entry_zip_next (zs_end hh D O1 O2 Z hl1 hl2 hend fun h' e kk he => ?_) (PySem.F.args_zip_next_1 _))))
  obtain ⟨o, q1, q2⟩ := he
  refine wpAny_bind (wpAny_isInstance (T := "StopIteration") (b := true) ⟨o, q1, q2⟩ isSubtype_stop ?_)
  exact wpAny_pure (hQ _ kk)
theorem zs_self {z TI TO i1 i2 t1 t2 : Addr} {i : Nat} {f0 : Value} {Q : Value → Shared → Prop} (Z : ZS s.heap z TI TO i1 i2 t1 t2 i f0) (h : Q (.ref z) s) : wpAny (model prog w) A (pyIter (.ref z)) Q E s := wpAny_pyIter_zip Z.zip h
end
abbrev zp1 (h : Heap) (l1 : Addr) : Heap := h.push { cls := .type "tuple_iterator", data := .fields #[.ref l1, .int 0 0] }
abbrev zp2 (h : Heap) (l1 l2 : Addr) : Heap := (zp1 h l1).push { cls := .type "tuple_iterator", data := .fields #[.ref l2, .int 0 0] }
abbrev zp3 (h : Heap) (l1 l2 : Addr) : Heap := (zp2 h l1 l2).push { cls := .type "tuple", data := .seq #[.ref h.objs.size, .ref (zp1 h l1).objs.size] }
abbrev zp4 (h : Heap) (l1 l2 : Addr) : Heap := (zp3 h l1 l2).push { cls := .type "tuple", data := .seq #[.none, .none] }
abbrev zp5 (h : Heap) (l1 l2 : Addr) : Heap := (zp4 h l1 l2).push { cls := .type "zip", data := .fields #[.none, .bool false, .bool false, .ref (zp2 h l1 l2).objs.size, .ref (zp3 h l1 l2).objs.size] }
theorem zip_made (l1 l2 : Addr) (xs ys : Array Value) :
    Meets (Builtin.«zip.__new__» ⟨[.type "zip", .ref l1, .ref l2], []⟩) (fun _ R s => s.heap.IsTuple l1 xs ∧ s.heap.IsTuple l2 ys ∧ R (.ok (.ret (.ref (zp4 s.heap l1 l2).objs.size))) { s with heap := zp5 s.heap l1 l2 }) :=
  .of_wp fun prog w A R s h => by
    obtain ⟨hp, g, d, tk, os⟩ := s
    obtain ⟨q1, q2, h⟩ := h
    have hsub := sub_zip
    have L1 : Heap.IsTuple (Shared.heap ⟨hp, g, d, tk, os⟩) l1 xs := q1
    have L2 : Heap.IsTuple (Shared.heap ⟨hp.push { cls := .type "tuple_iterator", data := .fields #[.ref l1, .int 0 0] }, g, d, tk, os⟩) l2 ys := Heap.IsTuple.push q2 _
    wp_walk using wpAny_pyIter_tuple L1, wpAny_pyIter_tuple L2
    exact ⟨_, rfl, h⟩
theorem call_zip {prog : Program} {w : World} {A : Around} {E : Value → Shared → Prop} {s : Shared} {l1 l2 : Addr} {xs ys : Array Value} {Q : Value → Shared → Prop} (hl1 : s.heap.IsTuple l1 xs) (hl2 : s.heap.IsTuple l2 ys)
    (h : ∀ h', ZS h' (s.heap.objs.size + 4) (s.heap.objs.size + 2) (s.heap.objs.size + 3) s.heap.objs.size (s.heap.objs.size + 1) l1 l2 0 .none → h'.objs.size = s.heap.objs.size + 5 →
      (∀ c o, s.heap.get? c = some o → h'.get? c = some o) → Q (.ref (s.heap.objs.size + 4)) { s with heap := h' }) : wpAny (model prog w) A (call (.type "zip") [.ref l1, .ref l2]) Q E s := by
  refine callType_new PySem.F.called_zip (by decide) (PySem.F.typeCall_zip_2 _ _) (PySem.F.newCall_zip_2 _ _) (fun obj => PySem.F.args_object_init_3 obj _ _) PySem.F.entry_zip_new (zip_made l1 l2 xs ys) ⟨hl1, hl2, ?_⟩
  have y1 : (zp1 s.heap l1).objs.size = s.heap.objs.size + 1 := Heap.size_push ..
  have y2 : (zp2 s.heap l1 l2).objs.size = s.heap.objs.size + 2 := by rw [Heap.size_push, y1]
  have y3 : (zp3 s.heap l1 l2).objs.size = s.heap.objs.size + 3 := by rw [Heap.size_push, y2]
  have y4 : (zp4 s.heap l1 l2).objs.size = s.heap.objs.size + 4 := by rw [Heap.size_push, y3]
  have y5 : (zp5 s.heap l1 l2).objs.size = s.heap.objs.size + 5 := by rw [Heap.size_push, y4]
  have x5 : (zp5 s.heap l1 l2).get? (zp4 s.heap l1 l2).objs.size = some _ := Heap.get?_push_size _ rfl
  have x4 : (zp5 s.heap l1 l2).get? (zp3 s.heap l1 l2).objs.size = some _ := Heap.get?_push_of_some _ (Heap.get?_push_size _ rfl)
  have x3 : (zp5 s.heap l1 l2).get? (zp2 s.heap l1 l2).objs.size = some _ := Heap.get?_push_of_some _ (Heap.get?_push_of_some _ (Heap.get?_push_size _ rfl))
  have x2 : (zp5 s.heap l1 l2).get? (zp1 s.heap l1).objs.size = some _ := Heap.get?_push_of_some _ (Heap.get?_push_of_some _ (Heap.get?_push_of_some _ (Heap.get?_push_size _ rfl)))
  have x1 : (zp5 s.heap l1 l2).get? s.heap.objs.size = some _ := Heap.get?_push_of_some _ (Heap.get?_push_of_some _ (Heap.get?_push_of_some _ (Heap.get?_push_of_some _ (Heap.get?_push_size _ rfl))))
  show _ ∧ _
  rw [y2, y3, y4] at x5
  rw [y1, y2] at x3
  rw [y3] at x4
  rw [y1] at x2
  rw [y4]
  exact ⟨⟨_, x5, rfl⟩, h _ ⟨x5, x3, ⟨_, _, x4⟩, ⟨_, x1, rfl, rfl⟩, ⟨_, x2, rfl, rfl⟩⟩ y5 fun c o q =>
    Heap.get?_push_of_some _ (Heap.get?_push_of_some _ (Heap.get?_push_of_some _ (Heap.get?_push_of_some _ (Heap.get?_push_of_some _ q))))⟩
end FT
namespace FT
open PySem PySem.Spec PyProof.Rows L2
theorem madeT {X : Cx} {pins : List (Addr × Obj)} {σ : L2.St} {H : Hp} {s : Shared} {ch : List Addr} {T : Addr} {vs : List V} {its : List Value} {h2 : Heap} {t : Nat} (I : L2.Inv X pins σ H s)
    (hf : ∀ b ∈ ch, FpOk X pins H b) (kp : ∀ b o, b ∉ ch → s.heap.get? b = some o → h2.get? b = some o) (hT : s.heap.objs.size ≤ T) (tup : IsTup0 h2 T its.toArray) (rv : Vals vs its) (hz : vs.length ≤ sizeLine) :
    L2.Inv X pins σ (upd H T (.tup vs)) { s with heap := h2, toks := t } := by
  have hn : H T = none := I.hok.fresh hT
  have ne : ∀ {b : Addr} {o : Obj}, s.heap.get? b = some o → b ≠ T := fun e => Nat.ne_of_lt (Nat.lt_of_lt_of_le (Heap.lt_size e) hT)
  refine I.step (g' := s.gens) (d' := s.drawn) (ch := ch) (fun b hb => ⟨(hf b hb).2.2.2.1, (hf b hb).2.1, (hf b hb).2.2.2.2.1, (hf b hb).2.2.2.2.2⟩) (fun b o _ _ hc e _ => kp b o hc e) (fun b o _ _ hc e _ => ⟨o.slots, kp b o hc e⟩)
    (fun b o _ e n => by rw [upd_ne (ne e)]; exact n) (fun b o hc e => ⟨o, kp b o hc e⟩) (fun b xs e => by rw [upd_ne (ne_of_none e hn)]; exact e) (fun b o u e => by rw [upd_ne (ne_of_none e hn)]; exact e)
    (fun b ps e => ⟨#[], by rw [upd_ne (ne_of_none e hn), e]; simp⟩) (fun m hm => ?_) (fun b u e => ?_) I.bare
  · obtain ⟨o, es, ep, q, r⟩ := hm
    exact ⟨o, es, ep, kp _ o (fun z => (hf _ z).2.1 rfl) q, r⟩
  · by_cases hb : b = T
    · subst hb
      rw [upd_same] at e
      cases e
      exact ⟨hz, its, rv, tup⟩
    · rw [upd_ne hb] at e
      refine (I.hok b u e).stay (fun c v hc q => kp c v (fun z => ?_) q) (fun c q => ?_) fun c xs q => ?_
      · rcases hc with y | y
        · rw [y] at z; rw [(hf b z).1] at e; cases e
        · rw [(hf c z).1] at y; cases y
      · rw [upd_ne (ne_of_none q hn)]; exact q
      · rw [upd_ne (ne_of_none q hn)]; exact q
def Itz (K : PySem.W.Frag) (t1 t2 : Addr) : It :=
  ⟨fun i H => ∃ xs ys x y, SqT K H t1 xs ∧ SqT K H t2 ys ∧ xs[i]? = some x ∧ ys[i]? = some y,
   fun i H v H' => ∃ T x y, H T = none ∧ v = .ref T ∧ (∀ xs, SqT K H t1 xs → xs[i]? = some x) ∧ (∀ ys, SqT K H t2 ys → ys[i]? = some y) ∧ H' = upd H T (.tup [x, y]),
   fun i H => ∃ xs ys, SqT K H t1 xs ∧ SqT K H t2 ys ∧ (xs.length ≤ i ∨ ys.length ≤ i)⟩
theorem turn_zip {P : Program} {w : World} {K : PySem.W.Frag} {elts : List Expr} {kk : Nat} {pos : Pos} {z TI TO i1 i2 t1 t2 : Addr} (D : ZA z TI TO i1 i2) (O1 : ZO z TO i1 i2 t1) (O2 : ZO z TO i1 i2 t2) :
    Turn P w K (.Tuple elts kk pos) (Itz K t1 t2) [z, TI, TO, i1, i2] z (fun i h => ZS h z TI TO i1 i2 t1 t2 i .none) where
  mem := by simp
  obj := fun i h st b hb => by
    obtain ⟨zz, zi, ⟨a, b', zo⟩, g1, g2⟩ := st
    obtain ⟨o1, e1, _, d1⟩ := g1
    obtain ⟨o2, e2, _, d2⟩ := g2
    simp at hb
    rcases hb with rfl | rfl | rfl | rfl | rfl
    · exact ⟨_, zz, fun v q => by cases q⟩
    · exact ⟨_, zi, fun v q => by cases q⟩
    · exact ⟨_, zo, fun v q => by cases q⟩
    · exact ⟨_, e1, fun v q => by rw [d1] at q; cases q⟩
    · exact ⟨_, e2, fun v q => by rw [d2] at q; cases q⟩
  keep := fun i h h' st k => by
    obtain ⟨zz, zi, ⟨a, b', zo⟩, g1, g2⟩ := st
    exact ⟨k z (by simp) _ zz, k TI (by simp) _ zi, ⟨a, b', k TO (by simp) _ zo⟩, g1.at fun o e => k i1 (by simp) o e, g2.at fun o e => k i2 (by simp) o e⟩
  item := by
    intro X hP hw hK hc i pins s σ H E I hf st hg
    subst hP hw hK
    obtain ⟨xs, ys, x, y, q1, q2, hx, hy⟩ := hg
    obtain ⟨its1, rv1, p1, z1⟩ := I.tuple q1
    obtain ⟨its2, rv2, p2, z2⟩ := I.tuple q2
    obtain ⟨u1, hu1, ru1⟩ := rv1.get hx
    obtain ⟨u2, hu2, ru2⟩ := rv2.get hy
    refine zs_next D O1 O2 st (show s.heap.IsTuple t1 its1.toArray from p1) (show s.heap.IsTuple t2 its2.toArray from p2) (x := u1) (y := u2) (by simpa using hu1) (by simpa using hu2) fun h' Z' pr sz kp => ?_
    refine ⟨_, rfl, wpAny_letOwnedTupleGo_zip Z'.zip fun h2 zz2 sb => ?_⟩
    have nT : ∀ b ∈ [z, TI, TO, i1, i2], H b = none := fun b hb => (hf b hb).1
    have zlt : z < s.heap.objs.size := Heap.lt_size st.zip
    have lt5 : ∀ b ∈ [z, TI, TO, i1, i2], b < s.heap.objs.size := fun b hb => by
      obtain ⟨zz, zi, ⟨a, b', zo⟩, g1, g2⟩ := st
      obtain ⟨o1, e1, _, d1⟩ := g1
      obtain ⟨o2, e2, _, d2⟩ := g2
      simp at hb
      rcases hb with rfl | rfl | rfl | rfl | rfl
      · exact Heap.lt_size zz
      · exact Heap.lt_size zi
      · exact Heap.lt_size zo
      · exact Heap.lt_size e1
      · exact Heap.lt_size e2
    have hT : IsTup0 h2 s.heap.objs.size [u1, u2].toArray := ⟨_, (sb.2 _ (Nat.ne_of_gt zlt)).trans pr, ⟨rfl, rfl⟩, _, rfl⟩
    have J := madeT (t := s.toks) (ch := [z, TO, i1, i2]) (T := s.heap.objs.size) (vs := [x, y]) (its := [u1, u2]) (h2 := h2) I (fun b hb => hf b (by simp at hb ⊢; rcases hb with q | q | q | q <;> simp [q]))
      (fun b o hb e => by simp at hb; exact (sb.2 b hb.1).trans (kp b o hb.1 hb.2.1 hb.2.2.1 hb.2.2.2 e)) (Nat.le_refl _) hT (.cons ru1 (.cons ru2 .nil)) (by show 2 ≤ sizeLine; decide)
    refine ⟨.ref s.heap.objs.size, _, J, rfl, ⟨_, x, y, I.hok.fresh (Nat.le_refl _), rfl, fun xs' h' => by rw [I.tuple_inj h' q1]; exact hx, fun ys' h' => by rw [I.tuple_inj h' q2]; exact hy, rfl⟩, ?_, fun b hb => ?_⟩
    · obtain ⟨zz, zi, ⟨a, b', zo⟩, g1, g2⟩ := Z'
      exact ⟨zz2, (sb.2 _ D.a1).trans zi, ⟨a, b', (sb.2 _ D.a2).trans zo⟩, g1.at fun o e => (sb.2 _ D.a3).trans e, g2.at fun o e => (sb.2 _ D.a4).trans e⟩
    · rw [upd_ne (Nat.ne_of_lt (lt5 b hb))]; exact nT b hb
  done := by
    intro X hP hw hK hc i pins s σ H E I hf st hg
    subst hP hw hK
    obtain ⟨xs, ys, q1, q2, hl⟩ := hg
    obtain ⟨its1, rv1, p1, z1⟩ := I.tuple q1
    obtain ⟨its2, rv2, p2, z2⟩ := I.tuple q2
    have l1 := rv1.length
    have l2 := rv2.length
    refine zs_stop (I.ok.hd hc) D O1 O2 st (show s.heap.IsTuple t1 its1.toArray from p1) (show s.heap.IsTuple t2 its2.toArray from p2) ?_ fun h' kp => ⟨rfl, ?_⟩
    · rcases hl with q | q
      · exact .inl (by simp; omega)
      · exact .inr (by simp; omega)
    · have hf' : ∀ b ∈ [z, TO, i1, i2], FpOk X pins H b := fun b hb => hf b (by simp at hb ⊢; rcases hb with q | q | q | q <;> simp [q])
      refine I.step (g' := s.gens) (t' := s.toks) (d' := s.drawn) (ch := [z, TO, i1, i2]) (fun b hb => ⟨(hf' b hb).2.2.2.1, (hf' b hb).2.1, (hf' b hb).2.2.2.2.1, (hf' b hb).2.2.2.2.2⟩) (fun b o _ _ hc e _ => ?_) (fun b o _ _ hc e _ => ⟨o.slots, ?_⟩)
        (fun _ _ _ _ n => n) (fun b o hc e => ⟨o, ?_⟩) (fun _ _ e => e) (fun _ _ _ e => e) (fun b ps e => ⟨#[], by rw [e]; simp⟩) (fun m hm => ?_) (fun b u e => ?_) I.bare
      · simp at hc; exact kp b o hc.1 hc.2.1 hc.2.2.1 hc.2.2.2 e
      · simp at hc; exact kp b o hc.1 hc.2.1 hc.2.2.1 hc.2.2.2 e
      · simp at hc; exact kp b o hc.1 hc.2.1 hc.2.2.1 hc.2.2.2 e
      · obtain ⟨o, es, ep, q, r⟩ := hm
        exact ⟨o, es, ep, kp _ o (fun y => (hf' z (by simp)).2.1 y.symm) (fun y => (hf' TO (by simp)).2.1 y.symm) (fun y => (hf' i1 (by simp)).2.1 y.symm) (fun y => (hf' i2 (by simp)).2.1 y.symm) q, r⟩
      · refine (I.hok b u e).stay (fun c v hc q => ?_) (fun _ q => q) fun _ _ q => q
        have tr : ∀ d ∈ [z, TO, i1, i2], c ≠ d := fun d hd y => by
          subst y
          rcases hc with y | y
          · rw [← y, (hf' c hd).1] at e; cases e
          · rw [(hf' c hd).1] at y; cases y
        exact kp c v (tr z (by simp)) (tr TO (by simp)) (tr i1 (by simp)) (tr i2 (by simp)) q
  self := fun _ _ _ _ _ st h => zs_self st h
section
variable {X : Cx} {EX : XX} {a b : Expr} {elts : List Expr} {kk : Nat} {p pos pt : Pos} {ma mb : G → M D}
theorem za_new (n : Nat) : ZA (n + 4) (n + 2) (n + 3) n (n + 1) := by
  constructor <;> (intro h; have h' : (_ : Nat) = (_ : Nat) := h; omega)
theorem zo_new (n t : Nat) (h : t < n) : ZO (n + 4) (n + 3) n (n + 1) t := by
  constructor <;> (intro h; have h' : (_ : Nat) = (_ : Nat) := h; omega)
def iZipT (K : PySem.W.Frag) (ta : TA) : TI := fun σ H R => ta σ H fun vs H2 => ∃ t1 t2 xs ys, vs = [.ref t1, .ref t2] ∧ SqT K H2 t1 xs ∧ SqT K H2 t2 ys ∧ R (Itz K t1 t2) H2
theorem pi_zip {ta : TA} (hg : Gl X "zip") (hm : X.mg "zip" = none) (ha : PA X [a, b] ta)
    (hs : starEach [a, b] X.env = [(false, eval a X.env), (false, eval b X.env)] := by rfl) (hs2 : starEach [b] X.env = [(false, eval b X.env)] := by rfl) : PI X (.Tuple elts kk pt) (.Call (.Name "zip" p) [a, b] [] pos) (iZipT X.K ta) := by
  intro pins s σ H R I h
  refine Call_ (ld_blt I hg hm boot_zip (PyProof.Rows.callWith_type1 (thn (ha pos pins s σ H _ I h) fun us s1 ⟨vs, H1, I1, r1, q1⟩ => ?_) (by rw [hs, hs2]) (by rw [hs2]; rfl)))
  obtain ⟨t1, t2, xs, ys, e, q2, q3, q⟩ := q1
  subst e
  cases r1 with
  | cons r rr =>
    cases rr with
    | cons r' rr =>
      cases rr
      cases r
      cases r'
      obtain ⟨its1, rv1, p1, z1⟩ := I1.tuple q2
      obtain ⟨its2, rv2, p2, z2⟩ := I1.tuple q3
      refine call_zip (show s1.heap.IsTuple t1 its1.toArray from p1) (show s1.heap.IsTuple t2 its2.toArray from p2) fun h' Z sz kp => ?_
      refine zs_self (s := { s1 with heap := h' }) Z ?_
      have lt1 : t1 < s1.heap.objs.size := by obtain ⟨o, e, _⟩ := p1; exact Heap.lt_size e
      have lt2 : t2 < s1.heap.objs.size := by obtain ⟨o, e, _⟩ := p2; exact Heap.lt_size e
      refine ⟨s1.heap.objs.size + 4, _, _, _, H1, rfl, I1.kept (t' := s1.toks) kp, turn_zip (za_new _) (t1 := t1) (t2 := t2) (zo_new _ _ lt1) (zo_new _ _ lt2), Z, fun b hb => ?_, q⟩
      have hb' : s1.heap.objs.size ≤ b := by
        simp at hb
        rcases hb with rfl | rfl | rfl | rfl | rfl
        · exact Nat.le_add_right _ _
        · exact Nat.le_add_right _ _
        · exact Nat.le_add_right _ _
        · exact Nat.le_refl _
        · exact Nat.le_add_right _ _
      exact I1.fpOk hb' (I1.hok.fresh hb')
def zipD (xs ys : List D) : List D := List.zipWith (fun a b => .tup [a, b]) xs ys
def iZip (ma mb : G → M D) : G → M Src := fun γ => do
  let l ← aCons ma (aCons mb aNil) γ
  match l with
  | [.tup xs, .tup ys] => pure (.con (zipD xs ys))
  | _ => bad
theorem zip_at {xs ys : List D} {i : Nat} {d : D} (h : (zipD xs ys)[i]? = some d) : ∃ x y, xs[i]? = some x ∧ ys[i]? = some y ∧ d = .tup [x, y] := by
  unfold zipD at h
  rw [List.getElem?_zipWith] at h
  cases e1 : xs[i]? with
  | none => rw [e1] at h; cases h
  | some x =>
    cases e2 : ys[i]? with
    | none => rw [e1, e2] at h; cases h
    | some y => rw [e1, e2] at h; cases h; exact ⟨x, y, rfl, rfl, rfl⟩
theorem si_zip (hc : X.calm = true) (hg : Gl X "zip") (hm : X.mg "zip" = none) (ha : SE X EX a ma) (hb : SE X EX b mb)
    (hs : starEach [a, b] X.env = [(false, eval a X.env), (false, eval b X.env)] := by rfl) (hs2 : starEach [b] X.env = [(false, eval b X.env)] := by rfl) : SI X EX (.Tuple elts kk pt) (.Call (.Name "zip" p) [a, b] [] pos) (iZip ma mb) :=
  ⟨PI.imp (pi_zip hg hm (sa_cons ha (sa_cons hb sa_nil hs2) (by rw [hs, hs2])).h hs hs2) fun σ H R ⟨ρ, γ, h, rel, fin⟩ => ⟨ρ, γ, h, rel, (Fin.bind fin).mono fun l ρ1 h1 H1 p1 e1 r1 f1 vs rv => by
    split at f1
    · rename_i xs ys
      simp only [RDs, RD] at rv
      obtain ⟨_, _, rfl, ⟨t1, us, rfl, q1, d1⟩, _, _, rfl, ⟨t2, ws, rfl, q2, d2⟩, rfl⟩ := rv
      refine ⟨t1, t2, us, ws, rfl, q1, q2, f1 ρ1 H1 (Pre.refl _) (Ext.refl _ _) r1 _ fun i ρ2 h4 H2 p2 e2 r2 _ => ⟨fun d hd => ?_, fun hi => ?_⟩⟩
      · have hd' : (zipD xs ys)[i]? = some d := hd
        obtain ⟨x, y, g1, g2, rfl⟩ := zip_at hd'
        obtain ⟨v1, a1, b1⟩ := (d1.mono p2 e2).get g1
        obtain ⟨v2, a2, b2⟩ := (d2.mono p2 e2).get g2
        refine ⟨⟨us, ws, v1, v2, e2.t _ _ q1, e2.t _ _ q2, a1, a2⟩, fun v H3 ⟨T, x', y', n1, n2, n3, n4, n5⟩ => ?_⟩
        have m1 := n3 us (e2.t _ _ q1)
        have m2 := n4 ws (e2.t _ _ q2)
        rw [a1] at m1; cases m1
        rw [a2] at m2; cases m2
        subst n2; subst n5
        have ext : Ext X.K H2 (L2.upd H2 T (.tup [v1, v2])) := Ext.upd (.inl n1)
        refine ⟨?_, r2.other n1, ext⟩
        simp only [RD]
        exact ⟨T, _, rfl, SqT.of upd_same, RDs.cons (b1.mono (Pre.refl _) ext) (RDs.cons (b2.mono (Pre.refl _) ext) RDs.nil)⟩
      · have hi' : (zipD xs ys).length = i := hi
        unfold zipD at hi'
        rw [List.length_zipWith] at hi'
        have l1 := d1.length
        have l2 := d2.length
        exact ⟨us, ws, e2.t _ _ q1, e2.t _ _ q2, by omega⟩
    · exact (show False from f1).elim⟩⟩
end
end FT
namespace FT
open PySem PySem.Spec PyProof.Rows L2
section
variable {X : Cx} {EX : XX} {a b : Expr} {tg : Expr} {p pos p2 : Pos} {ma mb : G → M D}
theorem tup_whole {A : Around} {E : Value → Shared → Prop} {s : Shared} {t sl : Addr} {items : Array Value} {vl vu : Value} {lo hi : Option Int} {Q : Value → Shared → Prop} (ht : IsTup s.heap t items) (hs : s.heap.IsSliceOf sl vl vu .none) (pl : IsPart vl lo) (pu : IsPart vu hi)
    (hw : HT.sIx items.size 0 lo = 0 ∧ HT.sIx items.size items.size hi = items.size) (h : Q (.ref t) s) : wpAny (model X.prog X.w) A (getItem (.ref t) (.ref sl)) Q E s := by
  obtain ⟨os, hos, hcs, hds⟩ := id hs
  have hTs : s.TypeIs (.ref sl) "slice" := ⟨os, hos, hcs⟩
  unfold getItem
  try with_reducible refine wpAny_holding ?_
  first | refine wpAny_bind (wpAny_pure ?_) | skip
  refine wpAny_bind (wpAny_sequenceKey ht.typeIs (by decide) ?_)
  refine wpAny_bind (wpAny_callSpecial?_slot (name := Str.ofString "__getitem__") ht.typeIs PyProof.Rows.slot_tuple_getitem
    (wpAny_call_entry PyProof.Rows.slot_tuple_getitem ht.typeIs entry_tuple_getitem ?_ (args_tuple_getitem _ _)))
  show wpAny _ _ (Builtin.Tuple.tupleItemsOf (.ref t) >>= _) _ _ s
  refine wpAny_bind (tupleItemsOf_ ht ?_)
  refine wpAny_bind (wpAny_typeOf hTs ?_)
  rw [if_pos (by decide)]
  refine wpAny_bind (HT.sliceApplied_gen hs pl pu ?_)
  have yes : ((((HT.sIx items.size 0 lo : Nat) : Int) == 0 && (1 : Int) == 1 && (HT.sIx items.size items.size hi - HT.sIx items.size 0 lo) == items.size) = true) := by
    rw [hw.1, hw.2]; simp
  show wpAny _ _ (if (((HT.sIx items.size 0 lo : Nat) : Int) == 0 && (1 : Int) == 1 && (HT.sIx items.size items.size hi - HT.sIx items.size 0 lo) == items.size) = true then _ else _) _ _ s
  rw [if_pos yes]
  refine wpAny_bind (m := Builtin.Tuple.tupleIsExact (.ref t)) ?_
  unfold Builtin.Tuple.tupleIsExact
  refine wpAny_bind (wpAny_typeOf ht.typeIs (wpAny_pure ?_))
  rw [if_pos (by decide)]
  exact wpAny_bind (wpAny_rule (wpAny_pure ⟨_, rfl, wpAny_pure h⟩))
def rSlW (K : PySem.W.Frag) : V → Option Int → Option Int → Hp → VK → Prop := fun x lo hi H Q => ∃ a xs, x = .ref a ∧ SqT K H a xs ∧ (HT.sIx xs.length 0 lo = 0 ∧ HT.sIx xs.length xs.length hi = xs.length) ∧ Q (.ref a) H
theorem sl_whole : SlR X (rSlW X.K) := by
  intro pins s σ H x v vl vu lo hi sl Q I rx hs pl pu h
  obtain ⟨a, xs, rfl, hx, hw, q⟩ := h
  cases rx
  obtain ⟨its, r, ht, hz⟩ := I.tuple hx
  have hlen : its.toArray.size = xs.length := by rw [List.size_toArray]; exact r.length.symm
  exact ⟨"tuple", _, PyProof.Rows.slot_tuple_getitem.lookup, ht.typeIs, tup_whole ht hs pl pu (by rw [hlen]; exact hw) ⟨.ref a, H, I, rfl, q⟩⟩
def cutD (xs : List D) (lo hi : Option Int) : List D := (xs.drop (HT.sIx xs.length 0 lo)).take (HT.sIx xs.length xs.length hi - HT.sIx xs.length 0 lo)
theorem cut_rel {K : PySem.W.Frag} {ρ : List Addr} {H : Hp} {ds : List D} {xs : List V} (h : RDs K ρ H ds xs) (lo hi : Option Int) : RDs K ρ H (cutD ds lo hi) (cutV xs lo hi) := by
  unfold cutD cutV
  rw [h.length]
  exact (h.drop _).take _
def fSl : D → Option Int → Option Int → M D
  | .tup xs, lo, hi => pure (.tup (cutD xs lo hi))
  | .fl xs, lo, hi => newL (cutD xs lo hi)
  | .ref n, lo, hi => do
    let xs ← getL n
    newL (cutD xs lo hi)
  | _, _, _ => bad
def tO (K : PySem.W.Frag) (EX : XX) (m : G → M (Option Int)) : TO := fun σ H Q => ∃ ρ γ h, Rel K ρ γ h σ H ∧ Fin K EX ρ H (fun o _ _ H' => Q o H') (m γ h)
structure SO (X : Cx) (EX : XX) (e : Option Expr) (m : G → M (Option Int)) : Prop where
  h : PO X e (tO X.K EX m)
theorem PO.imp {X : Cx} {e : Option Expr} {t t' : TO} (h : PO X e t) (f : ∀ σ H Q, t' σ H Q → t σ H Q) : PO X e t' := fun pins s σ H Q I z => h pins s σ H Q I (f σ H Q z)
def oNone : G → M (Option Int) := fun _ => pure none
def oSome (ma : G → M D) : G → M (Option Int) := fun γ => do
  let x ← ma γ
  match x with
  | .int i => pure (some i)
  | _ => bad
theorem so_none : SO X EX none oNone := ⟨PO.imp po_none fun σ H Q ⟨ρ, γ, h, rel, fin⟩ => fin ρ H (Pre.refl _) (Ext.refl _ _) rel.h⟩
theorem so_some (ha : SE X EX a ma) : SO X EX (some a) (oSome ma) := ⟨PO.imp (po_some ha.h) fun σ H Q ⟨ρ, γ, h, rel, fin⟩ => ⟨ρ, γ, h, rel, (Fin.bind fin).mono fun x ρ1 h1 H1 p1 e1 r1 f1 v rv => by
  cases x <;> first | exact (show False from f1).elim | skip
  rename_i i
  simp only [RD] at rv
  exact ⟨i, rv, f1 ρ1 H1 (Pre.refl _) (Ext.refl _ _) r1⟩⟩⟩
def eSlice (ma : G → M D) (ml mh : G → M (Option Int)) : G → M D := fun γ => do
  let x ← ma γ
  let lo ← ml γ
  let hi ← mh γ
  fSl x lo hi
theorem sl_rel {ρ : List Addr} {h : AH} {H : Hp} {x : D} {v : V} {lo hi : Option Int} {Q : VK} (r : RH X.K ρ h H) (rx : RD X.K ρ H x v) (fin : FE X.K EX ρ H Q (fSl x lo hi h)) : rSlL X.K v lo hi H Q ∨ rSlT X.K v lo hi H Q ∨ rSlW X.K v lo hi H Q := by
  cases x <;> first | exact (show False from fin).elim | skip
  case tup xs =>
    have rx' := rx
    simp only [RD] at rx
    obtain ⟨q, vs, rfl, h1, h2⟩ := rx
    have fin' : FE X.K EX ρ H Q (.ok (.tup (cutD xs lo hi)) h) := fin
    by_cases hw : HT.sIx vs.length 0 lo = 0 ∧ HT.sIx vs.length vs.length hi = vs.length
    · refine .inr (.inr ⟨q, vs, rfl, h1, hw, FE.here fin' r ?_⟩)
      have e : cutD xs lo hi = xs := by
        unfold cutD
        rw [h2.length, hw.1, hw.2, List.drop_zero, Nat.sub_zero, ← h2.length, List.take_length]
      rw [e]; exact rx'
    · exact .inr (.inl ⟨q, vs, rfl, h1, hw, fun p hp => FE.tup fin' r (cut_rel h2 lo hi) hp⟩)
  case fl xs =>
    simp only [RD] at rx
    obtain ⟨q, vs, rfl, h1, h2⟩ := rx
    have fin' : FE X.K EX ρ H Q (newL (cutD xs lo hi) h) := fin
    unfold newL at fin'
    split at fin'
    · exact .inl ⟨q, vs, rfl, h1.sq, fun p hp => FE.lst fin' r (cut_rel h2 lo hi) hp⟩
    · exact fin'.elim
  case ref n =>
    simp only [RD] at rx
    obtain ⟨q, rfl, h1⟩ := rx
    have fin' : FE X.K EX ρ H Q ((getL n >>= fun xs => newL (cutD xs lo hi)) h) := fin
    have f1 := Fin.bind fin'
    cases e : getL n h with
    | bad => rw [e] at f1; exact f1.elim
    | err z hz => exact (getL_no e).elim
    | ok xs h2 =>
      obtain ⟨rfl, q1⟩ := getL_ok e
      rw [e] at f1
      have f2 := f1 ρ H (Pre.refl _) (Ext.refl _ _) r
      dsimp only at f2
      unfold newL at f2
      split at f2
      · obtain ⟨a1, n1, vs, o1, d1⟩ := r.at q1
        rw [h1] at n1; cases n1
        exact .inl ⟨q, vs, rfl, SqL.of o1, fun p hp => FE.lst f2 r (cut_rel d1 lo hi) hp⟩
      · exact f2.elim
theorem se_slice {lo hi : Option Expr} {ml mh : G → M (Option Int)} (ha : SE X EX a ma) (hl : SO X EX lo ml) (hh : SO X EX hi mh) : SE X EX (.Subscript a (.Slice lo hi none p2) pos) (eSlice ma ml mh) :=
  ⟨PE.imp (pe_slice (sl_list.or (sl_tup.or sl_whole)) ha.h hl.h hh.h) fun σ H Q ⟨ρ, γ, h, rel, fin⟩ => ⟨ρ, γ, h, rel, (Fin.bind fin).mono fun x ρ1 h1 H1 p1 e1 r1 f1 v rv => ⟨ρ1, γ, h1, ⟨rel.g.mono p1 e1, r1⟩, (Fin.bind f1).mono fun l ρ2 h2 H2 p2 e2 r2 f2 =>
    ⟨ρ2, γ, h2, ⟨(rel.g.mono p1 e1).mono p2 e2, r2⟩, (Fin.bind f2).mono fun u ρ3 h3 H3 p3 e3 r3 f3 => sl_rel r3 ((rv.mono p2 e2).mono p3 e3) f3⟩⟩⟩⟩
end
end FT
namespace FT
open PySem PySem.Spec PyProof.Rows L2
def leS (a b : Str) : Bool := !decide (b.cps.toList < a.cps.toList)
theorem leS_trans {a b c : Str} (h1 : leS a b = true) (h2 : leS b c = true) : leS a c = true := by
  simp only [leS, Bool.not_eq_true', decide_eq_false_iff_not] at *
  exact List.not_lt.mpr (List.le_trans (List.not_lt.mp h1) (List.not_lt.mp h2))
theorem leS_total (a b : Str) : (leS a b || leS b a) = true := by
  simp only [leS, Bool.or_eq_true, Bool.not_eq_true', decide_eq_false_iff_not]
  rcases List.le_total a.cps.toList b.cps.toList with h | h
  · exact .inl (List.not_lt.mpr h)
  · exact .inr (List.not_lt.mpr h)
theorem str_ext {a b : Str} (h : a.cps.toList = b.cps.toList) : a = b := by
  cases a; cases b
  congr 1
  exact Array.toList_inj.mp h
theorem leS_anti {a b : Str} (h1 : leS a b = true) (h2 : leS b a = true) : a = b := by
  simp only [leS, Bool.not_eq_true', decide_eq_false_iff_not] at *
  exact str_ext (List.le_antisymm (List.not_lt.mp h1) (List.not_lt.mp h2))
def sortS (l : List Str) : List Str := l.mergeSort leS
theorem sortS_perm (l : List Str) : (sortS l).Perm l := List.mergeSort_perm l leS
theorem sortS_pw (l : List Str) : (sortS l).Pairwise (fun a b => leS a b = true) := List.pairwise_mergeSort (le := leS) (fun a b c h1 h2 => leS_trans h1 h2) leS_total l
theorem rising_pw : ∀ (p : Str) (l : List Str), risingS p l = true → (p :: l).Pairwise (fun a b => leS a b = true)
  | p, [], _ => by simp
  | p, x :: r, h => by
    have h' : (!ltCps x.cps.toList p.cps.toList && risingS x r) = true := h
    rw [Bool.and_eq_true, ltCps_eq] at h'
    have ih := rising_pw x r h'.2
    have px : leS p x = true := h'.1
    refine List.pairwise_cons.mpr ⟨fun y hy => ?_, ih⟩
    rcases List.mem_cons.mp hy with rfl | hy
    · exact px
    · exact leS_trans px ((List.pairwise_cons.mp ih).1 y hy)
theorem sortS_eq {l l' : List Str} (p : l'.Perm l) (h : sortedS l' = true) : l' = sortS l := by
  have pw : l'.Pairwise (fun a b => leS a b = true) := by
    cases l' with
    | nil => exact .nil
    | cons x r => exact rising_pw x r h
  exact List.Perm.eq_of_pairwise (fun a b _ _ => leS_anti) pw (sortS_pw l) (p.trans (sortS_perm l).symm)
def leI (a b : Int) : Bool := decide (a ≤ b)
def sortI (l : List Int) : List Int := l.mergeSort leI
theorem sortI_perm (l : List Int) : (sortI l).Perm l := List.mergeSort_perm l leI
theorem sortI_pw (l : List Int) : (sortI l).Pairwise (fun a b => a ≤ b) := by
  have := List.pairwise_mergeSort (le := leI) (fun a b c h1 h2 => by simp only [leI, decide_eq_true_eq] at *; omega) (fun a b => by simp only [leI, Bool.or_eq_true, decide_eq_true_eq]; omega) l
  exact this.imp fun h => by simpa [leI] using h
theorem sortI_eq {l l' : List Int} (p : l'.Perm l) (h : l'.Pairwise (· ≤ ·)) : l' = sortI l :=
  List.Perm.eq_of_pairwise (fun a b _ _ h1 h2 => Int.le_antisymm h1 h2) h (sortI_pw l) (p.trans (sortI_perm l).symm)
def strsD : List D → Option (List Str)
  | [] => some []
  | .str b :: r => (strsD r).map (b :: ·)
  | _ :: _ => none
def numsD : List D → Option (List Int)
  | [] => some []
  | .int b :: r => (numsD r).map (b :: ·)
  | _ :: _ => none
def fSorted : List D → M D
  | [.ref n] => do
    let xs ← getL n
    if xs.length < 64 then (match strsD xs with
      | some ss => newL ((sortS ss).map .str)
      | none => (match numsD xs with
        | some ns => newL ((sortI ns).map .int)
        | none => bad)) else bad
  | _ => bad
theorem strs_rel {K : PySem.W.Frag} {ρ : List Addr} {H : Hp} : ∀ {xs : List D} {bs : List Str} {vs : List V}, strsD xs = some bs → RDs K ρ H xs vs → vs = bs.map V.str
  | [], bs, vs, e, r => by simp only [RDs] at r; cases e; subst r; rfl
  | x :: xs, bs, vs, e, r => by
    simp only [RDs] at r
    obtain ⟨v, r2, rfl, h1, h2⟩ := r
    cases x <;> first | (simp only [strsD] at e; cases e; done) | skip
    rename_i b
    simp only [strsD] at e
    obtain ⟨bs', e1, rfl⟩ := Option.map_eq_some_iff.mp e
    simp only [RD] at h1
    subst h1
    rw [strs_rel e1 h2]; rfl
theorem nums_rel {K : PySem.W.Frag} {ρ : List Addr} {H : Hp} : ∀ {xs : List D} {bs : List Int} {vs : List V}, numsD xs = some bs → RDs K ρ H xs vs → vs = bs.map V.int
  | [], bs, vs, e, r => by simp only [RDs] at r; cases e; subst r; rfl
  | x :: xs, bs, vs, e, r => by
    simp only [RDs] at r
    obtain ⟨v, r2, rfl, h1, h2⟩ := r
    cases x <;> first | (simp only [numsD] at e; cases e; done) | skip
    rename_i b
    simp only [numsD] at e
    obtain ⟨bs', e1, rfl⟩ := Option.map_eq_some_iff.mp e
    simp only [RD] at h1
    subst h1
    rw [nums_rel e1 h2]; rfl
theorem strs_are : ∀ {bs : List Str} {us : List Value}, Vals (bs.map V.str) us → StrsAre us bs
  | [], us, h => by cases h; exact .nil
  | b :: bs, us, h => by
    cases h with
    | cons h1 h2 => obtain ⟨t, rfl⟩ := h1; exact .cons b t (strs_are h2)
theorem are_strs : ∀ {us : List Value} {bs : List Str}, StrsAre us bs → Vals (bs.map V.str) us
  | _, _, .nil => .nil
  | _, _, .cons y t r => .cons ⟨t, rfl⟩ (are_strs r)
theorem are_ints : ∀ {us : List Value} {bs : List Int}, IntsAre us bs → Vals (bs.map V.int) us := fun h => vals_ints h
section
variable {X : Cx} {EX : XX} {a : Expr} {p pos : Pos} {mr : G → M (List D)}
theorem call_sorted : CallR X (.builtin "sorted") (fun xs H Q => ∃ l ys, xs = [.ref l] ∧ SqL X.K H l ys ∧ ys.length < 64 ∧
    ((∃ ss, ys = ss.map V.str ∧ ∀ q, H q = none → Q (.ref q) (upd H q (.lst ((sortS ss).map V.str)))) ∨ (∃ ns, ys = ns.map V.int ∧ ∀ q, H q = none → Q (.ref q) (upd H q (.lst ((sortI ns).map V.int)))))) := by
  intro pins s σ H xs us Q I r h
  obtain ⟨l, ys, rfl, hq, h64, h⟩ := h
  obtain ⟨u, rfl, ru⟩ := vals1 r
  cases ru
  obtain ⟨its, rv, pl, hz⟩ := I.list hq
  have hl := rv.length
  have fin : ∀ (out : Array Value) (zs : List V), Vals zs out.toList → zs.length = ys.length → (∀ q, H q = none → Q (.ref q) (upd H q (.lst zs))) → EP X pins σ Q (.ref (s.heap.objs.size + 1)) { s with heap := sortedAll s.heap its out } := fun out zs h1 h2 h3 => by
    obtain ⟨e, he⟩ := sortedAll_at s.heap its out
    refine ⟨.ref (s.heap.objs.size + 1), _, I.laid (t' := s.toks) (o := .lst zs) (fun b o q => sortedAll_old q) (Nat.le_succ _) ⟨by omega, out.toList, e, h1, ?_⟩, rfl, h3 _ (I.hok.fresh (Nat.le_succ _))⟩
    rw [he]
  rcases h with ⟨ss, rfl, h⟩ | ⟨ns, rfl, h⟩
  · refine sorted_strs pl.isList (strs_are rv) (by omega) fun out ss' h1 h2 h3 => ?_
    have e := sortS_eq h2 h3
    subst e
    exact fin out _ (are_strs h1) (by rw [List.length_map, List.length_map, h2.length_eq]) h
  · have hi : IntsAre its ns := L2.intsAre_of rv
    refine sorted_ints pl.isList hi (by omega) fun out ns' h1 h2 h3 => ?_
    have e := sortI_eq h2 h3
    subst e
    exact fin out _ (are_ints h1) (by rw [List.length_map, List.length_map, h2.length_eq]) h
theorem rds_strs {K : PySem.W.Frag} {ρ : List Addr} {H : Hp} : ∀ (l : List Str), RDs K ρ H (l.map .str) (l.map V.str)
  | [] => RDs.nil
  | x :: r => RDs.cons (by simp [RD]) (rds_strs r)
theorem rds_ints {K : PySem.W.Frag} {ρ : List Addr} {H : Hp} : ∀ (l : List Int), RDs K ρ H (l.map .int) (l.map V.int)
  | [] => RDs.nil
  | x :: r => RDs.cons (by simp [RD]) (rds_ints r)
theorem ar_sorted : AR X.K EX (fun xs H Q => ∃ l ys, xs = [.ref l] ∧ SqL X.K H l ys ∧ ys.length < 64 ∧
    ((∃ ss, ys = ss.map V.str ∧ ∀ q, H q = none → Q (.ref q) (upd H q (.lst ((sortS ss).map V.str)))) ∨ (∃ ns, ys = ns.map V.int ∧ ∀ q, H q = none → Q (.ref q) (upd H q (.lst ((sortI ns).map V.int)))))) fSorted := by
  intro ρ h H ds vs Q r rd fin
  unfold fSorted at fin
  split at fin
  · rename_i n
    obtain ⟨v, rfl, rv⟩ := rds1 rd
    have f1 := Fin.bind fin
    cases e : getL n h with
    | bad => rw [e] at f1; exact f1.elim
    | err z hz => exact (getL_no e).elim
    | ok xs h1 =>
      obtain ⟨rfl, q1⟩ := getL_ok e
      rw [e] at f1
      have f2 := f1 ρ H (Pre.refl _) (Ext.refl _ _) r
      dsimp only at f2
      simp only [RD] at rv; obtain ⟨q, rfl, h2⟩ := rv
      obtain ⟨a1, n1, ws, o1, d1⟩ := r.at q1
      rw [h2] at n1; cases n1
      by_cases hl : xs.length < 64
      · rw [if_pos hl] at f2
        refine ⟨q, ws, rfl, SqL.of o1, by rw [← d1.length]; exact hl, ?_⟩
        cases eb : strsD xs with
        | some ss =>
          rw [eb] at f2
          have f3 : FE X.K EX ρ H Q (newL ((sortS ss).map .str) h1) := f2
          unfold newL at f3
          split at f3
          · exact .inl ⟨ss, strs_rel eb d1, fun p hp => FE.lst f3 r (rds_strs _) hp⟩
          · exact f3.elim
        | none =>
          rw [eb] at f2
          cases en : numsD xs with
          | some ns =>
            rw [en] at f2
            have f3 : FE X.K EX ρ H Q (newL ((sortI ns).map .int) h1) := f2
            unfold newL at f3
            split at f3
            · exact .inr ⟨ns, nums_rel en d1, fun p hp => FE.lst f3 r (rds_ints _) hp⟩
            · exact f3.elim
          | none => rw [en] at f2; exact (show False from f2).elim
      · rw [if_neg hl] at f2; exact (show False from f2).elim
  · exact fin.elim
theorem se_sorted (hc : X.calm = true) (hg : Gl X "sorted") (hm : X.mg "sorted" = none) (ha : SA X EX [a] mr) (he : starEach [a] X.env = [(false, eval a X.env)] := by rfl) : SE X EX (.Call (.Name "sorted" p) [a] [] pos) (eCall fSorted mr) :=
  se_args (pe_callB call_sorted hg hm boot_sorted ha.h (by decide) (by decide) he rfl) ar_sorted
end
end FT
set_option maxHeartbeats 2000000
namespace FT
open PySem PySem.Spec PyProof.Rows L2
@[simp] theorem bindM {α β : Type} (m : M α) (f : α → M β) (h : AH) : (m >>= f) h = match m h with
  | .ok a h1 => f a h1
  | .err x h1 => .err x h1
  | .bad => .bad := rfl
@[simp] theorem pureM {α : Type} (a : α) (h : AH) : (Pure.pure a : M α) h = .ok a h := rfl
@[simp] theorem badM {α : Type} (h : AH) : (bad : M α) h = .bad := rfl
@[simp] theorem iteM {α : Type} {c : Prop} [Decidable c] (a b : M α) (h : AH) : (if c then a else b) h = if c then a h else b h := by split <;> rfl
def Pu {α : Type} (m : M α) (a : α) : Prop := ∀ h, ∃ j, m h = .ok a (h ++ j)
theorem Pu.pure {α : Type} (a : α) : Pu (Pure.pure a : M α) a := fun h => ⟨[], by simp⟩
theorem Pu.bind {α β : Type} {m : M α} {f : α → M β} {a : α} {b : β} (h1 : Pu m a) (h2 : Pu (f a) b) : Pu (m >>= f) b := fun h => by
  obtain ⟨j, e⟩ := h1 h
  obtain ⟨j', e'⟩ := h2 (h ++ j)
  exact ⟨j ++ j', by rw [M.bind_ok e, e', List.append_assoc]⟩
theorem Pu.of {α : Type} {m : M α} {a : α} (h : ∀ x, m x = .ok a x) : Pu m a := fun x => ⟨[], by rw [h]; simp⟩
end FT
namespace FT
open PySem PySem.Spec PyProof.Rows L2
theorem Rise.lt {xs : Array Nat} (h : Rise xs) {i j a b : Nat} (ha : xs[i]? = some a) (hb : xs[j]? = some b) (hij : i < j) : a < b := by
  obtain ⟨h1, e1⟩ := Array.getElem?_eq_some_iff.mp ha
  obtain ⟨h2, e2⟩ := Array.getElem?_eq_some_iff.mp hb
  have := List.pairwise_iff_getElem.mp h i j (by simpa using h1) (by simpa using h2) hij
  simp only [Array.getElem_toList] at this
  rw [e1, e2] at this
  exact this
end FT
namespace FT
open PySem PySem.Spec PyProof.Rows L2
section
variable {P : Program} {w : World}
theorem paired_mem {α β : Type} {R : α → β → Prop} : ∀ {ks : List α} {l : List β} {x : β}, Paired R ks l → x ∈ l → ∃ k ∈ ks, R k x
  | _, _, _, .cons a b, h => by
    rcases List.mem_cons.mp h with rfl | h
    · exact ⟨_, List.mem_cons_self, a⟩
    · obtain ⟨k, h1, h2⟩ := paired_mem b h; exact ⟨k, List.mem_cons_of_mem _ h1, h2⟩
theorem paired_memL {α β : Type} {R : α → β → Prop} : ∀ {ks : List α} {l : List β} {k : α}, Paired R ks l → k ∈ ks → ∃ x ∈ l, R k x
  | _, _, _, .cons a b, h => by
    rcases List.mem_cons.mp h with rfl | h
    · exact ⟨_, List.mem_cons_self, a⟩
    · obtain ⟨k, h1, h2⟩ := paired_memL b h; exact ⟨k, List.mem_cons_of_mem _ h1, h2⟩
theorem key_scan {k : Key} {v : Value} (h : keyIs k v = true) : v.scannable = true := by
  rcases keyIs_shape h with ⟨i, t, rfl, rfl⟩ | ⟨x, t, rfl, rfl⟩ <;> rfl
theorem elems_of {ks : List Key} {l : List (Int × Value)} (h : Paired (KE w) ks l) : ElemsOf (mixKind P w) l := fun e he => by
  obtain ⟨k, _, h1, h2⟩ := paired_mem h he
  exact ⟨⟨k, h1, h2⟩, key_scan h1⟩
theorem key_inj {k k' : Key} {v : Value} (h : keyIs k v = true) (h' : keyIs k' v = true) : k = k' := by
  rcases keyIs_shape h with ⟨i, t, rfl, rfl⟩ | ⟨x, t, rfl, rfl⟩
  · rcases keyIs_shape h' with ⟨j, u, rfl, e⟩ | ⟨y, u, rfl, e⟩
    · cases e; rfl
    · cases e
  · rcases keyIs_shape h' with ⟨j, u, rfl, e⟩ | ⟨y, u, rfl, e⟩
    · cases e
    · cases e; rfl
theorem mem_of {ks : List Key} {l : List (Int × Value)} (h : Paired (KE w) ks l) (k : Key) : k ∈ ks ↔ ∃ e ∈ l, keyIs k e.2 = true := by
  constructor
  · intro hk
    obtain ⟨e, h1, h2, _⟩ := paired_memL h hk
    exact ⟨e, h1, h2⟩
  · rintro ⟨e, h1, h2⟩
    obtain ⟨k', h3, h4, _⟩ := paired_mem h h1
    exact key_inj h2 h4 ▸ h3
theorem SetAt.setOf {h : Heap} {a : Addr} {ks : List Key} (x : SetAt w h a ks) : h.SetOf (mixKind P w) a (fun k => decide (k ∈ ks)) ks.length := by
  obtain ⟨o, es, ep, t, ks', h1, h2, h3, h4, h5, h6, h7, h8, h9, _⟩ := x
  refine ⟨o, es, ep, t, h1, h2, h3, elems_of h4, fun k => ?_, h7, h8, ?_⟩
  · rw [decide_eq_true_eq, ← h5.mem_iff]
    exact mem_of h4 k
  · rw [← h5.length_eq, Paired.length h4, Array.length_toList]
theorem SetAt.stay {h h' : Heap} {a : Addr} {ks : List Key} (x : SetAt w h a ks) (k : ∀ o, h.get? a = some o → h'.get? a = some o) : SetAt w h' a ks := by
  obtain ⟨o, es, ep, t, ks', h1, h2⟩ := x
  exact ⟨o, es, ep, t, ks', k o h1, h2⟩
variable {A : Around} {E : Value → Shared → Prop} {s : Shared} {a : Addr}
end
end FT
namespace FT
open PySem PySem.Spec PyProof.Rows L2
def putK (acc : List Key) (k : Key) : List Key := if k ∈ acc then acc else acc ++ [k]
section
variable {P : Program} {w : World} {A : Around} {E : Value → Shared → Prop} {s : Shared} {a : Addr}
theorem SetAt.typeIs {ks : List Key} (x : SetAt w s.heap a ks) : s.TypeIs (.ref a) "set" := (x.setOf (P := default)).typeIs
end
section
variable {P : Program} {w : World} {A : Around} {R : Result → Shared → Prop} {I : Addr} {fp wr : List Addr} {G : Array GenState → Array GenState → Prop} {n : Nat} {PV : Nat → Value → Prop} {St : Nat → Shared → Prop}
end
end FT
set_option maxHeartbeats 3200000
namespace FT
open PySem PySem.Spec PyProof.Rows L2
section
variable {P : Program} {w : World} {A : Around} {E : Value → Shared → Prop} {s : Shared}
end
end FT
set_option maxHeartbeats 1600000
namespace FT
open PySem PySem.Spec PyProof.Rows L2
section
variable {P : Program} {w : World} {A : Around} {E : Value → Shared → Prop} {s : Shared}
end
end FT
namespace FT
open PySem PySem.Spec PyProof.Rows L2
section
variable (w : World) (S : Addr) (es : Array (Int × Value)) (ep : Nat) (t : SetTable)
inductive Stand (h : Heap) (i : Nat) : Value → List (Int × Value) → Prop where
  | txt (b : w.params.followText "set-order" = true) : Stand h i (rawInt 0) (pickOrder (w.params.setOrder S ep) es).toList
  | drw (T : Addr) (pl : List Nat) (b : w.params.followText "set-order" = false) (hT : ∃ o n, h.get? T = some o ∧ o.data = .seq (pl.map fun (j : Nat) => rawInt j).toArray n) (hp : pl.Perm (List.range es.size)) : Stand h i (.ref T) (pl.filterMap fun j => es[j]?)
  | slo (sl : Nat) (b : w.params.followText "set-order" = false) (c : (!t.plain && decide (es.size > 1)) = false) (l : t.led = true) (e : SetTable.below t.place sl = i) : Stand h i (rawInt sl) es.toList
end
section
variable {P : Program} {w : World} {A : Around} {E : Value → Shared → Prop} {s : Shared} {S I : Addr} {es : Array (Int × Value)} {ep : Nat} {t : SetTable} {i : Nat} {f : Value} {ord : List (Int × Value)} {o : Obj}
end
end FT
namespace FT
open PySem PySem.Spec PyProof.Rows L2
section
variable {P : Program} {w : World} {A : Around} {E : Value → Shared → Prop} {s : Shared} {S : Addr} {es : Array (Int × Value)} {ep : Nat} {t : SetTable} {o : Obj}
end
end FT
namespace FT
open PySem PySem.Spec PyProof.Rows L2
section
variable {X : Cx}
end
end FT
namespace FT
open PySem PySem.Spec PyProof.Rows L2
section
variable {P : Program} {w : World} {A : Around} {E : Value → Shared → Prop} {s : Shared}
end
def keyD : D → Option Key
  | .int i => some (.inl i)
  | .str x => some (.inr x)
  | _ => none
def asSet : D → M Nat
  | .ref n => fun h => match h[n]? with
    | some (.set _) => .ok n h
    | _ => .bad
  | _ => bad
def eMS (f : Nat → D → M D) (mo ma : G → M D) : G → M D := fun γ => do
  let o ← mo γ
  let n ← asSet o
  let v ← ma γ
  f n v
section
variable {X : Cx} {EX : XX} {a o : Expr} {p pos apos cpos : Pos} {ma mo : G → M D} {mr : G → M (List D)}
end
theorem fn_mkC {P : Program} {w : World} {K : PySem.W.Frag} {mg : Str → Option Value} {base : Heap} {x : Str} {st : Stmt} {f : Addr} {fd : FuncData} {N ps : List Str} {k n : Nat} {mb : G → M Out} (F : Fun K x x st f fd) (S : FnScope N ps (defScope st)) (hb : Binds K fd ps []) (mx : mg x = some (.ref f)) (hn : ps.length = n)
    (body : ∀ (cdv : Value) (A : Around) (outer : List Env) (s : Shared) (H : Hp) (E : XK), PySem.W.codeIn K cdv x = true → Room k (A.deeper (envOfC x (defScope st) s.heap.objs.size f cdv)) →
      SB (cxOf CX0 P w K mg base N x (defScope st) f cdv A outer s H E).nox EX0 (defBody st) mb) : Fn P w K mg base (k + 1) x n (runF N.length mb) := by
  refine ⟨f, fd, ps, ?_, hb, F.kp, mx⟩
  obtain ⟨oc, od, kV, doc, pm, an, cdv, ct, osl, rfl, lk, hcd⟩ := F.ex
  refine fn_of lk hcd S (fun vs H Q E h => h.1.trans hn.symm) fun A outer s H vs Q E hr h => ?_
  obtain ⟨hl, ρ, ds, h, rh, rd, fin⟩ := h
  refine ⟨_, (body cdv A outer s H E hcd hr).h.nox, ρ, startG N.length ds, h, ⟨start_rel rd, rh⟩, ?_⟩
  refine (Fin.bind fin).mono fun o ρ1 h1 H1 p1 e1 r1 f1 => ?_
  cases o with
  | nx γ => exact fun σ _ => FE.here (d := .non) (h := h1) f1 r1 (by simp [RD])
  | rt d => exact fun v rv => f1 ρ1 H1 (Pre.refl _) (Ext.refl _ _) r1 v rv
  | bk γ => exact (show False from f1).elim
  | ct γ => exact (show False from f1).elim
end FT
namespace FT
open PySem PySem.Spec PyProof.Rows L2
section
variable {X : Cx}
end
section
variable {X : Cx} {EX : XX}
end
end FT
namespace FT
open PySem PySem.Spec PyProof.Rows L2
section
variable {X : Cx} {EX : XX} {a : Expr} {elts : List Expr} {kk : Nat} {p pos pt : Pos} {ma : G → M D}
end
end FT
namespace L2
open PySem PySem.Spec PyProof.Rows
section
variable {prog : Program} {w : World} {A : Around} {R : Result → Shared → Prop} {s : Shared} {elt tg iter tg1 iter1 : Expr} {ifs ifs1 : List Expr} {scope : Scope} {pos : Pos} {it acc : Value} {env : Env}
end
end L2
namespace L2
open PySem PySem.Spec PyProof.Rows
def compIn (g : TG) (ti : TT) (te : TE) (σ0 : St) (J : It) (D : Addr) (Q : Hp → Prop) (H : Hp) : Prop :=
  ∃ W : Nat → Nat → Hp → Prop, (∃ m, W 0 m H) ∧ ∀ i m H, W i m H →
    (J.stop i H ∧ Q H) ∨ (J.go i H ∧ ∀ x H1, J.yld i H x H1 → g x σ0 H1 fun σ2 H2 => (∀ (j : Nat) v, σ0[j]? = some (some v) → σ2[j]? = some (some v)) ∧
      ti σ2 H2 fun ok H3 => if ok = true then te σ2 H3 fun v H4 => ∃ acc, H4 D = some (.lst acc) ∧ acc.length < sizeLine ∧ ∃ m', m' < m ∧ W (i + 1) m' (upd H4 D (.lst (acc ++ [v])))
        else ∃ m', m' < m ∧ W (i + 1) m' H3)
section
variable {X : Cx} {elt tg iter tg1 iter1 : Expr} {ifs1 : List Expr} {sc : Scope} {pos : Pos} {N' : List Str} {cap : List (Option Nat)} {g g1 : TG} {wi1 : TI} {ti : TT} {te : TE}
end
end L2
namespace FT
open PySem PySem.Spec PyProof.Rows L2
section
variable {X : Cx} {EX : XX} {elt tg iter tg1 iter1 : Expr} {ifs1 : List Expr} {sc : Scope} {pos : Pos} {N' : List Str} {cap : List (Option Nat)} {own own1 : List Nat} {mi mi1 : G → M Src} {g g1 : D → G → M G} {k : G → M Bool} {me : G → M D}
end
end FT
namespace L2
open PySem PySem.Spec PyProof.Rows
theorem range_all {α : Type} (r : List α) : (List.range r.length).filterMap (fun m => r[m]?) = r := by
  have := pick_run r.toArray 0 r.length
  rw [List.filterMap_map] at this
  have e : ((fun x => r.toArray[x]?) ∘ fun x => 0 + x) = fun m => r[m]? := by funext m; simp
  rw [e] at this
  rw [this]
  simp
theorem fm_congr {α β : Type} {f g : α → Option β} : ∀ {l : List α}, (∀ x ∈ l, f x = g x) → l.filterMap f = l.filterMap g
  | [], _ => rfl
  | a :: l, h => by
    rw [List.filterMap_cons, List.filterMap_cons, h a List.mem_cons_self, fm_congr fun x hx => h x (List.mem_cons_of_mem _ hx)]
theorem range_back {α : Type} (l : List α) (f : Nat → Option α) (hf : ∀ m, m < l.length → f m = l[l.length - 1 - m]?) : (List.range l.length).filterMap f = l.reverse := by
  have := range_all l.reverse
  rw [List.length_reverse] at this
  rw [← this]
  exact fm_congr fun m hm => by
    have hm' : m < l.length := by simpa using hm
    rw [hf m hm', List.getElem?_reverse hm']
theorem back_list (its : List Value) : slicePick its.toArray none none (some (-1)) = its.reverse.toArray := by
  unfold slicePick
  have b : sliceBounds none none (some (-1)) its.toArray.size = ((its.length : Int) - 1, -1, -1) := by
    unfold sliceBounds
    rw [List.size_toArray]
    rfl
  rw [b]
  unfold sliceRange
  have c : (if (-1 : Int) > 0 then (if (its.length : Int) - 1 < -1 then (-1 - ((its.length : Int) - 1) + -1 - 1) / -1 else 0) else if (its.length : Int) - 1 > -1 then ((its.length : Int) - 1 - -1 - -1 - 1) / - -1 else 0).toNat = its.length := by
    rw [if_neg (by decide)]
    by_cases h : (its.length : Int) - 1 > -1
    · rw [if_pos h]
      have : ((its.length : Int) - 1 - -1 - -1 - 1) / - -1 = its.length := by
        rw [show (- -1 : Int) = 1 from rfl, Int.ediv_one]
        omega
      rw [this, Int.toNat_natCast]
    · rw [if_neg h]
      omega
  dsimp only
  rw [c, List.filterMap_map]
  congr 1
  refine range_back its _ fun m hm => ?_
  have : ((its.length : Int) - 1 + -1 * (m : Int)).toNat = its.length - 1 - m := by omega
  show its.toArray[((its.length : Int) - 1 + -1 * (m : Int)).toNat]? = _
  rw [this]
  simp
section
variable {prog : Program} {w : World} {A : Around} {E : Value → Shared → Prop} {s : Shared}
theorem applied_back {sl : Addr} {t : Tok} {n : Nat} {Q : Int × Int × Nat → Shared → Prop} (hs : s.heap.IsSliceOf sl .none .none (.int (-1) t))
    (h : Q ((n : Int) - 1, -1, n) s) : wpAny (model prog w) A (Builtin.Slice.sliceApplied (.ref sl) (pure (n : Int))) Q E s := by
  obtain ⟨os, h1, h2, h3⟩ := id hs
  unfold Builtin.Slice.sliceApplied Builtin.Slice.sliceFields
  refine wpAny_bind (wpAny_bind (wpAny_field h1 h3 (x := .none) rfl (wpAny_bind (wpAny_field h1 h3 (x := .none) rfl (wpAny_bind (wpAny_field h1 h3 (x := .int (-1) t) rfl (wpAny_pure ?_)))))))
  refine wpAny_bind (slicePart_int ?_)
  show wpAny _ _ (if ((-1 : Int) == 0) = true then _ else _) _ _ s
  rw [if_neg (by decide)]
  refine wpAny_bind (slicePart_none (wpAny_bind (slicePart_none (wpAny_bind (wpAny_pure ?_)))))
  have e1 : Builtin.Slice.sliceAdjust none none (-1) (n : Int) = ((n : Int) - 1, -1) := rfl
  have e2 : Builtin.Slice.slicePlaces ((n : Int) - 1) (-1) (-1) = n := by
    unfold Builtin.Slice.slicePlaces
    rw [if_neg (by decide)]
    by_cases h : (n : Int) - 1 > -1
    · rw [if_pos h, show (-(-1) : Int) = 1 from rfl, Int.ediv_one]
      omega
    · rw [if_neg h]
      omega
  show wpAny _ _ (match Builtin.Slice.sliceAdjust none none (-1) (n : Int) with | (lo, hi) => pure (lo, (-1 : Int), Builtin.Slice.slicePlaces lo hi (-1))) _ _ s
  rw [e1]
  show wpAny _ _ (pure ((n : Int) - 1, (-1 : Int), Builtin.Slice.slicePlaces ((n : Int) - 1) (-1) (-1))) _ _ s
  rw [e2]
  exact wpAny_pure h
theorem tuple_back {t sl : Addr} {items : Array Value} {k : Tok} {Q : Value → Shared → Prop} (ht : IsTup s.heap t items) (hs : s.heap.IsSliceOf sl .none .none (.int (-1) k))
    (h : Q (.ref s.heap.objs.size) { s with heap := s.heap.push { cls := .type "tuple", data := .seq items.toList.reverse.toArray } }) (hsz : items.size ≤ sizeLine) : wpAny (model prog w) A (getItem (.ref t) (.ref sl)) Q E s := by
  have fits : sizeOk (.seq items.toList.reverse.toArray) := by
    show items.toList.reverse.toArray.size ≤ sizeLine
    rw [List.size_toArray, List.length_reverse, Array.length_toList]
    exact hsz
  obtain ⟨os, h1, h2, h3⟩ := id hs
  have hT : s.TypeIs (.ref sl) "slice" := ⟨os, h1, h2⟩
  unfold getItem
  try with_reducible refine wpAny_holding ?_
  first | refine wpAny_bind (wpAny_pure ?_) | skip
  refine wpAny_bind (wpAny_sequenceKey ht.typeIs (by decide) (wpAny_bind (wpAny_callSpecial?_slot (name := Str.ofString "__getitem__") ht.typeIs PyProof.Rows.slot_tuple_getitem (wpAny_call_entry PyProof.Rows.slot_tuple_getitem ht.typeIs entry_tuple_getitem ?_ (args_tuple_getitem _ _)))))
  show wpAny _ _ (Builtin.Tuple.tupleItemsOf (.ref t) >>= _) _ _ s
  refine wpAny_bind (tupleItemsOf_ ht (wpAny_bind (wpAny_typeOf hT ?_)))
  rw [if_pos (by decide)]
  refine wpAny_bind (applied_back hs ?_)
  show wpAny _ _ (if (((items.size : Int) - 1) == 0 && (-1 : Int) == 1 && items.size == items.size) = true then _ else _) _ _ s
  have no : ¬ ((((items.size : Int) - 1) == 0 && (-1 : Int) == 1 && items.size == items.size) = true) := by
    rw [show ((-1 : Int) == 1) = false from rfl, Bool.and_false, Bool.false_and]
    exact Bool.false_ne_true
  have e : ((List.range items.size).filterMap fun (m : Nat) => items[((items.size : Int) - 1 + (m : Int) * -1).toNat]?).toArray = items.toList.reverse.toArray := by
    congr 1
    have := range_back items.toList (fun (m : Nat) => items[((items.size : Int) - 1 + (m : Int) * -1).toNat]?) fun m hm => by
      rw [Array.length_toList] at hm ⊢
      have : ((items.size : Int) - 1 + (m : Int) * -1).toNat = items.size - 1 - m := by omega
      rw [this, Array.getElem?_toList]
    rw [Array.length_toList] at this
    exact this
  rw [if_neg no, e]
  first
    | exact wpAny_bind (m := Builtin.Tuple.tupleExact _) (wpAny_newObj_type (wpAny_pure ⟨_, rfl, wpAny_pure h⟩) fits)
    | exact wpAny_bind (m := Builtin.Tuple.tupleExact _) (wpAny_newObj_type (wpAny_bind (wpAny_pure (wpAny_pure ⟨_, rfl, wpAny_pure h⟩))) fits)
    | exact wpAny_bind (wpAny_bind (m := Builtin.Tuple.tupleExact _) (wpAny_newObj_type (wpAny_pure (wpAny_pure ⟨_, rfl, wpAny_pure h⟩)) fits))
    | exact wpAny_bind (wpAny_bind (m := Builtin.Tuple.tupleExact _) (wpAny_newObj_type (wpAny_pure ⟨_, rfl, wpAny_pure h⟩) fits))
end
section
variable {X : Cx} {e st : Expr} {te ts : TE} {pos p2 : Pos}
def RvR (X : Cx) (r : V → Hp → VK → Prop) : Prop :=
  ∀ (pins : List (Addr × Obj)) (s : Shared) (σ : St) (H : Hp) (x : V) (v : Value) (t : Tok) (sl : Addr) (Q : VK), Inv X pins σ H s → RelV x v → s.heap.IsSliceOf sl .none .none (.int (-1) t) → r x H Q →
    ∃ T id, typeLookup (.type T) "__getitem__" = pure (some (.builtin id)) ∧ s.TypeIs v T ∧ wpAny (model X.prog X.w) X.A (getItem v (.ref sl)) (EP X pins σ Q) X.xe s
def tRv (r : V → Hp → VK → Prop) (te ts : TE) : TE := fun σ H Q => te σ H fun x H1 => ts σ H1 fun y H2 => y = .int (-1) ∧ r x H2 Q
theorem pe_rev {r : V → Hp → VK → Prop} (hr : RvR X r) (he : PE X e te) (hs : PE X st ts) : PE X (.Subscript e (.Slice none none (some st) p2) pos) (tRv r te ts) := by
  intro pins s σ H Q I h
  refine Subscript_ (thn (he pins s σ H _ I h) fun v s1 ⟨x, H1, I1, r1, q1⟩ => ?_)
  refine wpAny_Slice ?_
  rw [evalPart_none]
  refine wpAny_pure (wpAny_pure ?_)
  rw [evalPart_some]
  refine thn (hs pins s1 σ H1 _ I1 q1) fun u s3 ⟨y, H3, I3, r3, q3⟩ => ?_
  obtain ⟨rfl, q⟩ := q3
  obtain ⟨t, rfl⟩ := r3
  have I4 : Inv X pins σ H3 { s3 with heap := s3.heap.push { cls := .type "slice", data := .fields #[.none, .none, .int (-1) t] } } := I3.kept (t' := s3.toks) fun b ob q => Heap.get?_push_of_some _ q
  obtain ⟨T, id, hT, ht, hg⟩ := hr pins _ σ H3 x v t s3.heap.objs.size Q I4 r1 (Heap.IsSliceOf.new ..) q
  show wpAny (model X.prog X.w) X.A (subscriptTail e (.Slice none none (some st) p2) v (.ref s3.heap.objs.size)) (EP X pins σ Q) X.xe { s3 with heap := s3.heap.push { cls := .type "slice", data := .fields #[.none, .none, .int (-1) t] } }
  exact tail_any (ops := [v, .ref s3.heap.objs.size]) ht hT hg (by with_unfolding_all rfl)
theorem RvR.or {r r' : V → Hp → VK → Prop} (h : RvR X r) (h' : RvR X r') : RvR X (fun x H Q => r x H Q ∨ r' x H Q) := by
  intro pins s σ H x v t sl Q I rx hs q
  rcases q with q | q
  · exact h pins s σ H x v t sl Q I rx hs q
  · exact h' pins s σ H x v t sl Q I rx hs q
def rRvL (K : PySem.W.Frag) : V → Hp → VK → Prop := fun x H Q => ∃ a xs, x = .ref a ∧ SqL K H a xs ∧ ∀ p, H p = none → Q (.ref p) (upd H p (.lst xs.reverse))
def rRvT (K : PySem.W.Frag) : V → Hp → VK → Prop := fun x H Q => ∃ a xs, x = .ref a ∧ SqT K H a xs ∧ ∀ p, H p = none → Q (.ref p) (upd H p (.tup xs.reverse))
theorem rv_list : RvR X (rRvL X.K) := by
  intro pins s σ H x v t sl Q I rx hs h
  obtain ⟨a, xs, rfl, hx, q⟩ := h
  cases rx
  obtain ⟨its, r, ht, hz⟩ := I.list hx
  have hlen := r.length
  refine ⟨"list", _, slot_list_getitem.lookup, ht.isList.typeIs, ?_⟩
  refine wpAny_getItem_list_slice ht.isList hs .none .none (.int (-1) t) (by simp) ?_ (by rw [List.size_toArray] <;> omega)
  rw [back_list]
  refine ⟨.ref s.heap.objs.size, _, I.laid (t' := s.toks) (o := .lst xs.reverse) (fun b ob q => Heap.get?_push_of_some _ q) (Nat.le_refl _) ?_, rfl, q _ (I.hok.fresh (Nat.le_refl _))⟩
  exact ⟨by rw [List.length_reverse]; exact hz, _, 0, r.reverse, Heap.get?_push_size _ rfl⟩
theorem rv_tup : RvR X (rRvT X.K) := by
  intro pins s σ H x v t sl Q I rx hs h
  obtain ⟨a, xs, rfl, hx, q⟩ := h
  cases rx
  obtain ⟨its, r, ht, hz⟩ := I.tuple hx
  have hlen : its.toArray.size = xs.length := by rw [List.size_toArray]; exact r.length.symm
  refine ⟨"tuple", _, PyProof.Rows.slot_tuple_getitem.lookup, ht.typeIs, ?_⟩
  refine tuple_back ht hs ?_ (by rw [hlen]; exact hz)
  refine ⟨.ref s.heap.objs.size, _, I.laid (t' := s.toks) (o := .tup xs.reverse) (fun b ob q => Heap.get?_push_of_some _ q) (Nat.le_refl _) ?_, rfl, q _ (I.hok.fresh (Nat.le_refl _))⟩
  exact ⟨by rw [List.length_reverse]; exact hz, _, r.reverse, FT.IsTup0.new _ _⟩
end
end L2
namespace FT
open PySem PySem.Spec PyProof.Rows L2
theorem RDs.reverse {K : PySem.W.Frag} {ρ : List Addr} {H : Hp} : ∀ {ds : List D} {vs : List V}, RDs K ρ H ds vs → RDs K ρ H ds.reverse vs.reverse
  | [], vs, h => by
    simp only [RDs] at h
    subst h
    exact RDs.nil
  | d :: ds, vs, h => by
    simp only [RDs] at h
    obtain ⟨x, r, rfl, h2, h3⟩ := h
    rw [List.reverse_cons, List.reverse_cons]
    exact (RDs.reverse h3).append (RDs.cons h2 RDs.nil)
def fRev : D → M D
  | .tup xs => pure (.tup xs.reverse)
  | .fl xs => newL xs.reverse
  | .ref n => do
    let xs ← getL n
    newL xs.reverse
  | _ => bad
def eRev (ma ms : G → M D) : G → M D := fun γ => do
  let x ← ma γ
  let y ← ms γ
  match y with
  | .int i => if i = -1 then fRev x else bad
  | _ => bad
def eNeg (ma : G → M D) : G → M D := fun γ => do
  let x ← ma γ
  match x with
  | .int i => pure (.int (-i))
  | _ => bad
section
variable {X : Cx} {EX : XX} {a b st : Expr} {pos p p2 : Pos} {ma ms : G → M D} {mr : G → M (List D)}
theorem rev_rel {ρ : List Addr} {h : AH} {H : Hp} {x : D} {v : V} {Q : VK} (r : RH X.K ρ h H) (rx : RD X.K ρ H x v) (fin : FE X.K EX ρ H Q (fRev x h)) : rRvL X.K v H Q ∨ rRvT X.K v H Q := by
  cases x <;> first | exact (show False from fin).elim | skip
  case tup xs =>
    simp only [RD] at rx
    obtain ⟨q, vs, rfl, h1, h2⟩ := rx
    have fin' : FE X.K EX ρ H Q (.ok (.tup xs.reverse) h) := fin
    exact .inr ⟨q, vs, rfl, h1, fun p hp => FE.tup fin' r h2.reverse hp⟩
  case fl xs =>
    simp only [RD] at rx
    obtain ⟨q, vs, rfl, h1, h2⟩ := rx
    have fin' : FE X.K EX ρ H Q (newL xs.reverse h) := fin
    unfold newL at fin'
    split at fin'
    · exact .inl ⟨q, vs, rfl, h1.sq, fun p hp => FE.lst fin' r h2.reverse hp⟩
    · exact fin'.elim
  case ref n =>
    simp only [RD] at rx
    obtain ⟨q, rfl, h1⟩ := rx
    have fin' : FE X.K EX ρ H Q ((getL n >>= fun xs => newL xs.reverse) h) := fin
    have f1 := Fin.bind fin'
    cases e : getL n h with
    | bad => rw [e] at f1; exact f1.elim
    | err z hz => exact (getL_no e).elim
    | ok xs h2 =>
      obtain ⟨rfl, q1⟩ := getL_ok e
      rw [e] at f1
      have f2 := f1 ρ H (Pre.refl _) (Ext.refl _ _) r
      dsimp only at f2
      unfold newL at f2
      split at f2
      · obtain ⟨a1, n1, vs, o1, d1⟩ := r.at q1
        rw [h1] at n1; cases n1
        exact .inl ⟨q, vs, rfl, SqL.of o1, fun p hp => FE.lst f2 r d1.reverse hp⟩
      · exact f2.elim
theorem se_rev (ha : SE X EX a ma) (hs : SE X EX st ms) : SE X EX (.Subscript a (.Slice none none (some st) p2) pos) (eRev ma ms) :=
  ⟨PE.imp (pe_rev (rv_list.or rv_tup) ha.h hs.h) fun σ H Q ⟨ρ, γ, h, rel, fin⟩ => ⟨ρ, γ, h, rel, (Fin.bind fin).mono fun x ρ1 h1 H1 p1 e1 r1 f1 v rv => ⟨ρ1, γ, h1, ⟨rel.g.mono p1 e1, r1⟩, (Fin.bind f1).mono fun y ρ2 h2 H2 p2 e2 r2 f2 u ru => by
    cases y <;> first | exact (show False from f2).elim | skip
    rename_i i
    simp only [RD] at ru
    subst ru
    dsimp only at f2
    split at f2
    · rename_i hi
      subst hi
      exact ⟨rfl, rev_rel r2 (rv.mono p2 e2) f2⟩
    · exact f2.elim⟩⟩⟩
theorem se_neg (ha : SE X EX a ma) : SE X EX (.UnaryOp .USub a pos) (eNeg ma) :=
  ⟨PE.imp (pe_un un_neg ha.h) fun σ H Q ⟨ρ, γ, h, rel, fin⟩ => ⟨ρ, γ, h, rel, (Fin.bind fin).mono fun x ρ1 h1 H1 p1 e1 r1 f1 v rv => by
    cases x <;> first | exact (show False from f1).elim | skip
    rename_i t
    simp only [RD] at rv
    exact ⟨t, rv, FE.here (d := .int (-t)) (h := h1) (ρ := ρ1) f1 r1 (by simp [RD])⟩⟩⟩
end
end FT
namespace L2
open PySem PySem.Spec PyProof.Rows
structure Fly (base : Heap) (l : List Env) (e T : Addr) (cls : Value) (h : Heap) : Prop where
  stays : base.StaysIn h
  ne : base.get? e = none
  nT : base.get? T = none
  fr : h.FunFrames base l
  tr : ∃ a0 oe vs oT ts, h.get? e = some oe ∧ (oe.cls = cls ∧ vs[0]? = some a0) ∧ oe.data = .fields vs ∧ vs[1]? = some (.ref T) ∧ T ≠ e ∧ h.get? T = some oT ∧ oT.data = .fields ts ∧ ts[3]? = some .none
theorem Fly.of {base : Heap} {l : List Env} {e : Addr} {cls a0 : Value} {h : Heap} (x : Heap.FlyingW base l e cls a0 h) : ∃ T, Fly base l e T cls h := by
  obtain ⟨f1, f2, f3, oe, vs, T, oT, ts, a1, a2, a3, a4, a5, a6, a7, a8, a9⟩ := x
  exact ⟨T, f1, f2, a5, f3, a0, oe, vs, oT, ts, a1, a2, a3, a4, a6, a7, a8, a9⟩
def bigB (h : Heap) (l : List Env) (e T : Addr) : Heap := PySem.W.hideAll h (frs l ++ [e, T])
theorem bigB_of {h : Heap} {l : List Env} {e T b : Addr} {o : Obj} (q : (bigB h l e T).get? b = some o) : h.get? b = some o := PySem.W.of_hideAll _ q
theorem bigB_none {h : Heap} {l : List Env} {e T b : Addr} (z : b ∈ frs l ∨ b = e ∨ b = T) : (bigB h l e T).get? b = none :=
  PySem.W.hideAll_none _ (List.mem_append.mpr (by
    rcases z with z | rfl | rfl
    · exact .inl z
    · exact .inr (by simp)
    · exact .inr (by simp)))
theorem fun_big {base h : Heap} {as : List Addr} : ∀ {l : List Env}, h.FunFrames base l → (∀ b ∈ frs l, b ∈ as) → h.FunFrames (PySem.W.hideAll h as) l
  | [], _, _ => trivial
  | env :: r, ⟨hk, ⟨L, o, hf, _, ho, hd⟩, hr⟩, hin => ⟨hk, ⟨L, o, hf, PySem.W.hideAll_none _ (hin L (by unfold frs; rw [List.filterMap_cons, hf]; exact List.mem_cons_self)), ho, hd⟩,
      fun_big hr fun b hb => hin b (by unfold frs at hb ⊢; rw [List.filterMap_cons]; cases env.frame with | none => exact hb | some x => exact List.mem_cons_of_mem _ hb)⟩
theorem Fly.big {base : Heap} {l : List Env} {e T : Addr} {cls : Value} {h : Heap} (x : Fly base l e T cls h) : ∃ a0, Heap.FlyingW (bigB h l e T) l e cls a0 h := by
  obtain ⟨a0, oe, vs, oT, ts, a1, a2, a3, a4, a6, a7, a8, a9⟩ := x.tr
  exact ⟨a0, fun b o q => bigB_of q, bigB_none (.inr (.inl rfl)), fun_big x.fr fun b hb => List.mem_append_left _ hb, oe, vs, T, oT, ts, a1, a2, a3, a4, bigB_none (.inr (.inr rfl)), a6, a7, a8, a9⟩
structure Kept (l : List Env) (e T : Addr) (h h' : Heap) : Prop where
  keep : ∀ b o, h.get? b = some o → b ∉ frs l → b ≠ e → b ≠ T → h'.get? b = some o
  slot : ∀ b o, h.get? b = some o → b ∈ frs l → ∃ sl, h'.get? b = some { o with slots := sl }
section
variable {M : Model} {A : Around} {E : Value → Shared → Prop} {s : Shared} {base : Heap} {env : Env} {outer : List Env} {L e T : Addr} {cls : Value} {Q : Unit → Shared → Prop}
end
end L2
namespace L2
open PySem PySem.Spec PyProof.Rows
section
variable {X : Cx} {pins : List (Addr × Obj)} {σ : List (Option V)} {H H' : Hp} {s : Shared} {h' : Heap}
theorem ObjOk.there {P : Program} {w : World} {h : Heap} {a : Addr} {o : HO} (x : ObjOk P w H h a o) : ∃ u, h.get? a = some u := by
  cases o with
  | lst xs => obtain ⟨_, _, _, _, e⟩ := x; exact ⟨_, e⟩
  | tup xs => obtain ⟨_, _, _, u, e, _⟩ := x; exact ⟨_, e⟩
  | dK kvs => obtain ⟨_, _, _, _, u, _, _, e, _⟩ := x; exact ⟨_, e⟩
  | dT kvs => obtain ⟨_, _, _, _, u, _, _, e, _⟩ := x; exact ⟨_, e⟩
  | set ks => obtain ⟨u, _, _, _, _, e, _⟩ := x; exact ⟨_, e⟩
  | ins C dx fs => obtain ⟨_, _, _, e, _⟩ := x; exact ⟨_, e⟩
  | own y => obtain ⟨_, e⟩ := x; exact ⟨_, e⟩
  | xd fs => obtain ⟨_, ⟨_, _, _, e, _⟩, _⟩ := x; exact ⟨_, e⟩
  | rng lo hi => obtain ⟨_, _, _, e⟩ := x; exact ⟨_, e⟩
  | frz ob u => obtain ⟨e, _⟩ := x; exact ⟨_, e⟩
  | tbl ps => exact ⟨_, (show h.get? a = some _ from x)⟩
  | met f y => exact ⟨_, (show h.get? a = some _ from x)⟩
  | ext φ => obtain ⟨_, ⟨_, e⟩, _⟩ := x; exact ⟨_, e⟩
theorem HOk.none {P : Program} {w : World} {h : Heap} {a : Addr} (x : HOk P w H h) (e : h.get? a = .none) : H a = .none := by
  cases q : H a with
  | none => rfl
  | some u => obtain ⟨o, z⟩ := (x a u q).there; rw [e] at z; cases z
theorem HOk.trk {P : Program} {w : World} {h h' : Heap} (x : HOk P w H h) (k : ∀ b u o, H b = some u → h.get? b = some o → h'.get? b = some o) : HOk P w H h' := fun a o e =>
  (x a o e).stay (fun b u hb q => by
    rcases hb with rfl | hb
    · exact k _ _ _ e q
    · exact k _ _ _ hb q) (fun _ q => q) fun _ _ q => q
end
def CXE (P : Program) (w : World) (base : Heap) : CXT := fun outer H s E e s' => ∃ a T C H', e = .ref a ∧ Fly base outer a T (.ref C) s'.heap ∧ s.heap.get? a = none ∧ s.heap.get? T = none ∧ H' a = none ∧ H' T = none ∧ s'.os = s.os ∧ AllBare s'.gens ∧
  Un (frs outer) [] H H' s.heap s'.heap ∧ HOk P w H' s'.heap ∧ E (.ref C) none H'
end L2
namespace L2
open PySem PySem.Spec PyProof.Rows
section
variable {M : Model} {A : Around} {E : Value → Shared → Prop} {h : Heap} {g : Array GenState} {d : Drawn} {t : Nat} {os : OsState} {C Ch e : Addr} {oe : Obj} {b : Bool} {Q : Bool → Shared → Prop}
  {nm q : Str} {N : Addr} {bs bm : List Value} {hdct : Bool} {sn : List Str} {sub : List Value} {ab : Bool} {col : Option Bool} {dd : Option Addr} {k0 k1 k2 k3 k5 : Option Value} {newId : String}
  {nm' q' : Str} {N' : Addr} {bs' bm' : List Value} {hdct' : Bool} {sn' : List Str} {sub' : List Value} {ab' : Bool} {col' : Option Bool} {dd' : Option Addr} {k0' k1' k2' k3' k5' : Option Value} {newId' : String}
end
section
variable {X : Cx} {pins : List (Addr × Obj)} {σ : St} {H : Hp} {s : Shared} {e : Value}
end
end L2
namespace L2
open PySem PySem.Spec PyProof.Rows
structure Clss (K : PySem.W.Frag) (C : Addr) (bm : List Value) : Prop where
  ex : ∃ nm q N bs hdct sn sub ab col dd k0 k1 k2 k3 k5 newId, K.lookup C = some (excClassObj nm q C N bs bm hdct sn sub ab col dd k0 k1 k2 k3 k5 newId)
section
variable {X : Cx} {pins : List (Addr × Obj)} {σ : St} {H1 : Hp} {s1 s' : Shared} {e : Value} {E : XK} {cn n : Str} {Ch : Addr} {bmH : List Value} {np hpos : Pos} {b₀ : Stmt} {suite : List Stmt} {EE : Value → Shared → Prop} {D : Ends} {ts : TS}
end
end L2
namespace L2
open PySem PySem.Spec PyProof.Rows
def quiet3 : List Str := ["__getattribute__", "__getattr__", "__class__"]
inductive Tail3 (h : Heap) (bmB : List Value) : List Value → Prop
  | base : Tail3 h bmB bmB
  | own {A : Addr} {c0 : Value} {dd : Option Addr} {cd : ClassData} {sl : Array (Option Value)} {mA : Str → Option Value} {tl : List Value} : h.get? A = some { cls := c0, dict := dd, data := .cls cd, slots := sl } → h.Ns cd.ns mA → (∀ n ∈ quiet3, mA n = none) → Tail3 h bmB tl → Tail3 h bmB (.ref A :: tl)
theorem Tail3.has {h : Heap} {bmB tl : List Value} (T : Tail3 h bmB tl) {x : String} {b : Bool} (e : bmB.contains (.type x) = b) : tl.contains (.type x) = b := by
  induction T with
  | base => exact e
  | own _ _ _ _ ih => rw [List.contains_cons, ih]; rfl
section
variable {M : Model} {A : Around} {E : Value → Shared → Prop} {h : Heap} {g : Array GenState} {d : Drawn} {t : Nat} {os : OsState}
structure Ex3 (h : Heap) (C : Addr) (B : String) (bmB : List Value) : Prop where
  ex : ∃ nm q N bs bm hdct sn sub ab col dd k0 k1 k2 k3 k5 newId mN, h.get? C = some (excClassObj nm q C N bs bm hdct sn sub ab col dd k0 k1 k2 k3 k5 newId) ∧ h.Ns N mN ∧ (∀ n ∈ quiet3, mN n = none) ∧ Tail3 h bmB bm
end
abbrev bmV : List Value := [.type "ValueError", .type "Exception", .type "BaseException", .type "object"]
section
variable {prog : Program} {w : World} {A : Around} {E : Value → Shared → Prop} {h : Heap} {g : Array GenState} {d : Drawn} {t : Nat} {os : OsState} {a C : Addr} {o : Obj}
end
end L2
namespace L2
open PySem PySem.Spec PyProof.Rows
section
variable {X : Cx} {x : Str} {C : Addr} {bm : List Value} {B newId initId : String} {e₀ : Expr} {rest : List Expr} {t : TA} {np cpos pos : Pos} {R : Hp → Prop}
end
section
variable {X : Cx} {CX : CXT} {k : Nat} {f : Addr} {fd : FuncData} {ps : List Str} {sp : Sp} {E : XK} {x : Str} {p pos : Pos} {e : Expr} {es : List Expr} {t : TA} {EE : Value → Shared → Prop} {Q : VK} {pins : List (Addr × Obj)} {σ : St} {H : Hp} {s : Shared}
theorem PA.quiet (h : PA X.nox (e :: es) t) (pos : Pos) (I : Inv X pins σ H s) {Q : List V → Hp → Prop} (q : t σ H Q) : wpAny (model X.prog X.w) X.A (spliced (backTo pos (starEach (e :: es) X.env))) (AP X pins σ Q) EE s :=
  wpAny_mono (h pos pins s σ H Q (I.wish _) q) (fun _ _ ⟨vs, H', I', r, q⟩ => ⟨vs, H', I'.unwish, r, q⟩) fun _ _ z => False.elim z
end
section
variable {X : Cx} {k : Nat} {f Ch : Addr} {fd : FuncData} {ps : List Str} {sp : Sp} {x cn y : Str} {i : Nat} {p pos pos1 pos2 py np hpos : Pos} {e : Expr} {es : List Expr} {t : TA} {bmH : List Value} {b₀ : Stmt} {suite : List Stmt} {ts : TS}
end
end L2
namespace L2
open PySem PySem.Spec PyProof.Rows
section
variable {X : Cx} {pins : List (Addr × Obj)} {σ : St} {H : Hp} {s : Shared}
end
section
variable {X : Cx} {pins : List (Addr × Obj)} {σ : St} {H1 : Hp} {s1 s' : Shared} {e : Value} {E : XK} {cn n : Str} {i : Nat} {Ch : Addr} {bmH : List Value} {np hpos : Pos} {b₀ : Stmt} {suite : List Stmt} {EE : Value → Shared → Prop} {D : Ends} {ts : TS}
end
section
variable {X : Cx} {k : Nat} {f Ch : Addr} {fd : FuncData} {ps : List Str} {sp : Sp} {x cn n : Str} {i : Nat} {p pos pos1 pos2 np hpos : Pos} {e : Expr} {es : List Expr} {t : TA} {bmH : List Value} {b₀ : Stmt} {suite : List Stmt} {ts : TS}
end
end L2
namespace L2
open PySem PySem.Spec PyProof.Rows
structure K3 (K : PySem.W.Frag) (mg : Str → Option Value) (c : Str) (C : Addr) (bm : List Value) : Prop where
  ns : PySem.W.nsIn K mainGlobals c = some (some (.ref C))
  gl : mg c = some (.ref C)
  cl : Clss K C bm
  obj : ∃ o cd, K.lookup C = some o ∧ o.data = .cls cd
  ex : ∀ h, K.In h → Ex3 h C "ValueError" bmV
  own : ∀ h, K.In h → OwnCls c C bmV "ValueError.__new__" mg h
  base : bm.contains (.type "BaseException") = true
  up : ∀ h, K.In h → Tail3 h bmV (.ref C :: bm) ∧ OwnTail h bmV (.ref C :: bm)
end L2
namespace FT
open PySem PySem.Spec PyProof.Rows L2
section
variable {X : Cx} {EX : XX} {e c : Expr} {es : List Expr} {st : Stmt} {sts : List Stmt} {me : G → M D} {k : G → M Bool} {mr : G → M (List D)} {ms : G → M Out}
theorem PS.nox {t : TS} (h : L2.PS X.nox st t) : L2.PS X st t := fun pins s σ H D I hw =>
  wpAny_mono (h pins s σ H D (I.wish _) hw) (fun _ _ q => q.unwish) fun _ _ z => False.elim z
end
def EXof (K : PySem.W.Frag) (E : XK) : XX := fun x _ _ H' => ∀ C, PySem.W.nsIn K mainGlobals x.cls = some (some (.ref C)) → E (.ref C) none H'
section
variable {P : Program} {w : World} {K : PySem.W.Frag} {mg : Str → Option Value} {base : Heap} {N : List Str} {qual c : Str} {scope : Scope} {f C : Addr} {cd : Value} {A : Around} {outer : List Env} {s : Shared} {H : Hp} {E : XK} {bm : List Value}
  {e₀ : Expr} {rest : List Expr} {mr : G → M (List D)} {np cpos pos : Pos}
end
def spX (K : PySem.W.Frag) (mf : List D → M D) (n : Nat) : Sp := fun vs H Q E => vs.length = n ∧ ∃ ρ ds h, RH K ρ h H ∧ RDs K ρ H ds vs ∧ FE K (EXof K E) ρ H Q (mf ds h)
structure FnX (P : Program) (w : World) (K : PySem.W.Frag) (mg : Str → Option Value) (base : Heap) (k : Nat) (x : Str) (n : Nat) (mf : List D → M D) : Prop where
  ex : ∃ f fd ps, FnOk P w K mg base (CXE P w base) k f fd ps (spX K mf n) ∧ Binds K fd ps [] ∧ PySem.W.keepIn K (.ref f) = true ∧ mg x = some (.ref f)
section
variable {X : Cx} {k n i : Nat} {x cn y : Str} {Ch : Addr} {bmH : List Value} {mf : List D → M D} {mr : G → M (List D)} {ok : Str → Bool} {ms : G → M Out} {e : Expr} {es : List Expr} {b₀ : Stmt} {suite : List Stmt} {p pos pos1 pos2 py np hpos : Pos}
end
end FT
namespace L2
open PySem PySem.Spec PyProof.Rows
section
variable {X : Cx}
end
end L2
namespace L2
open PySem PySem.Spec PyProof.Rows
section
variable {X : Cx}
end
end L2
namespace FT
open PySem PySem.Spec PyProof.Rows L2
section
variable {X : Cx} {EX : XX} {a : Expr} {p p2 pos : Pos} {ma : G → M D} {k : Str → Option Bool}
end
theorem fn_zero {P : Program} {w : World} {K : PySem.W.Frag} {mg : Str → Option Value} {base : Heap} {x : Str} {st : Stmt} {f : Addr} {fd : FuncData} {ps : List Str} {k n : Nat} (F : Fun K x x st f fd) (hb : Binds K fd ps []) (mx : mg x = some (.ref f)) (hn : ps.length = n) : Fn P w K mg base k x n (fun _ => bad) :=
  ⟨f, fd, ps, ⟨fun vs H Q E h => h.1.trans hn.symm, fun A outer s H args us vs Q E _ _ _ _ h => by
    obtain ⟨_, ρ, ds, hh, _, _, fin⟩ := h
    exact (show False from fin).elim⟩, hb, F.kp, mx⟩
end FT
namespace FT
open PySem PySem.Spec PyProof.Rows L2
end FT
namespace FT
open PySem PySem.Spec PyProof.Rows L2
section
variable {X : Cx} {EX : XX}
end
end FT
namespace FT
open PySem PySem.Spec PyProof.Rows L2
section
variable {X : Cx} {EX : XX} {a : Expr} {p p2 pos : Pos} {ma : G → M D} {k : Str → Option Bool}
end
end FT
set_option maxHeartbeats 2000000
namespace FT
open PySem PySem.Spec PyProof.Rows L2
variable {α β : Type}
def W (m : M α) (h : AH) (Q : α → AH → Prop) : Prop := ∃ a h', m h = .ok a h' ∧ Q a h'
theorem W_bind {m : M α} {f : α → M β} {h : AH} {Q : β → AH → Prop} : W (m >>= f) h Q ↔ W m h fun a h1 => W (f a) h1 Q := by
  constructor
  · rintro ⟨b, h2, e, q⟩
    rw [bindM] at e
    cases em : m h with
    | ok a h1 => rw [em] at e; exact ⟨a, h1, em, b, h2, e, q⟩
    | err x h1 => rw [em] at e; cases e
    | bad => rw [em] at e; cases e
  · rintro ⟨a, h1, e, b, h2, e', q⟩
    exact ⟨b, h2, by rw [M.bind_ok e, e'], q⟩
theorem W_pure {a : α} {h : AH} {Q : α → AH → Prop} : W (Pure.pure a : M α) h Q ↔ Q a h := by
  constructor
  · rintro ⟨b, h2, e, q⟩; cases e; exact q
  · exact fun q => ⟨a, h, rfl, q⟩
theorem W_bad {h : AH} {Q : α → AH → Prop} : W (bad : M α) h Q ↔ False := by
  constructor
  · rintro ⟨b, h2, e, q⟩; cases e
  · exact False.elim
theorem W_ite {c : Prop} [Decidable c] {m n : M α} {h : AH} {Q : α → AH → Prop} : W (if c then m else n) h Q ↔ if c then W m h Q else W n h Q := by
  split <;> exact Iff.rfl
theorem W.mono {m : M α} {h : AH} {Q Q' : α → AH → Prop} (z : W m h Q) (f : ∀ a h', Q a h' → Q' a h') : W m h Q' := let ⟨a, h', e, q⟩ := z; ⟨a, h', e, f a h' q⟩
theorem W.of {m : M α} {h h' : AH} {a : α} {Q : α → AH → Prop} (e : m h = .ok a h') (q : Q a h') : W m h Q := ⟨a, h', e, q⟩
theorem w_nil {γ : G} {h : AH} {Q : Out → AH → Prop} : W (bNil γ) h Q ↔ Q (.nx γ) h := W_pure
def contW (mt : G → M Out) (Q : Out → AH → Prop) : Out → AH → Prop := fun o h => match o with
  | .nx γ => W (mt γ) h Q
  | o => Q o h
theorem contW_nx {mt : G → M Out} {Q : Out → AH → Prop} {γ : G} {h : AH} : contW mt Q (.nx γ) h ↔ W (mt γ) h Q := Iff.rfl
theorem contW_rt {mt : G → M Out} {Q : Out → AH → Prop} {d : D} {h : AH} : contW mt Q (.rt d) h ↔ Q (.rt d) h := Iff.rfl
theorem w_cons {ms mt : G → M Out} {γ : G} {h : AH} {Q : Out → AH → Prop} : W (bCons ms mt γ) h Q ↔ W (ms γ) h (contW mt Q) := by
  unfold bCons
  rw [W_bind]
  constructor
  · rintro ⟨o, h1, e, q⟩
    refine ⟨o, h1, e, ?_⟩
    cases o with
    | nx γ => exact q
    | rt d => exact (W_pure (a := Out.rt d) (Q := Q)).mp q
    | bk d => exact (W_pure (a := Out.bk d) (Q := Q)).mp q
    | ct d => exact (W_pure (a := Out.ct d) (Q := Q)).mp q
  · rintro ⟨o, h1, e, q⟩
    refine ⟨o, h1, e, ?_⟩
    cases o with
    | nx γ => exact q
    | rt d => exact W_pure.mpr q
    | bk d => exact W_pure.mpr q
    | ct d => exact W_pure.mpr q
def runW (Q : D → AH → Prop) : Out → AH → Prop := fun o h => match o with
  | .nx _ => Q .non h
  | .rt d => Q d h
  | _ => False
theorem w_run {n : Nat} {mb : G → M Out} {ds : List D} {h : AH} {Q : D → AH → Prop} (z : W (mb (startG n ds)) h (runW Q)) : W (runF n mb ds) h Q := by
  unfold runF
  rw [W_bind]
  refine z.mono fun o h1 q => ?_
  cases o with
  | nx γ => exact W_pure.mpr q
  | rt d => exact W_pure.mpr q
  | bk d => exact q.elim
  | ct d => exact q.elim
theorem w_if {k : G → M Bool} {ms mt : G → M Out} {γ : G} {h : AH} {Q : Out → AH → Prop} : W (sIf k ms mt γ) h Q ↔ W (k γ) h fun t h1 => if t = true then W (ms γ) h1 Q else W (mt γ) h1 Q := by
  unfold sIf
  rw [W_bind]
  simp only [W_ite]
theorem add_ii {i j : Int} : fAdd (.int i) (.int j) = pure (.int (i + j)) := rfl
theorem sub_ii {i j : Int} : fSub (.int i) (.int j) = pure (.int (i - j)) := rfl
theorem gt_ii {i j : Int} : fGt (.int i) (.int j) = pure (.bl (decide (j < i))) := rfl
theorem ge_ii {i j : Int} : fGe (.int i) (.int j) = pure (.bl (decide (j ≤ i))) := rfl
theorem lt_ii {i j : Int} : fLt (.int i) (.int j) = pure (.bl (decide (i < j))) := rfl
theorem le_ii {i j : Int} : fLe (.int i) (.int j) = pure (.bl (decide (i ≤ j))) := rfl
theorem eq_ii {i j : Int} {b : Bool} : fEq b (.int i) (.int j) = pure (.bl (decide (i = j) != b)) := rfl
theorem shr_ii {i j : Int} (h : 0 ≤ j) : fShr (.int i) (.int j) = pure (.int (i / 2 ^ j.toNat)) := by
  unfold fShr fIC
  dsimp only
  rw [if_pos (decide_eq_true h)]
theorem div_ii {i j : Int} (h : 0 < j) (h2 : j < 1073741824) : fDiv (.int i) (.int j) = pure (.int (i / j)) := by
  unfold fDiv fIC
  dsimp only
  rw [if_pos (by rw [decide_eq_true h, decide_eq_true h2]; rfl)]
theorem asB_bl {b : Bool} : asB (.bl b) = pure b := rfl
theorem truD_bl {b : Bool} : truD (.bl b) = pure b := rfl
theorem W_asRef {n : Nat} {h : AH} {Q : Nat → AH → Prop} : W (asRef (.ref n)) h Q ↔ W (getL n) h fun _ h1 => Q n h1 := by
  unfold W asRef getL
  dsimp only
  cases e : h[n]? with
  | none => exact ⟨fun ⟨_, _, z, _⟩ => (by cases z), fun ⟨_, _, z, _⟩ => (by cases z)⟩
  | some o =>
    cases o with
    | set ks => exact ⟨fun ⟨_, _, z, _⟩ => (by cases z), fun ⟨_, _, z, _⟩ => (by cases z)⟩
    | dct => exact ⟨fun ⟨_, _, z, _⟩ => (by cases z), fun ⟨_, _, z, _⟩ => (by cases z)⟩
    | dK kvs => exact ⟨fun ⟨_, _, z, _⟩ => (by cases z), fun ⟨_, _, z, _⟩ => (by cases z)⟩
    | dF kvs => exact ⟨fun ⟨_, _, z, _⟩ => (by cases z), fun ⟨_, _, z, _⟩ => (by cases z)⟩
    | exc c => exact ⟨fun ⟨_, _, z, _⟩ => (by cases z), fun ⟨_, _, z, _⟩ => (by cases z)⟩
    | lst xs => exact ⟨fun ⟨_, _, z, q⟩ => (by cases z; exact ⟨xs, h, rfl, q⟩), fun ⟨_, _, z, q⟩ => (by cases z; exact ⟨n, h, rfl, q⟩)⟩
theorem isi_bl {b : Bool} {t : String} : fIsi t (.bl b) = pure (.bl (subT "bool" t)) := rfl
theorem isi_int {b : Int} {t : String} : fIsi t (.int b) = pure (.bl (subT "int" t)) := rfl
theorem isi_str {b : Str} {t : String} : fIsi t (.str b) = pure (.bl (subT "str" t)) := rfl
theorem isi_tup {b : List D} {t : String} : fIsi t (.tup b) = pure (.bl (subT "tuple" t)) := rfl
theorem W.pu {m : M α} {a : α} {h : AH} {Q : α → AH → Prop} (p : Pu m a) (q : ∀ j, Q a (h ++ j)) : W m h Q := let ⟨j, e⟩ := p h; ⟨a, h ++ j, e, q j⟩
def forW (J : G → AH → Prop) (R : D → AH → Prop) : Out → AH → Prop := fun o h => match o with
  | .nx γ => J γ h
  | .ct γ => J γ h
  | .bk _ => False
  | .rt d => R d h
def endW (J : G → AH → Prop) (R : D → AH → Prop) : Out → AH → Prop := fun o h => match o with
  | .nx γ => J γ h
  | .ct _ => False
  | .bk _ => False
  | .rt d => R d h
theorem for_inv {src : Src} {g : D → G → M G} {body : G → M Out} (I : Nat → G → AH → Prop) (R : D → AH → Prop) (good : ∀ i γ h, I i γ h → src.good h) : ∀ (items : List D) (n : Nat) (γ : G) (h : AH),
    (∀ i d γ h, items[i]? = some d → I (n + i) γ h → W (g d γ) h fun γ1 h1 => W (body γ1) h1 (forW (I (n + i + 1)) R)) → I n γ h →
    W (forR src g body items γ) h (endW (I (n + items.length)) R)
  | [], n, γ, h, _, q => ⟨.nx γ, h, by unfold forR Src.chk; simp [good _ _ _ q], q⟩
  | d :: r, n, γ, h, z, q => by
    unfold forR
    rw [W_bind]
    refine W.of (a := ()) (h' := h) (by unfold Src.chk; simp [good _ _ _ q]) ?_
    rw [W_bind]
    refine (z 0 d γ h rfl q).mono fun γ1 h1 q1 => ?_
    rw [W_bind]
    refine q1.mono fun o h2 q2 => ?_
    have step : ∀ γ2, I (n + 0 + 1) γ2 h2 → W (forR src g body r γ2) h2 (endW (I (n + (d :: r).length)) R) := fun γ2 w => by
      have := for_inv (src := src) I R good r (n + 1) γ2 h2 (fun i d γ h e q => by
        have := z (i + 1) d γ h (by simpa using e) (by rw [show n + (i + 1) = n + 1 + i by omega]; exact q)
        rw [show n + (i + 1) + 1 = n + 1 + i + 1 by omega] at this
        exact this) (by simpa using w)
      rw [show n + 1 + r.length = n + (d :: r).length by simp; omega] at this
      exact this
    cases o with
    | nx γ2 => exact step γ2 q2
    | ct γ2 => exact step γ2 q2
    | bk γ2 => exact q2.elim
    | rt v => exact W_pure.mpr q2
theorem w_seq {ms mt : G → M Out} {γ : G} {h : AH} {Q : Out → AH → Prop} (J : G → AH → Prop) (z : W (ms γ) h (endW J fun d h => Q (.rt d) h)) (k : ∀ γ h, J γ h → W (mt γ) h Q) : W (bCons ms mt γ) h Q := by
  rw [w_cons]
  refine z.mono fun o h1 q => ?_
  cases o with
  | nx γ => exact k γ h1 q
  | rt d => exact q
  | bk d => exact q.elim
  | ct d => exact q.elim
theorem ints_filter (n : Nat) (p : D → Bool) (f : D → D) : ((intsD n).filter p).map f = ((List.range n).filter fun (i : Nat) => p (.int i)).map fun (i : Nat) => f (.int i) := by
  unfold intsD
  rw [List.filter_map, List.map_map]
  rfl
theorem intsD_get {n i : Nat} {d : D} (e : (intsD n)[i]? = some d) : d = .int i ∧ i < n := by
  unfold intsD at e
  rw [List.getElem?_map] at e
  obtain ⟨j, e1, e2⟩ := Option.map_eq_some_iff.mp e
  obtain ⟨h1, h2⟩ := List.getElem?_eq_some_iff.mp e1
  simp at h1 h2
  subst h2
  exact ⟨e2.symm, h1⟩
theorem for_range {ma : G → M D} {i : Nat} {body : G → M Out} {γ : G} {h : AH} (I : Nat → G → AH → Prop) (R : D → AH → Prop) {Q : Out → AH → Prop}
    (hs : W (ma γ) h fun d h1 => ∃ n : Nat, d = .int n ∧ n < 4611686018427387904 ∧ I 0 γ h1 ∧ (∀ k γ h, k < n → I k γ h → W (body (γ.set i (some (.int k)))) h (forW (I (k + 1)) R)) ∧ (∀ γ h', I n γ h' → Q (.nx γ) h') ∧ ∀ d h', R d h' → Q (.rt d) h') :
    W (sFor (iRange ma) (gN i) body γ) h Q := by
  unfold sFor iRange
  rw [W_bind, W_bind]
  refine hs.mono fun d h1 ⟨n, e, hn, i0, st, fin⟩ => ?_
  subst e
  dsimp only
  rw [if_pos (by omega), W_pure]
  have := for_inv (src := .con (intsD (n : Int).toNat)) (g := gN i) (body := body) I R (fun _ _ _ _ => trivial) (intsD (n : Int).toNat) 0 γ h1 (fun k d γ h e q => by
    obtain ⟨rfl, hk⟩ := intsD_get e
    rw [Nat.zero_add] at q ⊢
    exact W_pure.mpr (st k γ h (by simpa using hk) q)) i0
  rw [show 0 + (intsD (n : Int).toNat).length = n by unfold intsD; simp] at this
  refine this.mono fun o h' q => ?_
  cases o with
  | nx γ => exact fin.1 γ h' q
  | rt d => exact fin.2 d h' q
  | bk d => exact q.elim
  | ct d => exact q.elim
theorem for_src {mi : G → M Src} {g : D → G → M G} {body : G → M Out} {γ : G} {h : AH} (I : Nat → G → AH → Prop) (R : D → AH → Prop) {Q : Out → AH → Prop}
    (hs : W (mi γ) h fun src h1 => I 0 γ h1 ∧ (∀ i γ h, I i γ h → src.good h) ∧ (∀ i d γ h, src.items[i]? = some d → I i γ h → W (g d γ) h fun γ1 h1 => W (body γ1) h1 (forW (I (i + 1)) R)) ∧ (∀ γ h', I src.items.length γ h' → Q (.nx γ) h') ∧ ∀ d h', R d h' → Q (.rt d) h') :
    W (sFor mi g body γ) h Q := by
  unfold sFor
  rw [W_bind]
  refine hs.mono fun src h1 ⟨i0, good, st, fin⟩ => ?_
  have := for_inv (src := src) (g := g) (body := body) I R good src.items 0 γ h1 (fun k d γ h e q => by
    rw [Nat.zero_add] at q ⊢
    exact st k d γ h e q) i0
  rw [Nat.zero_add] at this
  refine this.mono fun o h' q => ?_
  cases o with
  | nx γ => exact fin.1 γ h' q
  | rt d => exact fin.2 d h' q
  | bk d => exact q.elim
  | ct d => exact q.elim
theorem range_src {ma : G → M D} {γ : G} {h h1 : AH} {n : Nat} (e : ma γ h = .ok (.int n) h1) (hn : n < 4611686018427387904) : iRange ma γ h = .ok (.con (intsD n)) h1 := by
  unfold iRange
  rw [M.bind_ok e]
  dsimp only
  rw [if_pos (by omega)]
  rfl
theorem compR_px {g : D → G → M G} {k : G → M Bool} {me : G → M D} {γ : G} {p : D → Bool} {f : D → D} (src : Src) (h0 : AH) (hg : ∀ j, src.good (h0 ++ j)) : ∀ (items : List D) (acc : List D), acc.length + items.length ≤ 1000000 →
    (∀ d ∈ items, ∃ γ1, (∀ h, g d γ h = .ok γ1 h) ∧ (∀ j, k γ1 (h0 ++ j) = .ok (p d) (h0 ++ j)) ∧ (p d = true → ∀ j, me γ1 (h0 ++ j) = .ok (f d) (h0 ++ j))) →
    compR src g k me h0.length γ items (h0 ++ [.lst acc]) = .ok () (h0 ++ [.lst (acc ++ (items.filter p).map f)])
  | [], acc, hl, hd => by unfold compR Src.chk; simp [hg]
  | d :: r, acc, hl, hd => by
    obtain ⟨γ1, e1, e2, e3⟩ := hd d List.mem_cons_self
    unfold compR
    have chk : src.chk (h0 ++ [.lst acc]) = .ok () (h0 ++ [.lst acc]) := by unfold Src.chk; simp [hg]
    rw [M.bind_ok chk, M.bind_ok (e1 _), M.bind_ok (e2 _)]
    simp only [List.length_cons] at hl
    have hr : ∀ d ∈ r, ∃ γ1, (∀ h, g d γ h = .ok γ1 h) ∧ (∀ j, k γ1 (h0 ++ j) = .ok (p d) (h0 ++ j)) ∧ (p d = true → ∀ j, me γ1 (h0 ++ j) = .ok (f d) (h0 ++ j)) := fun x hx => hd x (List.mem_cons_of_mem _ hx)
    cases hp : p d with
    | false =>
      rw [if_neg (by decide), compR_px src h0 hg r acc (by omega) hr, List.filter_cons, hp]
      rfl
    | true =>
      rw [if_pos rfl, M.bind_ok (e3 hp _)]
      have ap : fAppend h0.length (f d) (h0 ++ [.lst acc]) = .ok .non (h0 ++ [.lst (acc ++ [f d])]) := by
        unfold fAppend updL
        have g1 : (h0 ++ [O.lst acc])[h0.length]? = some (.lst acc) := by simp
        rw [g1]
        dsimp only
        have hs : (acc ++ [f d]).length ≤ sizeLine := by
          rw [List.length_append, List.length_singleton]
          exact Nat.le_trans (show acc.length + 1 ≤ 1000000 by omega) (by decide)
        rw [if_pos hs]
        simp
      rw [M.bind_ok ap, compR_px src h0 hg r (acc ++ [f d]) (by simp; omega) hr, List.filter_cons, hp]
      simp
theorem comp_px {cap : List (Option Nat)} {mi : G → M Src} {g : D → G → M G} {k : G → M Bool} {me : G → M D} {γ : G} {src : Src} {h : AH} (p : D → Bool) (f : D → D) (hi : mi γ h = .ok src h) (hg : ∀ j, src.good (h ++ j)) (hl : src.items.length ≤ 1000000)
    (hd : ∀ d ∈ src.items, ∃ γ1, (∀ h, g d (capG cap γ) h = .ok γ1 h) ∧ (∀ j, k γ1 (h ++ j) = .ok (p d) (h ++ j)) ∧ (p d = true → ∀ j, me γ1 (h ++ j) = .ok (f d) (h ++ j))) :
    eComp cap mi g k me γ h = .ok (.ref h.length) (h ++ [.lst ((src.items.filter p).map f)]) := by
  have e := compR_px (g := g) (k := k) (me := me) (γ := capG cap γ) (p := p) (f := f) src h hg src.items [] (by simpa using hl) hd
  show (mi γ >>= _) h = _
  rw [M.bind_ok hi]
  rw [M.bind_ok (m := (fun h => Res.ok (List.length h) (h ++ [O.lst []]) : M Nat)) (h := h) rfl]
  rw [M.bind_ok (by simpa using e)]
  rfl
end FT
namespace FT
open PySem PySem.Spec PyProof.Rows L2
def Kp (r r' : AH) : Prop := ∀ (n : Nat) (o : O), r[n]? = some o → r'[n]? = some o
theorem Kp.refl (r : AH) : Kp r r := fun _ _ e => e
theorem Kp.trans {a b c : AH} (h : Kp a b) (h' : Kp b c) : Kp a c := fun n o e => h' n o (h n o e)
theorem Kp.app (r j : AH) : Kp r (r ++ j) := fun n o e => by
  rw [List.getElem?_append_left (List.getElem?_eq_some_iff.mp e).1, e]
theorem Kp.set {r r' : AH} {n : Nat} {o : O} (h : Kp r r') (hn : r.length ≤ n) : Kp r (r'.set n o) := fun m o' e => by
  have := (List.getElem?_eq_some_iff.mp e).1
  rw [List.getElem?_set_ne (by omega)]
  exact h m o' e
theorem Kp.len {r r' : AH} (h : Kp r r') : r.length ≤ r'.length := by
  by_cases e : r.length = 0
  · omega
  · have := h (r.length - 1) r[r.length - 1] (List.getElem?_eq_getElem (by omega))
    have := (List.getElem?_eq_some_iff.mp this).1
    omega
theorem compR_w {src : Src} {g : D → G → M G} {k : G → M Bool} {me : G → M D} {n0 : Nat} {γ : G} (I : Nat → AH → Prop) (good : ∀ i h, I i h → src.good h) : ∀ (items : List D) (n : Nat) (h : AH),
    (∀ i d h, items[i]? = some d → I (n + i) h → W (g d γ) h fun γ1 h1 => W (k γ1) h1 fun t h2 => if t = true then W (me γ1) h2 fun v h3 => W (fAppend n0 v) h3 fun _ h4 => I (n + i + 1) h4 else I (n + i + 1) h2) → I n h →
    W (compR src g k me n0 γ items) h fun _ h' => I (n + items.length) h'
  | [], n, h, _, q => ⟨(), h, by unfold compR Src.chk; simp [good _ _ q], q⟩
  | d :: r, n, h, z, q => by
    have more : ∀ h2, I (n + 0 + 1) h2 → W (compR src g k me n0 γ r) h2 fun _ h' => I (n + (d :: r).length) h' := fun h2 q2 => by
      have := compR_w (src := src) (g := g) (k := k) (me := me) (n0 := n0) (γ := γ) I good r (n + 1) h2 (fun i d h e q => by
        have := z (i + 1) d h (by simpa using e) (by rw [show n + (i + 1) = n + 1 + i by omega]; exact q)
        rw [show n + (i + 1) + 1 = n + 1 + i + 1 by omega] at this
        exact this) (by simpa using q2)
      rw [show n + 1 + r.length = n + (d :: r).length by simp; omega] at this
      exact this
    unfold compR
    rw [W_bind]
    refine W.of (a := ()) (h' := h) (by unfold Src.chk; simp [good _ _ q]) ?_
    rw [W_bind]
    refine (z 0 d h rfl q).mono fun γ1 h1 q1 => ?_
    rw [W_bind]
    refine q1.mono fun t h2 q2 => ?_
    cases t with
    | false => rw [if_neg (by decide)] at q2 ⊢; exact more h2 q2
    | true =>
      rw [if_pos rfl] at q2 ⊢
      rw [W_bind]
      refine q2.mono fun v h3 q3 => ?_
      rw [W_bind]
      exact q3.mono fun _ h4 q4 => more h4 q4
theorem comp_w {cap : List (Option Nat)} {mi : G → M Src} {g : D → G → M G} {k : G → M Bool} {me : G → M D} {γ : G} {h : AH} {Q : D → AH → Prop}
    (hs : W (mi γ) h fun src h1 => ∃ I : Nat → AH → Prop, I 0 (h1 ++ [.lst []]) ∧ (∀ i h, I i h → src.good h) ∧
      (∀ i d h, src.items[i]? = some d → I i h → W (g d (capG cap γ)) h fun γ1 h1' => W (k γ1) h1' fun t h2 => if t = true then W (me γ1) h2 fun v h3 => W (fAppend h1.length v) h3 fun _ h4 => I (i + 1) h4 else I (i + 1) h2) ∧
      ∀ h', I src.items.length h' → Q (.ref h1.length) h') : W (eComp cap mi g k me γ) h Q := by
  unfold eComp
  rw [W_bind]
  refine hs.mono fun src h1 ⟨I, i0, good, st, fin⟩ => ?_
  rw [W_bind]
  refine W.of (a := h1.length) (h' := h1 ++ [.lst []]) rfl ?_
  rw [W_bind]
  have := compR_w (src := src) (g := g) (k := k) (me := me) (n0 := h1.length) (γ := capG cap γ) I good src.items 0 (h1 ++ [.lst []]) (fun i d h e q => by
    rw [Nat.zero_add] at q ⊢
    exact st i d h e q) i0
  rw [Nat.zero_add] at this
  refine this.mono fun _ h' q => ?_
  rw [W_pure]
  exact fin h' q
end FT
namespace FT
open PySem PySem.Spec PyProof.Rows L2
def Pi (I : AH → Prop) {α : Type} (m : M α) (a : α) : Prop := ∀ h, I h → ∃ j, m h = .ok a (h ++ j)
class Grow (I : AH → Prop) : Prop where
  app : ∀ h j, I h → I (h ++ j)
section
variable {I : AH → Prop} [Grow I]
theorem Pi.pure {α : Type} (a : α) : Pi I (Pure.pure a : M α) a := fun h _ => ⟨[], by simp⟩
theorem Pi.bind {α β : Type} {m : M α} {f : α → M β} {a : α} {b : β} (h1 : Pi I m a) (h2 : Pi I (f a) b) : Pi I (m >>= f) b := fun h i => by
  obtain ⟨j, e⟩ := h1 h i
  obtain ⟨j', e'⟩ := h2 (h ++ j) (Grow.app h j i)
  exact ⟨j ++ j', by rw [M.bind_ok e, e', List.append_assoc]⟩
theorem Pi.of {α : Type} {m : M α} {a : α} (h : ∀ x, m x = .ok a x) : Pi I m a := fun x _ => ⟨[], by rw [h]; simp⟩
theorem Pi.at {α : Type} {m : M α} {a : α} (h : ∀ x, I x → m x = .ok a x) : Pi I m a := fun x i => ⟨[], by rw [h x i]; simp⟩
end
end FT
namespace FT
open PySem PySem.Spec PyProof.Rows L2
section
variable {I : AH → Prop} [Grow I] {J J' : G → Prop}
end
end FT
namespace FT
open PySem PySem.Spec PyProof.Rows L2
def Pool (gr sm : List Int) (s c : Int) (r : AH) : AH := .lst (gr.map .int) :: .lst (sm.map .int) :: .lst [.ref 0, .ref 1, .int s, .int c] :: r
def PS (h : AH) (k : Int) (r : AH) : Prop := ∃ gr sm s c, h = Pool gr sm s c r ∧ 0 ≤ s ∧ s < 2147483647 ∧ 0 ≤ c ∧ c ≤ k ∧ gr.length ≤ 63 ∧ sm.length ≤ 63
theorem PS.up {h : AH} {k k' : Int} {r : AH} (p : PS h k r) (hk : k ≤ k') : PS h k' r := by
  obtain ⟨gr, sm, s, c, e, h1, h2, h3, h4, h5, h6⟩ := p
  exact ⟨gr, sm, s, c, e, h1, h2, h3, by omega, h5, h6⟩
theorem PS.app {h : AH} {k : Int} {r : AH} (p : PS h k r) (j : AH) : PS (h ++ j) k (r ++ j) := by
  obtain ⟨gr, sm, s, c, e, q⟩ := p
  exact ⟨gr, sm, s, c, by rw [e]; rfl, q⟩
theorem PS.get {h : AH} {k : Int} {r : AH} (p : PS h k r) (n : Nat) : h[n + 3]? = r[n]? := by
  obtain ⟨gr, sm, s, c, e, q⟩ := p
  rw [e]; rfl
theorem PS.len {h : AH} {k : Int} {r : AH} (p : PS h k r) : h.length = r.length + 3 := by
  obtain ⟨gr, sm, s, c, e, q⟩ := p
  rw [e]; rfl
theorem PS.set {h : AH} {k : Int} {r : AH} (p : PS h k r) (n : Nat) (o : O) : PS (h.set (n + 3) o) k (r.set n o) := by
  obtain ⟨gr, sm, s, c, e, q⟩ := p
  exact ⟨gr, sm, s, c, by rw [e]; rfl, q⟩
theorem w_getL {h : AH} {k : Int} {r : AH} {n : Nat} {xs : List D} {Q : List D → AH → Prop} (p : PS h k r) (e : r[n]? = some (.lst xs)) (q : Q xs h) : W (getL (n + 3)) h Q :=
  ⟨xs, h, by unfold getL; rw [p.get, e], q⟩
theorem w_newL {h : AH} {k : Int} {r : AH} {xs : List D} {Q : D → AH → Prop} (p : PS h k r) (hl : xs.length ≤ 1000000) (z : ∀ h', PS h' k (r ++ [.lst xs]) → Q (.ref (r.length + 3)) h') : W (newL xs) h Q :=
  ⟨.ref (r.length + 3), h ++ [.lst xs], by unfold newL; rw [if_pos (Nat.le_trans hl (by decide)), p.len], z _ (p.app _)⟩
theorem w_append {h : AH} {k : Int} {r : AH} {n : Nat} {xs : List D} {v : D} {Q : D → AH → Prop} (p : PS h k r) (e : r[n]? = some (.lst xs)) (hl : xs.length < 1000000) (z : ∀ h', PS h' k (r.set n (.lst (xs ++ [v]))) → Q .non h') : W (fAppend (n + 3) v) h Q :=
  ⟨.non, h.set (n + 3) (.lst (xs ++ [v])), by
    unfold fAppend updL
    rw [p.get, e]
    dsimp only
    rw [if_pos (Nat.le_trans (by simp; omega : (xs ++ [v]).length ≤ 1000000) (by decide))], z _ (p.set _ _)⟩
theorem at_app {r j : AH} {n : Nat} {o : O} (e : r[n]? = some o) : (r ++ j)[n]? = some o := by
  rw [List.getElem?_append_left (List.getElem?_eq_some_iff.mp e).1, e]
theorem at_new {r : AH} {o : O} : (r ++ [o])[r.length]? = some o := by simp
def goodN (x : Str) : Prop := 1 ≤ x.length ∧ x.length ≤ 8 ∧ (∀ c ∈ x.cps.toList, 97 ≤ c ∧ c ≤ 122) ∧
  x ∉ (["yes", "no", "not", "and", "or", "step", "some", "all", "next", "once", "ever", "until", "unless"] : List Str)
theorem len_str (x : Str) : x.length = x.cps.toList.length := by simp [Str.length]
def low (x : Str) : Prop := ∀ c ∈ x.cps.toList, 97 ≤ c ∧ c ≤ 122
theorem w_ixr {h : AH} {k : Int} {r : AH} {n : Nat} {xs : List D} {i : Int} {d : D} {Q : D → AH → Prop} (p : PS h k r) (e : r[n]? = some (.lst xs)) (a : atI xs i = some d) (q : Q d h) : W (fIx (.ref (n + 3)) (.int i)) h Q := by
  show W (getL (n + 3) >>= fun xs => match atI xs i with | some d => pure d | none => bad) h Q
  rw [W_bind]
  refine w_getL p e ?_
  rw [a]
  exact W_pure.mpr q
def NS (ns : List Str) : Prop := ns.Nodup ∧ ∀ x ∈ ns, goodN x
def stD (l : List Nat) : List D := l.map fun (i : Nat) => .int i
structure MK (l : List Str) : Prop where
  len : l.length ≤ 8
  good : ∀ x ∈ l, goodN x
  rise : l.Pairwise fun a b => a.cps.toList < b.cps.toList
structure MA (st : List (List Nat)) (mk : List (List Str)) : Prop where
  l1 : 1 ≤ st.length
  l2 : st.length ≤ 40
  l3 : mk.length = st.length
  s1 : ∀ l ∈ st, l.Pairwise (· < ·)
  s2 : ∀ l ∈ st, ∀ x ∈ l, x < st.length
  m1 : ∀ l ∈ mk, MK l
def stsD (st : List (List Nat)) : List D := st.map fun l => .tup (stD l)
def mksD (mk : List (List Str)) : List D := mk.map fun l => .tup (l.map .str)
def maD (st : List (List Nat)) (mk : List (List Str)) : D := .tup [.tup (stsD st), .tup (mksD mk)]
theorem le_cps (a b : Str) : leS a b = true ↔ a.cps.toList ≤ b.cps.toList := by
  unfold leS
  simp [List.not_lt]
theorem sortS_rise {l : List Str} (h : l.Nodup) : (sortS l).Pairwise fun a b => a.cps.toList < b.cps.toList := by
  have s : (sortS l).Pairwise fun a b => leS a b = true := List.pairwise_mergeSort (fun a b c h1 h2 => (le_cps a c).mpr (List.le_trans ((le_cps a b).mp h1) ((le_cps b c).mp h2)))
    (fun a b => by
      rw [Bool.or_eq_true, le_cps, le_cps]
      exact List.le_total _ _) l
  have n : (sortS l).Nodup := (List.mergeSort_perm l leS).nodup_iff.mpr h
  refine (List.Pairwise.and s n).imp fun {a b} q => ?_
  obtain ⟨q1, q2⟩ := q
  have q3 := (le_cps a b).mp q1
  by_cases lt : a.cps.toList < b.cps.toList
  · exact lt
  · exact absurd (str_ext (List.le_antisymm q3 (List.not_lt.mp lt))) q2
theorem sortS_mem {l : List Str} {x : Str} : x ∈ sortS l ↔ x ∈ l := (List.mergeSort_perm l leS).mem_iff
theorem sortS_len (l : List Str) : (sortS l).length = l.length := (List.mergeSort_perm l leS).length_eq
theorem strs_map : ∀ l : List Str, strsD (l.map .str) = some l
  | [] => rfl
  | a :: l => by simp [strsD, strs_map l]
def pick (ns : List Str) (p : Nat → Bool) : List Str := ((List.range ns.length).filter p).map fun i => (ns[i]?).getD ""
theorem pick_mk {ns : List Str} (hn : NS ns) (hl : ns.length ≤ 8) (p : Nat → Bool) : MK (sortS (pick ns p)) := by
  have nd : (pick ns p).Nodup := by
    unfold pick
    rw [List.nodup_iff_pairwise_ne, List.pairwise_map]
    refine List.Pairwise.imp_of_mem ?_ (List.Pairwise.filter p List.nodup_range)
    intro a b ha hb hne e
    have la : a < ns.length := by simpa using (List.mem_filter.mp ha).1
    have lb : b < ns.length := by simpa using (List.mem_filter.mp hb).1
    rw [List.getElem?_eq_getElem la, List.getElem?_eq_getElem lb] at e
    simp at e
    exact hne ((List.getElem_inj hn.1).mp e)
  have le : (pick ns p).length ≤ ns.length := by
    unfold pick
    rw [List.length_map]
    refine Nat.le_trans (List.length_filter_le _ _) ?_
    simp
  refine ⟨by rw [sortS_len]; omega, fun x hx => ?_, sortS_rise nd⟩
  rw [sortS_mem] at hx
  unfold pick at hx
  obtain ⟨i, hi, rfl⟩ := List.mem_map.mp hx
  have la : i < ns.length := by simpa using (List.mem_filter.mp hi).1
  rw [List.getElem?_eq_getElem la]
  exact hn.2 _ (List.getElem_mem la)
theorem pick_len (ns : List Str) (p : Nat → Bool) : (pick ns p).length ≤ ns.length := by
  unfold pick
  rw [List.length_map]
  refine Nat.le_trans (List.length_filter_le _ _) ?_
  simp
def AM (st : List (List Nat)) (mk : List (List Str)) (n : Nat) : Prop := (∀ l ∈ st, l.Pairwise (· < ·)) ∧ (∀ l ∈ st, ∀ x ∈ l, x < n) ∧ ∀ l ∈ mk, MK l
theorem lt_of_at {r : AH} {i : Nat} {o : O} (e : r[i]? = some o) : i < r.length := (List.getElem?_eq_some_iff.mp e).1
theorem map_filter_int (ns : List Int) (p : D → Bool) : ((ns.map D.int).filter p).map (fun d => d) = (ns.filter fun i => p (.int i)).map D.int := by
  rw [List.map_id', List.filter_map]
  rfl
theorem pow18 : fPow (.int 10) (.int 18) = pure (.int 1000000000000000000) := rfl
theorem len_tup (xs : List D) : fLen [.tup xs] = pure (.int xs.length) := rfl
theorem ix_tup {xs : List D} {i : Int} {d : D} (a : atI xs i = some d) : fIx (.tup xs) (.int i) = pure d := by
  have : fIx (.tup xs) (.int i) = (pure xs >>= fun xs => match atI xs i with | some d => pure d | none => bad) := rfl
  rw [this]
  show (match atI xs i with | some d => pure d | none => bad) = _
  rw [a]
theorem st_at {l : List Nat} {c : Nat} (hc : c < l.length) : atI (stD l) (c : Int) = some (.int ((l[c]?).getD 0 : Nat)) := by
  refine atI_nat ?_
  unfold stD
  rw [List.getElem?_map, List.getElem?_eq_getElem hc]
  rfl
end FT
namespace FT
open PySem PySem.Spec PyProof.Rows L2
theorem fl_tup (xs : List D) : fList [.tup xs] = newL xs := rfl
theorem ad_ref (i j : Nat) : fAdd (.ref i) (.ref j) = (do let x ← getL i; let y ← getL j; newL (x ++ y)) := rfl
theorem at_any {xs : List D} {i : Int} (h0 : 0 ≤ i) (h1 : i < xs.length) : ∃ d ∈ xs, atI xs i = some d := by
  obtain ⟨n, rfl⟩ := Int.eq_ofNat_of_zero_le h0
  have hn : n < xs.length := by omega
  exact ⟨xs[n], List.getElem_mem hn, atI_nat (List.getElem?_eq_getElem hn)⟩
theorem cut_len (xs : List D) (lo hi : Option Int) : (cutD xs lo hi).length ≤ xs.length := by
  unfold cutD
  rw [List.length_take, List.length_drop]
  omega
theorem add_tt {x y : List D} (h : x.length + y.length ≤ 1000000) : fAdd (.tup x) (.tup y) = pure (.tup (x ++ y)) := by
  show (if !decide (x.length + y.length ≤ sizeLine) then _ else _) = _
  rw [decide_eq_true (Nat.le_trans h (by decide))]
  rfl
end FT
namespace FT
open PySem PySem.Spec PyProof.Rows L2
section
variable {P : Program} {w : World} {K : PySem.W.Frag} {mg : Str → Option Value} {base : Heap}
theorem fn_ok {x : Str} {st : Stmt} {f : Addr} {fd : FuncData} {N ps : List Str} {k n : Nat} {mb : G → M Out} (F : Fun K x x st f fd) (S : FnScope N ps (defScope st)) (hn : ps.length = n)
    (body : ∀ (cdv : Value) (A : Around) (outer : List Env) (s : Shared) (H : Hp) (E : XK), Room k (A.deeper (envOfC x (defScope st) s.heap.objs.size f cdv)) →
      SB (cxOf CX0 P w K mg base N x (defScope st) f cdv A outer s H E).nox EX0 (defBody st) mb) : FnOk P w K mg base CX0 (k + 1) f fd ps (spB K (runF N.length mb) n) := by
  refine F.ok S (fun vs H Q E h => h.1.trans hn.symm) (fun cdv A outer s H vs Q E hr h => ?_)
  obtain ⟨hl, ρ, ds, h, rh, rd, fin⟩ := h
  refine ⟨_, (body cdv A outer s H E hr).h, ρ, startG N.length ds, h, ⟨start_rel rd, rh⟩, ?_⟩
  refine (Fin.bind fin).mono fun o ρ1 h1 H1 p1 e1 r1 f1 => ?_
  cases o with
  | nx γ => exact fun σ _ => FE.here (d := .non) (h := h1) f1 r1 (by simp [RD])
  | rt d => exact fun v rv => f1 ρ1 H1 (Pre.refl _) (Ext.refl _ _) r1 v rv
  | bk γ => exact (show False from f1).elim
  | ct γ => exact (show False from f1).elim
theorem bindsTo1 {x p : Str} {st : Stmt} {f : Addr} {fd : FuncData} (F : Fun K x x st f fd)
    (h : ∀ (kV doc pm : Value) (an : Option Addr) (cdv ct u : Value), bindArgs (PySem.W.fnOf x x (defArgs st) (defBody st) (defScope st) .none kV doc pm an cdv ct) ⟨[u], []⟩ = pure [(p, u)]) : ∀ (s : Shared) (u : Value), BindsTo s fd ⟨[u], []⟩ [(p, u)] := by
  obtain ⟨oc, od, kV, doc, pm, an, cdv, ct, osl, rfl, lk, hcd⟩ := F.ex
  exact fun s u => .of_eq (h kV doc pm an cdv ct u)
end
theorem law_walk {l : PySem.W.OpenLaw} {q : Program} {loose : List Str} {XP : (Str → Option Value) → Heap → Prop} {YP : World → Heap → Prop} {d : DefRec} {K : Params → PySem.W.Frag} {m : List D → M D} {p : Str} {lev : Nat} (hn : l.most = some 63) (hdf : d.params.defaults = []) (hr : Room lev callerA)
    (hY : ∀ (w : World) (h : Heap), YP w h → (K w.params).In h)
    (F : ∀ (w : World) (mg : Str → Option Value) (fa : Addr) (h : Heap), (K w.params).In h → h.Ns mainGlobals mg → mg d.name = some (.ref fa) →
      ∃ fd : FuncData, (∀ (s : Shared) (u : Value), BindsTo s fd ⟨[u], []⟩ [(p, u)]) ∧ ∀ base : Heap, (K w.params).In base → base.Ns mainGlobals mg → FnOk l.prog w (K w.params) mg base CX0 lev fa fd [p] (spB (K w.params) m 1))
    (math : ∀ ns : List Int, ns.length ≤ 63 → ∃ h', m [.fl (ns.map .int)] [] = .ok (.bl true) h') :
    PySem.W.WalkO q loose XP YP l.row.toRowW d [] (fun f vs => PySem.call f vs) := by
  refine L2.walk_of (n := 63) (k := lev) (x := p) (CX := fun _ => CX0) (sp := fun w => spB (K w.params) m 1) hn (by decide) hdf hr hY F (fun w H a ns hl hO hS => ?_) fun _ _ _ _ _ z => z
  obtain ⟨h', e⟩ := math ns hl
  have sq : SqLP (K w.params) H a (ns.map V.int) := by
    rcases hS with (h | ⟨o, h⟩) | h
    · rcases hO a with z | ⟨ob, xs, z⟩ <;> rw [h] at z <;> cases z
    · exact .inl ⟨o, h⟩
    · exact .inr h
  refine ⟨rfl, [], [.fl (ns.map .int)], [], ⟨rfl, fun i j a h => by simp at h, fun n o a h => by simp at h⟩, RDs.cons ?_ RDs.nil, ?_⟩
  · simp only [RD]
    exact ⟨a, _, rfl, sq, rds_ints ns⟩
  · rw [e]
    exact fun ρ' H' _ _ _ v rv => by simpa [RD] using rv
end FT
namespace FT
open PySem PySem.Spec PyProof.Rows L2
mutual
def refLt (n : Nat) : D → Bool
  | .ref i => decide (i < n)
  | .tup xs => refLts n xs
  | .fl xs => refLts n xs
  | _ => true
def refLts (n : Nat) : List D → Bool
  | [] => true
  | d :: r => refLt n d && refLts n r
end
def refO (n : Nat) : O → Bool
  | .lst xs => refLts n xs
  | .dK kvs => refLts n (kvs.map (·.2))
  | .dF kvs => refLts n (kvs.map (·.2))
  | _ => true
def Kept (h h1 : AH) : Prop := ∀ (i : Nat) (o : O), i < h.length → h1[i]? = some o → h[i]? = some o ∨ refO h.length o = true
section
variable {K : PySem.W.Frag} {ρ ρ' : List Addr} {H : Hp}
theorem take_at {ρ : List Addr} {n i : Nat} (h : i < n) : (ρ.take n)[i]? = ρ[i]? := by rw [List.getElem?_take, if_pos h]
mutual
theorem RD.cut {n : Nat} : ∀ {d : D} {v : V}, refLt n d = true → RD K ρ H d v → RD K (ρ.take n) H d v
  | .non, v, _, h => by simpa [RD] using h
  | .bl b, v, _, h => by simpa [RD] using h
  | .int b, v, _, h => by simpa [RD] using h
  | .str b, v, _, h => by simpa [RD] using h
  | .tup ds, v, c, h => by
    simp only [RD, refLt] at h c ⊢
    obtain ⟨a, xs, h1, h2, h3⟩ := h
    exact ⟨a, xs, h1, h2, RDs.cut c h3⟩
  | .fl ds, v, c, h => by
    simp only [RD, refLt] at h c ⊢
    obtain ⟨a, xs, h1, h2, h3⟩ := h
    exact ⟨a, xs, h1, h2, RDs.cut c h3⟩
  | .ref i, v, c, h => by
    simp only [RD, refLt, decide_eq_true_eq] at h c ⊢
    obtain ⟨a, h1, h2⟩ := h
    exact ⟨a, h1, by rw [take_at c]; exact h2⟩
theorem RDs.cut {n : Nat} : ∀ {ds : List D} {xs : List V}, refLts n ds = true → RDs K ρ H ds xs → RDs K (ρ.take n) H ds xs
  | [], xs, _, h => by simpa [RDs] using h
  | d :: ds, xs, c, h => by
    simp only [RDs, refLts, Bool.and_eq_true] at h c ⊢
    obtain ⟨x, r, h1, h2, h3⟩ := h
    exact ⟨x, r, h1, RD.cut c.1 h2, RDs.cut c.2 h3⟩
end
mutual
theorem RD.low : ∀ {d : D} {v : V}, RD K ρ H d v → refLt ρ.length d = true
  | .non, v, h => rfl
  | .bl b, v, h => rfl
  | .int b, v, h => rfl
  | .str b, v, h => rfl
  | .tup ds, v, h => by
    simp only [RD, refLt] at h ⊢
    obtain ⟨a, xs, h1, h2, h3⟩ := h
    exact RDs.low h3
  | .fl ds, v, h => by
    simp only [RD, refLt] at h ⊢
    obtain ⟨a, xs, h1, h2, h3⟩ := h
    exact RDs.low h3
  | .ref i, v, h => by
    simp only [RD, refLt, decide_eq_true_eq] at h ⊢
    obtain ⟨a, h1, h2⟩ := h
    exact (List.getElem?_eq_some_iff.mp h2).1
theorem RDs.low : ∀ {ds : List D} {xs : List V}, RDs K ρ H ds xs → refLts ρ.length ds = true
  | [], xs, h => rfl
  | d :: ds, xs, h => by
    simp only [RDs, refLts, Bool.and_eq_true] at h ⊢
    obtain ⟨x, r, h1, h2, h3⟩ := h
    exact ⟨RD.low h2, RDs.low h3⟩
end
theorem RK.cut {n : Nat} : ∀ {kvs : List (Key × D)} {vs : List (Key × V)}, refLts n (kvs.map (·.2)) = true → RK K ρ H kvs vs → RK K (ρ.take n) H kvs vs
  | _, _, _, .nil => .nil
  | _, _, c, .cons a b => by
    simp only [List.map_cons, refLts, Bool.and_eq_true] at c
    exact .cons ⟨a.1, a.2.cut c.1⟩ (RK.cut c.2 b)
theorem RK.low : ∀ {kvs : List (Key × D)} {vs : List (Key × V)}, RK K ρ H kvs vs → refLts ρ.length (kvs.map (·.2)) = true
  | _, _, .nil => rfl
  | _, _, .cons a b => by
    simp only [List.map_cons, refLts, Bool.and_eq_true]
    exact ⟨a.2.low, RK.low b⟩
theorem RO.cut {n : Nat} {o : O} {a : Addr} (c : refO n o = true) (h : RO K ρ H o a) : RO K (ρ.take n) H o a := by
  cases o with
  | lst ds => obtain ⟨xs, h1, h2⟩ := h; exact ⟨xs, h1, h2.cut c⟩
  | set ks => exact h
  | dct => exact h
  | dK kvs => obtain ⟨vs, h1, h2⟩ := h; exact ⟨vs, h1, h2.cut c⟩
  | dF kvs => obtain ⟨ob, vs, h1, h2⟩ := h; exact ⟨ob, vs, h1, h2.cut c⟩
  | exc c => exact h
theorem RO.low {o : O} {a : Addr} (h : RO K ρ H o a) : refO ρ.length o = true := by
  cases o with
  | lst ds => obtain ⟨xs, h1, h2⟩ := h; exact h2.low
  | set ks => rfl
  | dct => rfl
  | dK kvs => obtain ⟨vs, h1, h2⟩ := h; exact h2.low
  | dF kvs => obtain ⟨ob, vs, h1, h2⟩ := h; exact h2.low
  | exc c => rfl
theorem RH.cut {h : AH} {n : Nat} (r : RH K ρ h H) (c : ∀ o ∈ h.take n, refO n o = true) : RH K (ρ.take n) (h.take n) H := by
  refine ⟨by simp [r.len], fun i j a h1 h2 => ?_, fun m o a h1 h2 => ?_⟩
  · rw [List.getElem?_take] at h1 h2
    split at h1
    · split at h2
      · exact r.nd i j a h1 h2
      · cases h2
    · cases h1
  · have hm := List.mem_of_getElem? h1
    rw [List.getElem?_take] at h1 h2
    split at h1
    · rename_i q
      rw [if_pos q] at h2
      exact (r.obj m o a h1 h2).cut (c o hm)
    · cases h1
theorem RH.cut1 {h : AH} {n i : Nat} {o : O} (r : RH K ρ h H) (c : ∀ o ∈ h.take n, refO n o = true) (hn : n ≤ h.length) (hi : n ≤ i) (e : h[i]? = some o) (co : refO n o = true) : ∃ a, ρ[i]? = some a ∧ RH K (ρ.take n ++ [a]) (h.take n ++ [o]) H := by
  obtain ⟨a, ea, ra⟩ := r.at e
  have r1 := r.cut c
  have ln : (ρ.take n).length = n := by rw [List.length_take, r.len]; omega
  have lh : (h.take n).length = n := by rw [List.length_take]; omega
  have ne : ∀ {m : Nat} {b : Addr}, (ρ.take n)[m]? = some b → b ≠ a := fun {m b} q z => by
    have hm := (List.getElem?_eq_some_iff.mp q).1
    rw [ln] at hm
    rw [take_at hm, z] at q
    have := r.nd m i a q ea
    omega
  refine ⟨a, ea, by simp [r1.len], fun i j b h1 h2 => ?_, fun m u b h1 h2 => ?_⟩
  · rw [List.getElem?_append] at h1 h2
    split at h1 <;> split at h2
    · exact r1.nd i j b h1 h2
    · rename_i q1 q2
      rw [List.getElem?_singleton] at h2
      split at h2
      · cases h2; exact absurd rfl (ne h1)
      · cases h2
    · rename_i q1 q2
      rw [List.getElem?_singleton] at h1
      split at h1
      · cases h1; exact absurd rfl (ne h2)
      · cases h1
    · rw [List.getElem?_singleton] at h1 h2
      split at h1
      · split at h2
        · omega
        · cases h2
      · cases h1
  · rw [List.getElem?_append] at h1 h2
    rw [ln] at h2
    rw [lh] at h1
    split at h1
    · rename_i q
      rw [if_pos q] at h2
      exact (r1.obj m u b h1 h2).mono (Pre.app _ _) (Ext.refl _ _) rfl
    · rename_i q
      rw [if_neg q] at h2
      rw [List.getElem?_singleton] at h1 h2
      split at h1
      · rename_i q0
        rw [if_pos q0] at h2
        cases h1; cases h2
        exact (ra.cut co).mono (Pre.app _ _) (Ext.refl _ _) rfl
      · cases h1
end
theorem kept_cl {K : PySem.W.Frag} {ρ : List Addr} {h h1 : AH} {H : Hp} (r : RH K ρ h H) (c : Kept h h1) : ∀ o ∈ h1.take h.length, refO h.length o = true := fun o ho => by
  obtain ⟨i, hi⟩ := List.getElem?_of_mem ho
  rw [List.getElem?_take] at hi
  split at hi
  · rename_i li
    rcases c i o li hi with q | q
    · obtain ⟨a, _, ra⟩ := r.at q
      rw [← r.len]
      exact ra.low
    · exact q
  · cases hi
theorem kept_app (h j : AH) : Kept h (h ++ j) := fun i o li e => .inl (by rw [List.getElem?_append_left li] at e; exact e)
open Classical in
noncomputable def cln (m : M D) : M D := fun h => match m h with
  | .ok d h1 => if h.length ≤ h1.length ∧ Kept h h1 then
      (if refLt h.length d = true then .ok d (h1.take h.length) else match d with
        | .ref i => (match h1[i]? with
          | some o => if refO h.length o = true then .ok (.ref h.length) (h1.take h.length ++ [o]) else .ok d h1
          | none => .ok d h1)
        | d => .ok d h1)
    else .ok d h1
  | .err x h1 => .err x h1
  | .bad => .bad
theorem FE.cln {K : PySem.W.Frag} {EX : XX} {ρ : List Addr} {h : AH} {H : Hp} {Q : VK} {m : M D} (r : RH K ρ h H) (f : FE K EX ρ H Q (cln m h)) : FE K EX ρ H Q (m h) := by
  unfold FT.cln at f
  cases e : m h with
  | bad => rw [e] at f; exact f
  | err x h1 => rw [e] at f; exact f
  | ok d h1 =>
    rw [e] at f
    dsimp only at f
    split at f
    · rename_i c
      obtain ⟨hl, c⟩ := c
      have cl := kept_cl r c
      have pre : ∀ {ρ1 : List Addr}, Pre ρ ρ1 → Pre ρ (ρ1.take h.length) := fun {ρ1} p i a q => by
        have := (List.getElem?_eq_some_iff.mp q).1
        rw [r.len] at this
        rw [take_at this]
        exact p i a q
      split at f
      · rename_i cd
        exact fun ρ1 H1 p1 e1 r1 v rv => f _ H1 (pre p1) e1 (r1.cut cl) v (rv.cut cd)
      · rename_i nd
        split at f
        · rename_i i
          split at f
          · rename_i o eo
            split at f
            · rename_i co
              intro ρ1 H1 p1 e1 r1 v rv
              have hi : h.length ≤ i := by
                simp only [refLt, decide_eq_true_eq] at nd
                omega
              obtain ⟨a, ea, r2⟩ := r1.cut1 cl hl hi eo co
              refine f _ H1 ((pre p1).trans (Pre.app _ _)) e1 r2 v ?_
              simp only [RD] at rv ⊢
              obtain ⟨b, h2, h3⟩ := rv
              rw [ea] at h3; cases h3
              refine ⟨a, h2, ?_⟩
              have ln : (ρ1.take h.length).length = h.length := by rw [List.length_take, r1.len]; omega
              rw [List.getElem?_append_right (by omega), ln]
              simp
            · exact f
          · exact f
        · exact f
    · exact f
noncomputable def clE (m : G → M D) : G → M D := fun γ => cln (m γ)
theorem se_cln {X : Cx} {EX : XX} {e : Expr} {m : G → M D} (h : SE X EX e m) : SE X EX e (clE m) :=
  ⟨PE.imp h.h fun σ H Q ⟨ρ, γ, h, rel, fin⟩ => ⟨ρ, γ, h, rel, FE.cln rel.h fin⟩⟩
open Classical in
noncomputable def clT (m : G → M Bool) : G → M Bool := fun γ h => match m γ h with
  | .ok d h1 => if h.length ≤ h1.length ∧ Kept h h1 then .ok d (h1.take h.length) else .ok d h1
  | .err x h1 => .err x h1
  | .bad => .bad
theorem Fn.cln {P : Program} {w : World} {K : PySem.W.Frag} {mg : Str → Option Value} {base : Heap} {k : Nat} {x : Str} {n : Nat} {mf : List D → M D} (F : Fn P w K mg base k x n mf) : Fn P w K mg base k x n (fun ds => cln (mf ds)) := by
  obtain ⟨f, fd, ps, h1, h2, h3, h4⟩ := F.ex
  exact ⟨f, fd, ps, h1.imp fun vs H Q E ⟨hl, ρ, ds, h, rh, rd, fin⟩ => ⟨hl, ρ, ds, h, rh, rd, FE.cln rh fin⟩, h2, h3, h4⟩
theorem FnX.cln {P : Program} {w : World} {K : PySem.W.Frag} {mg : Str → Option Value} {base : Heap} {k : Nat} {x : Str} {n : Nat} {mf : List D → M D} (F : FnX P w K mg base k x n mf) : FnX P w K mg base k x n (fun ds => cln (mf ds)) := by
  obtain ⟨f, fd, ps, h1, h2, h3, h4⟩ := F.ex
  exact ⟨f, fd, ps, h1.imp fun vs H Q E ⟨hl, ρ, ds, h, rh, rd, fin⟩ => ⟨hl, ρ, ds, h, rh, rd, FE.cln rh fin⟩, h2, h3, h4⟩
end FT
namespace L2
open PySem PySem.Spec PyProof.Rows PySem.Builtin
theorem noFill_tuple_mul : fillsNumberSlot (.type "tuple") "mul" = pure false :=
  PySem.fillsNumberSlot_seq (id := "tuple.__mul__") (r := some (.builtin "tuple.__rmul__")) PySem.F.slot_tuple_mul.lookup (by decide +kernel) PySem.F.slot_tuple_rmul.lookup (by decide +kernel)
theorem repeat_tuple : seqRepeat? (.type "tuple") = pure (some (.builtin "tuple.__mul__")) := by
  unfold seqRepeat?
  rw [PySem.seqSlot_of (T := "tuple") (name := "__mul__") (id := "tuple.__mul__") PySem.F.slot_tuple_mul.lookup (by decide +kernel), PySem.seqSlot_of (T := "tuple") (name := "__rmul__") (id := "tuple.__rmul__") PySem.F.slot_tuple_rmul.lookup (by decide +kernel)]
  rfl
theorem rmul_it (a : Int) (t : Tok) (l : Addr) (items : Array Value) (n : Nat) (dd : Option Addr) (sl : Array (Option Value)) :
    Meets (Builtin.«int.__rmul__» ⟨[.int a t, .ref l], []⟩) (fun _ R s => s.heap.get? l = some { cls := .type "tuple", dict := dd, data := .seq items n, slots := sl } ∧ R (.ok (.ret Value.notImplemented)) s) :=
  .of_wp fun prog w A R s h => by obtain ⟨hp, g, d, tk, os⟩ := s; obtain ⟨hl, h⟩ := h; wp_walk; exact ⟨_, rfl, h⟩
theorem mul_t0 (l : Addr) (items : Array Value) (n : Nat) (dd : Option Addr) (sl : Array (Option Value)) (x : Int) (u : Tok) (h1 : -(2 ^ 63) ≤ x) (h2 : x < 2 ^ 63) (hc : items.isEmpty = true ∨ x = 1) :
    Meets (Builtin.«tuple.__mul__» ⟨[.ref l, .int x u], []⟩) (fun _ R s => s.heap.get? l = some { cls := .type "tuple", dict := dd, data := .seq items n, slots := sl } ∧ R (.ok (.ret (Value.ref l))) s) :=
  .of_wp fun prog w A R s h => by
    obtain ⟨hp, g, d, tk, os⟩ := s; obtain ⟨hl, h⟩ := h
    have f1 := PySem.AutoSeq1.idx_int
    have c1 : (decide (x < -(2 ^ 63)) || decide (x ≥ 2 ^ 63)) = false := by simp; omega
    have c2 : (items.isEmpty || x == 1) = true := by simpa using hc
    wp_walk using wpAny_loadPart' hl
    refine wpAny_ite_false (by rw [c1]; rfl) ?_
    wp_walk using wpAny_loadPart' hl
    exact ⟨_, rfl, h⟩
theorem mul_t1 (l : Addr) (items : Array Value) (n : Nat) (dd : Option Addr) (sl : Array (Option Value)) (x : Int) (u : Tok) (h1 : -(2 ^ 63) ≤ x) (h2 : x < 2 ^ 63) (hc : items.isEmpty = false) (hx : x ≤ 0) :
    Meets (Builtin.«tuple.__mul__» ⟨[.ref l, .int x u], []⟩) (fun _ R s => s.heap.get? l = some { cls := .type "tuple", dict := dd, data := .seq items n, slots := sl } ∧ R (.ok (.ret (Value.ref s.heap.objs.size))) { s with heap := s.heap.push { cls := Value.type "tuple", data := Data.seq #[] }, toks := s.toks }) :=
  .of_wp fun prog w A R s h => by
    obtain ⟨hp, g, d, tk, os⟩ := s; obtain ⟨hl, h⟩ := h
    have f1 := PySem.AutoSeq1.idx_int
    have c1 : (decide (x < -(2 ^ 63)) || decide (x ≥ 2 ^ 63)) = false := by simp; omega
    have c2 : (items.isEmpty || x == 1) = false := by rw [hc]; simp; omega
    have c3 : (decide (x ≤ 0) || items.isEmpty) = true := by simp [hx]
    wp_walk using wpAny_loadPart' hl
    refine wpAny_ite_false (by rw [c1]; rfl) ?_
    wp_walk using wpAny_loadPart' hl
    refine wpAny_ite_false (by rw [c2]; rfl) ?_
    wp_walk using wpAny_loadPart' hl
    exact ⟨_, rfl, h⟩
theorem mul_t2 (l : Addr) (items : Array Value) (n : Nat) (dd : Option Addr) (sl : Array (Option Value)) (x : Int) (u : Tok) (h1 : -(2 ^ 63) ≤ x) (h2 : x < 2 ^ 63) (hc : items.isEmpty = false) (hx : 1 < x) (hz : items.size * x.toNat ≤ sizeLine) :
    Meets (Builtin.«tuple.__mul__» ⟨[.ref l, .int x u], []⟩) (fun _ R s => s.heap.get? l = some { cls := .type "tuple", dict := dd, data := .seq items n, slots := sl } ∧ R (.ok (.ret (Value.ref s.heap.objs.size))) { s with heap := s.heap.push { cls := Value.type "tuple", data := Data.seq (List.foldl (fun x1 x2 => x1 ++ x2) #[] (List.replicate x.toNat items)) }, toks := s.toks }) :=
  .of_wp fun prog w A R s h => by
    obtain ⟨hp, g, d, tk, os⟩ := s; obtain ⟨hl, h⟩ := h
    have f1 := PySem.AutoSeq1.idx_int
    have c1 : (decide (x < -(2 ^ 63)) || decide (x ≥ 2 ^ 63)) = false := by simp; omega
    have c2 : (items.isEmpty || x == 1) = false := by rw [hc]; simp; omega
    have c3 : (decide (x ≤ 0) || items.isEmpty) = false := by rw [hc]; simp; omega
    have ez : (items.size : Int) * x = ((items.size * x.toNat : Nat) : Int) := by
      rw [Int.natCast_mul, Int.toNat_of_nonneg (by omega)]
    have sl4 : (sizeLine : Nat) ≤ 2 ^ 24 := by decide
    have c4 : ¬ (items.size : Int) * x > (2 ^ 63 - 1) / 8 := by rw [ez]; omega
    have c5 : Tuple.tupleTooMany ((items.size : Int) * x) = false := by
      unfold Tuple.tupleTooMany
      rw [ez, decide_eq_false_iff_not]
      omega
    wp_walk using wpAny_loadPart' hl
    refine wpAny_ite_false (by rw [c1]; rfl) ?_
    wp_walk using wpAny_loadPart' hl
    refine wpAny_ite_false (by rw [c2]; rfl) ?_
    wp_walk using wpAny_loadPart' hl
    refine wpAny_ite_false (by rw [c3]; rfl) ?_
    wp_walk using wpAny_loadPart' hl
    rw [if_neg c4]
    wp_walk using wpAny_loadPart' hl
    refine wpAny_ite_false (by rw [c5]; rfl) ?_
    wp_walk using wpAny_loadPart' hl
    have c6 : ¬ (List.foldl (fun x1 x2 => x1 ++ x2) #[] (List.replicate x.toNat items)).size > sizeLine := by
      have f0 := foldl_rep items.toList x.toNat []
      rw [List.nil_append] at f0
      have : (List.foldl (fun x1 x2 => x1 ++ x2) #[] (List.replicate x.toNat items)) = (List.replicate x.toNat items.toList).flatten.toArray := f0
      rw [this, List.size_toArray, len_rep, Array.length_toList, Nat.mul_comm]
      omega
    refine wpAny_ite_false (decide_eq_false c6) ?_
    wp_walk using wpAny_loadPart' hl
    exact ⟨_, rfl, h⟩
def rRepT (K : PySem.W.Frag) : R2 := fun x y H Q => ∃ a k xs, x = .ref a ∧ y = .int k ∧ SqT K H a xs ∧ -(2 ^ 63) ≤ k ∧ k < 2 ^ 63 ∧ xs.length * k.toNat ≤ sizeLine ∧
  ((xs = [] ∨ k = 1) → Q (.ref a) H) ∧ (∀ p, H p = none → Q (.ref p) (upd H p (.tup (List.replicate k.toNat xs).flatten)))
theorem op_repT {X : Cx} : OpR X (binaryOp .Mult) (rRepT X.K) := by
  intro pins s σ H x y v u Q I rx ry h
  obtain ⟨a, k, xs, rfl, rfl, ha, h1, h2, hz, q1, q2⟩ := h
  cases rx
  obtain ⟨t, rfl⟩ := ry
  obtain ⟨its, r1, p1, _⟩ := I.tuple ha
  obtain ⟨⟨cls, dd, data, sl⟩, ho, hc, n, hd⟩ := id p1
  simp only at hc hd
  subst hc hd
  have go : ∀ (R : Value → Shared → Prop), wpAny (model X.prog X.w) X.A (call (.builtin "tuple.__mul__") [.ref a, .int k t]) R X.xe s → wpAny (model X.prog X.w) X.A (binaryOp .Mult (.ref a) (.int k t)) R X.xe s := fun R z =>
    wpAny_binaryOp_repeat_ref (T := "tuple") (U := "int") (by decide) ⟨_, ho, rfl⟩ (fun s' => typeIs_int s' k t) noFill_tuple_mul PySem.F.fills_int_mul PySem.F.slot_int_rmul repeat_tuple PySem.F.slot_int_index.lookup
      (call_meets PySem.F.slot_int_rmul (typeIs_int s k t) PySem.F.entry_int_rmul (PySem.F.args_int_rmul_2 _ _) (rmul_it k t a its.toArray n dd sl) ⟨ho, rfl, ⟨_, ho, rfl⟩, z⟩)
  refine go _ ?_
  have ln : its.length = xs.length := r1.length.symm
  by_cases c : xs = [] ∨ k = 1
  · refine call_meets PySem.F.slot_tuple_mul ⟨_, ho, rfl⟩ PySem.F.entry_tuple_mul (PySem.F.args_tuple_mul_2 _ _) (mul_t0 a its.toArray n dd sl k t h1 h2 ?_) ⟨ho, .ref a, H, I, rfl, q1 c⟩
    rcases c with c | c
    · left
      have : its = [] := r1.nil_iff.mpr c
      rw [this]; rfl
    · exact .inr c
  · have ne : its.toArray.isEmpty = false := by
      cases its with
      | nil => exact absurd (.inl (r1.nil_iff.mp rfl)) c
      | cons a r => rfl
    by_cases k0 : k ≤ 0
    · refine call_meets PySem.F.slot_tuple_mul ⟨_, ho, rfl⟩ PySem.F.entry_tuple_mul (PySem.F.args_tuple_mul_2 _ _) (mul_t1 a its.toArray n dd sl k t h1 h2 ne k0) ⟨ho, ?_⟩
      have e0 : k.toNat = 0 := by omega
      refine ⟨.ref s.heap.objs.size, _, I.laid (t' := s.toks) (o := .tup (List.replicate k.toNat xs).flatten) (fun b ob q => Heap.get?_push_of_some _ q) (Nat.le_refl _) ?_, rfl, q2 _ (I.hok.fresh (Nat.le_refl _))⟩
      rw [e0]
      exact ⟨by simp, _, .nil, FT.IsTup0.new _ _⟩
    · have k2 : 1 < k := by
        have : k ≠ 1 := fun z => c (.inr z)
        omega
      refine call_meets PySem.F.slot_tuple_mul ⟨_, ho, rfl⟩ PySem.F.entry_tuple_mul (PySem.F.args_tuple_mul_2 _ _) (mul_t2 a its.toArray n dd sl k t h1 h2 ne k2 (by rw [List.size_toArray, ln]; exact hz)) ⟨ho, ?_⟩
      refine ⟨.ref s.heap.objs.size, _, I.laid (t' := s.toks) (o := .tup (List.replicate k.toNat xs).flatten) (fun b ob q => Heap.get?_push_of_some _ q) (Nat.le_refl _) ?_, rfl, q2 _ (I.hok.fresh (Nat.le_refl _))⟩
      refine ⟨by rw [len_rep, Nat.mul_comm]; exact hz, _, r1.rep k.toNat, ?_⟩
      have f0 := foldl_rep its k.toNat []
      rw [List.nil_append] at f0
      have e : (List.foldl (fun x1 x2 => x1 ++ x2) #[] (List.replicate k.toNat its.toArray)) = (List.replicate k.toNat its).flatten.toArray := f0
      rw [e]
      exact FT.IsTup0.new _ _
end L2
namespace FT
open PySem PySem.Spec PyProof.Rows L2
def fMul2 : D → D → M D
  | .tup x, .int j => if decide (-(2 ^ 63) ≤ j) && decide (j < 2 ^ 63) && decide (j.toNat * x.length ≤ sizeLine) then pure (.tup (List.replicate j.toNat x).flatten) else bad
  | x, y => fMul x y
theorem br_mul2 {X : Cx} {EX : XX} : BR X.K EX (fun x y H Q => (rI CMul (fun i j => .int (i * j)) x y H Q ∨ rRep x y H Q) ∨ rRepT X.K x y H Q) fMul2 := by
  intro ρ h H x y v u Q r rx ry fin
  unfold fMul2 at fin
  split at fin
  · rename_i ds j
    simp only [RD] at rx ry
    obtain ⟨a, xs, rfl, sq, rd⟩ := rx
    subst ry
    split at fin
    · rename_i hc
      simp only [Bool.and_eq_true, decide_eq_true_eq] at hc
      have hl := rd.length
      refine .inr ⟨a, j, xs, rfl, rfl, sq, hc.1.1, hc.1.2, by rw [← hl, Nat.mul_comm]; exact hc.2, fun c => ?_, fun p hp => FE.tup fin r (rd.flat j.toNat) hp⟩
      refine FE.here fin r ?_
      simp only [RD]
      refine ⟨a, xs, rfl, sq, ?_⟩
      rcases c with c | c
      · subst c
        have : ds = [] := by simpa using hl
        subst this
        have : (List.replicate j.toNat ([] : List D)).flatten = [] := by simp
        rw [this]; exact rd
      · subst c
        have : (List.replicate (1 : Int).toNat ds).flatten = ds := by simp
        rw [this]; exact rd
    · exact fin.elim
  · exact .inl (br_mul ρ h H x y v u Q r rx ry fin)
theorem se_mul2 {X : Cx} {EX : XX} {a b : Expr} {pos : Pos} {ma mb : G → M D} (ha : SE X EX a ma) (hb : SE X EX b mb) : SE X EX (.BinOp a .Mult b pos) (e2 fMul2 ma mb) := se_op ((op_mul.or op_rep).or op_repT) br_mul2 ha hb
end FT
namespace FT
open PySem PySem.Spec PyProof.Rows L2
structure KD (K : PySem.W.Frag) (dk : Addr) (name : Str) (d : D) (v : V) (u : Value) : Prop where
  ns : PySem.W.nsIn K dk name = some (some u)
  rel : RelV v u
  rd : ∀ ρ H, RD K ρ H d v
structure FnR (P : Program) (w : World) (K : PySem.W.Frag) (mg : Str → Option Value) (base : Heap) (k : Nat) (x : Str) (st : Stmt) (dk : Addr) (ps : List Str) (mf : List D → M D) : Prop where
  ex : ∃ (f : Addr) (doc pm : Value) (an : Option Addr) (cdv ct : Value), FnOk P w K mg base CX0 k f (PySem.W.fnOf x x (defArgs st) (defBody st) (defScope st) .none (.ref dk) doc pm an cdv ct) ps (spB K mf ps.length) ∧ PySem.W.keepIn K (.ref f) = true ∧ mg x = some (.ref f)
theorem FnR.cln {P : Program} {w : World} {K : PySem.W.Frag} {mg : Str → Option Value} {base : Heap} {k : Nat} {x : Str} {st : Stmt} {dk : Addr} {ps : List Str} {mf : List D → M D} (F : FnR P w K mg base k x st dk ps mf) : FnR P w K mg base k x st dk ps (fun ds => FT.cln (mf ds)) := by
  obtain ⟨f, doc, pm, an, cdv, ct, h1, h2, h3⟩ := F.ex
  exact ⟨f, doc, pm, an, cdv, ct, h1.imp fun vs H Q E ⟨hl, ρ, ds, h, rh, rd, fin⟩ => ⟨hl, ρ, ds, h, rh, rd, FE.cln rh fin⟩, h2, h3⟩
structure FnP (P : Program) (w : World) (K : PySem.W.Frag) (mg : Str → Option Value) (base : Heap) (k : Nat) (x : Str) (n : Nat) (ks : List Str) (d1 d2 : List D) (mf : List D → M D) : Prop where
  ex : ∃ f fd ps g gV v1 v2, FnOk P w K mg base CX0 k f fd ps (spB K mf ps.length) ∧ KBinds K fd ps ks g gV ∧ PySem.W.keepIn K (.ref f) = true ∧ mg x = some (.ref f) ∧ (∀ vs zs : List V, vs.length = n → zs.length = ks.length → gV vs zs = vs ++ (v1 ++ zs ++ v2) ∧ (gV vs zs).length = ps.length) ∧
    ∀ ρ H, RDs K ρ H d1 v1 ∧ RDs K ρ H d2 v2
structure SK (X : Cx) (EX : XX) (kws : List Keyword) (m : G → M (List D)) : Prop where
  h : PK X kws (tL X.K EX m)
theorem PK.imp {X : Cx} {e : List Keyword} {t t' : TA} (h : PK X e t) (f : ∀ σ H Q, t' σ H Q → t σ H Q) : PK X e t' := fun pos pins s σ H Q I z => h pos pins s σ H Q I (f σ H Q z)
section
variable {X : Cx} {a e : Expr} {es : List Expr} {kws : List Keyword} {pos p kpos : Pos} {mr mk : G → M (List D)} {ma : G → M D} {nm : Option Str} {EX : XX}
end
end FT
namespace L2
open PySem PySem.Spec PyProof.Rows
open PySem.AutoSeq1 (wpAny_loadPart')
section
variable {prog : Program} {w : World} {A : Around} {E : Value → Shared → Prop} {s : Shared}
end
section
variable {X : Cx}
end
end L2
namespace FT
open PySem PySem.Spec PyProof.Rows L2
section
variable {X : Cx} {EX : XX} {a : Expr} {p p2 pos pos2 : Pos} {ma : G → M D}
end
end FT
namespace FT
open PySem PySem.Spec PyProof.Rows L2
inductive Vw where
  | flat (d : D) | tup (xs : List D) | lst (xs : List D) | no
def vw (h : AH) : D → Vw
  | .tup xs => .tup xs
  | .fl xs => .lst xs
  | .ref i => match h[i]? with
    | some (.lst xs) => .lst xs
    | _ => .no
  | d => .flat d
def eqZ (f : D → D → Option Bool) : List D → List D → Option Bool
  | [], [] => some true
  | x :: xs, y :: ys => match f x y, eqZ f xs ys with
    | some a, some b => some (a && b)
    | _, _ => none
  | _, _ => some false
def eqN : Nat → AH → D → D → Option Bool
  | 0, _, _, _ => none
  | n + 1, h, x, y => match vw h x, vw h y with
    | .flat a, .flat b => some (eqF a b)
    | .tup xs, .tup ys => eqZ (eqN n h) xs ys
    | .lst xs, .lst ys => eqZ (eqN n h) xs ys
    | .no, _ => none
    | _, .no => none
    | _, _ => some false
def eqE (f : D → D → Option Bool) (xs ys : List D) (j : Nat) : Bool := (f (xs.getD j .non) (ys.getD j .non)).getD false
theorem eqZ_spec {f : D → D → Option Bool} : ∀ {xs ys : List D} {b : Bool}, eqZ f xs ys = some b →
    (∀ j x y, xs[j]? = some x → ys[j]? = some y → f x y = some (eqE f xs ys j)) ∧ b = ((List.range (min xs.length ys.length)).all (eqE f xs ys) && xs.length == ys.length)
  | [], [], b, h => by
    unfold eqZ at h; cases h
    exact ⟨fun j x y e => by simp at e, by simp⟩
  | [], y :: ys, b, h => by
    unfold eqZ at h; cases h
    exact ⟨fun j x y e => by simp at e, by simp⟩
  | x :: xs, [], b, h => by
    unfold eqZ at h; cases h
    exact ⟨fun j x y _ e => by simp at e, by simp⟩
  | x :: xs, y :: ys, b, h => by
    unfold eqZ at h
    split at h
    · rename_i a c e1 e2
      cases h
      obtain ⟨q1, q2⟩ := eqZ_spec e2
      refine ⟨fun j p q ep eq => ?_, ?_⟩
      · cases j with
        | zero => simp at ep eq; subst ep; subst eq; unfold eqE; simp [e1]
        | succ j => simpa [eqE] using q1 j p q (by simpa using ep) (by simpa using eq)
      · rw [q2]
        have : min (x :: xs).length (y :: ys).length = min xs.length ys.length + 1 := by simp
        rw [this, List.range_succ_eq_map, List.all_cons, List.all_map, ← Bool.and_assoc]
        congr 1
        · unfold eqE
          simp [e1, Function.comp_def]
        · simp
    · cases h
section
variable {K : PySem.W.Frag} {ρ : List Addr} {h : AH} {H : Hp}
theorem vw_flat {d a : D} (e : vw h d = .flat a) : a = d ∧ flatD d = true := by
  cases d <;> simp [vw] at e <;> first | (subst e; exact ⟨rfl, rfl⟩) | skip
  split at e <;> cases e
theorem vw_tup {d : D} {xs : List D} {v : V} (e : vw h d = .tup xs) (r : RD K ρ H d v) : ∃ a vs, v = .ref a ∧ SqT K H a vs ∧ RDs K ρ H xs vs := by
  cases d <;> simp [vw] at e
  · subst e; simpa [RD] using r
  · split at e <;> cases e
theorem vw_lst {d : D} {xs : List D} {v : V} (rh : RH K ρ h H) (e : vw h d = .lst xs) (r : RD K ρ H d v) : ∃ a vs, v = .ref a ∧ SqL K H a vs ∧ RDs K ρ H xs vs := by
  cases d <;> simp [vw] at e
  · subst e
    simp only [RD] at r
    obtain ⟨a, vs, h1, h2, h3⟩ := r
    exact ⟨a, vs, h1, h2.sq, h3⟩
  · split at e
    · rename_i i xs' ei
      cases e
      simp only [RD] at r
      obtain ⟨a, h1, h2⟩ := r
      obtain ⟨a', h3, vs, h4, h5⟩ := rh.at ei
      rw [h2] at h3; cases h3
      exact ⟨a, vs, h1, SqL.of h4, h5⟩
    · cases e
end
section
variable {X : Cx} {pins : List (Addr × Obj)} {σ : L2.St} {ρ : List Addr} {h : AH} {H : Hp} {s : Shared}
theorem flat_no {K : PySem.W.Frag} {a : Addr} : ∀ {d : D}, flatD d = true → RD K ρ H d (.ref a) → False
  | .non, _, r => by simp [RD] at r
  | .bl _, _, r => by simp [RD] at r
  | .int _, _, r => by simp [RD] at r
  | .str _, _, r => by simp [RD] at r
  | .tup _, f, _ => by cases f
  | .fl _, f, _ => by cases f
  | .ref _, f, _ => by cases f
theorem eqF_self : ∀ {d : D}, flatD d = true → eqF d d = true
  | .non, _ => rfl
  | .bl _, _ => by simp [eqF]
  | .int _, _ => by simp [eqF]
  | .str _, _ => by simp [eqF]
  | .tup _, f => by cases f
  | .fl _, f => by cases f
  | .ref _, f => by cases f
def flV : D → V
  | .bl b => .bl b
  | .int i => .int i
  | .str x => .str x
  | _ => .non
theorem flat_V {K : PySem.W.Frag} : ∀ {d : D} {v : V}, flatD d = true → RD K ρ H d v → v = flV d
  | .non, _, _, r => by simp only [RD] at r; exact r
  | .bl _, _, _, r => by simp only [RD] at r; exact r
  | .int _, _, _, r => by simp only [RD] at r; exact r
  | .str _, _, _, r => by simp only [RD] at r; exact r
  | .tup _, _, f, _ => by cases f
  | .fl _, _, f, _ => by cases f
  | .ref _, _, f, _ => by cases f
theorem flV_inj : ∀ {a b : D}, flatD a = true → flatD b = true → flV a = flV b → a = b
  | .non, .non, _, _, _ => rfl
  | .bl _, .bl _, _, _, e => by cases e; rfl
  | .int _, .int _, _, _, e => by cases e; rfl
  | .str _, .str _, _, _, e => by cases e; rfl
  | .non, .bl _, _, _, e => by cases e
  | .non, .int _, _, _, e => by cases e
  | .non, .str _, _, _, e => by cases e
  | .bl _, .non, _, _, e => by cases e
  | .bl _, .int _, _, _, e => by cases e
  | .bl _, .str _, _, _, e => by cases e
  | .int _, .non, _, _, e => by cases e
  | .int _, .bl _, _, _, e => by cases e
  | .int _, .str _, _, _, e => by cases e
  | .str _, .non, _, _, e => by cases e
  | .str _, .bl _, _, _, e => by cases e
  | .str _, .int _, _, _, e => by cases e
  | .tup _, _, f, _, _ => by cases f
  | .fl _, _, f, _, _ => by cases f
  | .ref _, _, f, _, _ => by cases f
  | _, .tup _, _, f, _ => by cases f
  | _, .fl _, _, f, _ => by cases f
  | _, .ref _, _, f, _ => by cases f
theorem list_inj {a : Addr} {xs ys : List V} (I : Inv X pins σ H s) (h1 : SqL X.K H a xs) (h2 : SqL X.K H a ys) : xs = ys := by
  obtain ⟨its, r, ⟨o, n, e, _, _, d⟩, _⟩ := I.list h1
  obtain ⟨its', r', ⟨o', n', e', _, _, d'⟩, _⟩ := I.list h2
  rw [e] at e'; cases e'
  rw [d] at d'
  injection d' with d1 _
  have : its = its' := by simpa using congrArg Array.toList d1
  subst this
  exact r.inj r'
theorem eqN_same (I : Inv X pins σ H s) (rh : RH X.K ρ h H) : ∀ (n : Nat) {d1 d2 : D} {v : V} {b : Bool}, RD X.K ρ H d1 v → RD X.K ρ H d2 v → eqN n h d1 d2 = some b → b = true
  | 0, d1, d2, v, b, _, _, e => by cases e
  | n + 1, d1, d2, v, b, r1, r2, e => by
    have elems : ∀ {xs ys : List D} {vs : List V}, RDs X.K ρ H xs vs → RDs X.K ρ H ys vs → eqZ (eqN n h) xs ys = some b → b = true := fun {xs ys vs} q1 q2 z => by
      obtain ⟨z1, z2⟩ := eqZ_spec z
      have l1 := q1.length
      have l2 := q2.length
      rw [z2, Bool.and_eq_true, List.all_eq_true]
      refine ⟨fun j hj => ?_, by simp; omega⟩
      have hj' : j < xs.length := by simp at hj; omega
      have e1 : xs[j]? = some xs[j] := List.getElem?_eq_getElem hj'
      have e2 : ys[j]? = some ys[j] := List.getElem?_eq_getElem (by omega)
      obtain ⟨w1, a1, a2⟩ := q1.get e1
      obtain ⟨w2, b1, b2⟩ := q2.get e2
      rw [a1] at b1; cases b1
      exact eqN_same I rh n a2 b2 (z1 j _ _ e1 e2)
    unfold eqN at e
    have nl : ∀ {a : Addr} {vs ws : List V}, SqT X.K H a vs → SqL X.K H a ws → False := fun {a vs ws} t1 t2 => by
      obtain ⟨its, _, p1, _⟩ := I.tuple t1
      obtain ⟨its2, _, p2, _⟩ := I.list t2
      exact SeqAt.ne_of_list_tuple p2.isList (show s.heap.IsTuple a its.toArray from p1) rfl
    cases e1 : vw h d1 with
    | no => rw [e1] at e; cases e2 : vw h d2 <;> rw [e2] at e <;> cases e
    | flat a =>
      rw [e1] at e
      obtain ⟨rfl, f1⟩ := vw_flat e1
      cases e2 : vw h d2 with
      | no => rw [e2] at e; cases e
      | flat c =>
        rw [e2] at e
        obtain ⟨rfl, f2⟩ := vw_flat e2
        cases e
        have := flV_inj f1 f2 ((flat_V f1 r1).symm.trans (flat_V f2 r2))
        subst this
        exact eqF_self f1
      | tup ys => obtain ⟨a', vs, rfl, _, _⟩ := vw_tup e2 r2; exact (flat_no f1 r1).elim
      | lst ys => obtain ⟨a', vs, rfl, _, _⟩ := vw_lst rh e2 r2; exact (flat_no f1 r1).elim
    | tup xs =>
      rw [e1] at e
      obtain ⟨a, vs, rfl, t1, q1⟩ := vw_tup e1 r1
      cases e2 : vw h d2 with
      | no => rw [e2] at e; cases e
      | flat c => obtain ⟨rfl, f2⟩ := vw_flat e2; exact (flat_no f2 r2).elim
      | tup ys =>
        rw [e2] at e
        obtain ⟨a', ws, ea, t2, q2⟩ := vw_tup e2 r2
        cases ea
        have := I.tuple_inj t1 t2
        subst this
        exact elems q1 q2 e
      | lst ys =>
        obtain ⟨a', ws, ea, t2, q2⟩ := vw_lst rh e2 r2
        cases ea
        exact (nl t1 t2).elim
    | lst xs =>
      rw [e1] at e
      obtain ⟨a, vs, rfl, t1, q1⟩ := vw_lst rh e1 r1
      cases e2 : vw h d2 with
      | no => rw [e2] at e; cases e
      | flat c => obtain ⟨rfl, f2⟩ := vw_flat e2; exact (flat_no f2 r2).elim
      | lst ys =>
        rw [e2] at e
        obtain ⟨a', ws, ea, t2, q2⟩ := vw_lst rh e2 r2
        cases ea
        have := list_inj I t1 t2
        subst this
        exact elems q1 q2 e
      | tup ys =>
        obtain ⟨a', ws, ea, t2, q2⟩ := vw_tup e2 r2
        cases ea
        exact (nl t2 t1).elim
open SeqAt in
theorem mixT {A : Around} {u : Value} {d : D} {v : V} {K : PySem.W.Frag} {a : Addr} {its : Array Value} (f : flatD d = true) (r : RD K ρ H d v) (ru : RelV v u) (p : s.heap.IsTuple a its) (hu : A.units < cLine) : EqAt A s u (.ref a) false ∧ EqAt A s (.ref a) u false ∧ RcAt A s u (.ref a) false ∧ RcAt A s (.ref a) u false ∧ RcNeAt A s u (.ref a) true ∧ RcNeAt A s (.ref a) u true := by
  have := flat_V f r
  subst this
  cases d with
  | non => cases ru; exact ⟨.none_tuple p hu, .tuple_none p hu, .none_tuple p hu, .tuple_none p hu, .none_tuple p hu, .tuple_none p hu⟩
  | bl b => cases ru; exact ⟨.bool_tuple b p hu, .tuple_bool b p hu, .bool_tuple b p hu, .tuple_bool b p hu, .bool_tuple b p hu, .tuple_bool b p hu⟩
  | int i => obtain ⟨t, rfl⟩ := ru; exact ⟨.int_tuple i t p hu, .tuple_int i t p hu, .int_tuple i t p hu, .tuple_int i t p hu, .int_tuple i t p hu, .tuple_int i t p hu⟩
  | str x => obtain ⟨t, rfl⟩ := ru; exact ⟨.str_tuple x t p hu, .tuple_str x t p hu, .str_tuple x t p hu, .tuple_str x t p hu, .str_tuple x t p hu, .tuple_str x t p hu⟩
  | tup _ => cases f
  | fl _ => cases f
  | ref _ => cases f
open SeqAt in
theorem mixL {A : Around} {u : Value} {d : D} {v : V} {K : PySem.W.Frag} {a : Addr} {its : Array Value} (f : flatD d = true) (r : RD K ρ H d v) (ru : RelV v u) (p : s.heap.IsList a its) (hu : A.units < cLine) : EqAt A s u (.ref a) false ∧ EqAt A s (.ref a) u false ∧ RcAt A s u (.ref a) false ∧ RcAt A s (.ref a) u false ∧ RcNeAt A s u (.ref a) true ∧ RcNeAt A s (.ref a) u true := by
  have := flat_V f r
  subst this
  cases d with
  | non => cases ru; exact ⟨.none_list p hu, .list_none p hu, .none_list p hu, .list_none p hu, .none_list p hu, .list_none p hu⟩
  | bl b => cases ru; exact ⟨.bool_list b p hu, .list_bool b p hu, .bool_list b p hu, .list_bool b p hu, .bool_list b p hu, .list_bool b p hu⟩
  | int i => obtain ⟨t, rfl⟩ := ru; exact ⟨.int_list i t p hu, .list_int i t p hu, .int_list i t p hu, .list_int i t p hu, .int_list i t p hu, .list_int i t p hu⟩
  | str x => obtain ⟨t, rfl⟩ := ru; exact ⟨.str_list x t p hu, .list_str x t p hu, .str_list x t p hu, .list_str x t p hu, .str_list x t p hu, .list_str x t p hu⟩
  | tup _ => cases f
  | fl _ => cases f
  | ref _ => cases f
open SeqAt in
theorem flat2 {A : Around} {u1 u2 : Value} : ∀ (d1 d2 : D), flatD d1 = true → flatD d2 = true → RelV (flV d1) u1 → RelV (flV d2) u2 → EqAt A s u1 u2 (eqF d1 d2) ∧ RcAt A s u1 u2 (eqF d1 d2) ∧ RcNeAt A s u1 u2 (!(eqF d1 d2))
  | .non, .non, _, _, r1, r2 => by cases r1; cases r2; exact ⟨EqAt.same _, RcAt.none_none, RcNeAt.none_none⟩
  | .non, (.bl b), _, _, r1, r2 => by cases r1; cases r2; exact ⟨EqAt.none_bool b, RcAt.none_bool b, RcNeAt.none_bool b⟩
  | .non, (.int b), _, _, r1, r2 => by cases r1; obtain ⟨t2, rfl⟩ := r2; exact ⟨EqAt.none_int b t2, RcAt.none_int b t2, RcNeAt.none_int b t2⟩
  | .non, (.str b), _, _, r1, r2 => by cases r1; obtain ⟨t2, rfl⟩ := r2; exact ⟨EqAt.none_str b t2, RcAt.none_str b t2, RcNeAt.none_str b t2⟩
  | (.bl a), .non, _, _, r1, r2 => by cases r1; cases r2; exact ⟨EqAt.bool_none a, RcAt.bool_none a, RcNeAt.bool_none a⟩
  | (.bl a), (.bl b), _, _, r1, r2 => by cases r1; cases r2; exact ⟨EqAt.bool_bool a b, RcAt.bool_bool a b, RcNeAt.bool_bool a b⟩
  | (.bl a), (.int b), _, _, r1, r2 => by cases r1; obtain ⟨t2, rfl⟩ := r2; exact ⟨EqAt.bool_int a b t2, RcAt.bool_int a b t2, RcNeAt.bool_int a b t2⟩
  | (.bl a), (.str b), _, _, r1, r2 => by cases r1; obtain ⟨t2, rfl⟩ := r2; exact ⟨EqAt.bool_str a b t2, RcAt.bool_str a b t2, RcNeAt.bool_str a b t2⟩
  | (.int a), .non, _, _, r1, r2 => by obtain ⟨t1, rfl⟩ := r1; cases r2; exact ⟨EqAt.int_none a t1, RcAt.int_none a t1, RcNeAt.int_none a t1⟩
  | (.int a), (.bl b), _, _, r1, r2 => by obtain ⟨t1, rfl⟩ := r1; cases r2; exact ⟨EqAt.int_bool a t1 b, RcAt.int_bool a t1 b, RcNeAt.int_bool a t1 b⟩
  | (.int a), (.int b), _, _, r1, r2 => by obtain ⟨t1, rfl⟩ := r1; obtain ⟨t2, rfl⟩ := r2; exact ⟨EqAt.int_int a t1 b t2, RcAt.int_int a t1 b t2, RcNeAt.int_int a t1 b t2⟩
  | (.int a), (.str b), _, _, r1, r2 => by obtain ⟨t1, rfl⟩ := r1; obtain ⟨t2, rfl⟩ := r2; exact ⟨EqAt.int_str a t1 b t2, RcAt.int_str a t1 b t2, RcNeAt.int_str a t1 b t2⟩
  | (.str a), .non, _, _, r1, r2 => by obtain ⟨t1, rfl⟩ := r1; cases r2; exact ⟨EqAt.str_none a t1, RcAt.str_none a t1, RcNeAt.str_none a t1⟩
  | (.str a), (.bl b), _, _, r1, r2 => by obtain ⟨t1, rfl⟩ := r1; cases r2; exact ⟨EqAt.str_bool a t1 b, RcAt.str_bool a t1 b, RcNeAt.str_bool a t1 b⟩
  | (.str a), (.int b), _, _, r1, r2 => by obtain ⟨t1, rfl⟩ := r1; obtain ⟨t2, rfl⟩ := r2; exact ⟨EqAt.str_int a t1 b t2, RcAt.str_int a t1 b t2, RcNeAt.str_int a t1 b t2⟩
  | (.str a), (.str b), _, _, r1, r2 => by obtain ⟨t1, rfl⟩ := r1; obtain ⟨t2, rfl⟩ := r2; exact ⟨EqAt.str_str a t1 b t2, RcAt.str_str a t1 b t2, RcNeAt.str_str a t1 b t2⟩
  | .tup _, _, f, _, _, _ => by cases f
  | .fl _, _, f, _, _, _ => by cases f
  | .ref _, _, f, _, _, _ => by cases f
  | _, .tup _, _, f, _, _ => by cases f
  | _, .fl _, _, f, _, _ => by cases f
  | _, .ref _, _, f, _, _ => by cases f
open SeqAt in
theorem deq (I : Inv X pins σ H s) (rh : RH X.K ρ h H) : ∀ (n : Nat) {A : Around} {d1 d2 : D} {v1 v2 : V} {u1 u2 : Value} {b : Bool}, A.units + n < cLine → RD X.K ρ H d1 v1 → RD X.K ρ H d2 v2 → RelV v1 u1 → RelV v2 u2 → eqN n h d1 d2 = some b → EqAt A s u1 u2 b ∧ RcAt A s u1 u2 b ∧ RcNeAt A s u1 u2 (!b)
  | 0, A, d1, d2, v1, v2, u1, u2, b, _, _, _, _, _, e => by cases e
  | n + 1, A, d1, d2, v1, v2, u1, u2, b, hA, r1, r2, w1, w2, e => by
    have hu : A.units < cLine := by omega
    have e0 := e
    unfold eqN at e
    have elems : ∀ {xs ys : List D} {vs ws : List V} {its its2 : List Value}, RDs X.K ρ H xs vs → RDs X.K ρ H ys ws → Vals vs its → Vals ws its2 → eqZ (eqN n h) xs ys = some b →
        (∀ j (h1 : j < its.toArray.size) (h2 : j < its2.toArray.size), EqAt A.in1 s its.toArray[j] its2.toArray[j] (eqE (eqN n h) xs ys j)) ∧ b = ((List.range (min its.toArray.size its2.toArray.size)).all (eqE (eqN n h) xs ys) && its.toArray.size == its2.toArray.size) := fun {xs ys vs ws its its2} q1 q2 a1 a2 z => by
      obtain ⟨z1, z2⟩ := eqZ_spec z
      have l1 := q1.length
      have l2 := q2.length
      have l3 := a1.length
      have l4 := a2.length
      refine ⟨fun j h1 h2 => ?_, by rw [z2, List.size_toArray, List.size_toArray, ← l3, ← l4, ← l1, ← l2]⟩
      have j1 : j < xs.length := by rw [List.size_toArray] at h1; omega
      have j2 : j < ys.length := by rw [List.size_toArray] at h2; omega
      have e1 : xs[j]? = some xs[j] := List.getElem?_eq_getElem j1
      have e2 : ys[j]? = some ys[j] := List.getElem?_eq_getElem j2
      obtain ⟨x1, b1, c1⟩ := q1.get e1
      obtain ⟨x2, b2, c2⟩ := q2.get e2
      obtain ⟨y1, b3, c3⟩ := a1.get b1
      obtain ⟨y2, b4, c4⟩ := a2.get b2
      have g1 : its.toArray[j] = y1 := by
        have := List.getElem?_eq_getElem (l := its) (i := j) (by simpa using h1)
        rw [b3] at this
        simpa using (Option.some.inj this).symm
      have g2 : its2.toArray[j] = y2 := by
        have := List.getElem?_eq_getElem (l := its2) (i := j) (by simpa using h2)
        rw [b4] at this
        simpa using (Option.some.inj this).symm
      rw [g1, g2]
      exact (deq I rh n (A := A.in1) (show A.units + 1 + n < cLine by omega) c1 c2 c3 c4 (z1 j _ _ e1 e2)).1
    have same : ∀ {a a' : Addr}, v1 = .ref a → v2 = .ref a' → a = a' → b = true := fun {a a'} x y z => by
      subst z
      rw [x] at r1
      rw [y] at r2
      exact eqN_same I rh (n + 1) r1 r2 e0
    cases e1 : vw h d1 with
    | no => rw [e1] at e; cases e2 : vw h d2 <;> rw [e2] at e <;> cases e
    | flat a =>
      rw [e1] at e
      obtain ⟨rfl, f1⟩ := vw_flat e1
      cases e2 : vw h d2 with
      | no => rw [e2] at e; cases e
      | flat c =>
        rw [e2] at e
        obtain ⟨rfl, f2⟩ := vw_flat e2
        cases e
        rw [flat_V f1 r1] at w1
        rw [flat_V f2 r2] at w2
        exact flat2 a c f1 f2 w1 w2
      | tup ys =>
        rw [e2] at e
        cases e
        obtain ⟨a', vs, rfl, t2, _⟩ := vw_tup e2 r2
        cases w2
        obtain ⟨its, _, p, _⟩ := I.tuple t2
        obtain ⟨m1, _, m3, _, m5, _⟩ := mixT (s := s) f1 r1 w1 (show s.heap.IsTuple a' its.toArray from p) hu
        exact ⟨m1, m3, m5⟩
      | lst ys =>
        rw [e2] at e
        cases e
        obtain ⟨a', vs, rfl, t2, _⟩ := vw_lst rh e2 r2
        cases w2
        obtain ⟨its, _, p, _⟩ := I.list t2
        obtain ⟨m1, _, m3, _, m5, _⟩ := mixL (s := s) f1 r1 w1 p.isList hu
        exact ⟨m1, m3, m5⟩
    | tup xs =>
      rw [e1] at e
      obtain ⟨a, vs, rfl, t1, q1⟩ := vw_tup e1 r1
      cases w1
      obtain ⟨its, x1, p1, _⟩ := I.tuple t1
      have p1 : s.heap.IsTuple a its.toArray := p1
      cases e2 : vw h d2 with
      | no => rw [e2] at e; cases e
      | flat c =>
        rw [e2] at e
        cases e
        obtain ⟨rfl, f2⟩ := vw_flat e2
        obtain ⟨_, m2, _, m4, _, m6⟩ := mixT (s := s) f2 r2 w2 p1 hu
        exact ⟨m2, m4, m6⟩
      | tup ys =>
        rw [e2] at e
        obtain ⟨a', ws, rfl, t2, q2⟩ := vw_tup e2 r2
        cases w2
        obtain ⟨its2, x2, p2, _⟩ := I.tuple t2
        have p2 : s.heap.IsTuple a' its2.toArray := p2
        obtain ⟨g1, g2⟩ := elems q1 q2 x1 x2 e
        have rc := RcAt.tuples p1 p2 hu g1
        have rn := RcNeAt.tuples p1 p2 hu g1
        rw [← g2] at rc rn
        refine ⟨?_, rc, rn⟩
        by_cases ea : a = a'
        · rw [same rfl rfl ea]
          subst ea
          exact EqAt.same _
        · exact EqAt.of_refs ea rc
      | lst ys =>
        rw [e2] at e
        cases e
        obtain ⟨a', ws, rfl, t2, q2⟩ := vw_lst rh e2 r2
        cases w2
        obtain ⟨its2, x2, p2, _⟩ := I.list t2
        exact ⟨EqAt.tuple_list p1 p2.isList hu, RcAt.tuple_list p1 p2.isList hu, RcNeAt.tuple_list p1 p2.isList hu⟩
    | lst xs =>
      rw [e1] at e
      obtain ⟨a, vs, rfl, t1, q1⟩ := vw_lst rh e1 r1
      cases w1
      obtain ⟨its, x1, p1, _⟩ := I.list t1
      cases e2 : vw h d2 with
      | no => rw [e2] at e; cases e
      | flat c =>
        rw [e2] at e
        cases e
        obtain ⟨rfl, f2⟩ := vw_flat e2
        obtain ⟨_, m2, _, m4, _, m6⟩ := mixL (s := s) f2 r2 w2 p1.isList hu
        exact ⟨m2, m4, m6⟩
      | tup ys =>
        rw [e2] at e
        cases e
        obtain ⟨a', ws, rfl, t2, q2⟩ := vw_tup e2 r2
        cases w2
        obtain ⟨its2, x2, p2, _⟩ := I.tuple t2
        exact ⟨EqAt.list_tuple p1.isList p2 hu, RcAt.list_tuple p1.isList p2 hu, RcNeAt.list_tuple p1.isList p2 hu⟩
      | lst ys =>
        rw [e2] at e
        obtain ⟨a', ws, rfl, t2, q2⟩ := vw_lst rh e2 r2
        cases w2
        obtain ⟨its2, x2, p2, _⟩ := I.list t2
        obtain ⟨g1, g2⟩ := elems q1 q2 x1 x2 e
        have both : RcAt A s (.ref a) (.ref a') b ∧ RcNeAt A s (.ref a) (.ref a') (!b) := by
          by_cases hz : its.toArray.size = its2.toArray.size
          · have : b = (List.range its.toArray.size).all (eqE (eqN n h) xs ys) := by rw [g2, ← hz, Nat.min_self]; simp
            rw [this]
            exact ⟨RcAt.lists p1.isList p2.isList hz hu g1, RcNeAt.lists p1.isList p2.isList hz hu g1⟩
          · have : b = false := by
              rw [g2, Bool.and_eq_false_iff]
              right
              simpa using hz
            rw [this]
            exact ⟨RcAt.lists_lengths p1.isList p2.isList (by simpa using hz) hu, RcNeAt.lists_lengths p1.isList p2.isList (by simpa using hz) hu⟩
        refine ⟨?_, both⟩
        by_cases ea : a = a'
        · rw [same rfl rfl ea]
          subst ea
          exact EqAt.same _
        · exact EqAt.of_refs ea both.1
end
def fEqX (neg : Bool) : D → D → M D := fun x y h => match eqN 24 h x y with
  | some b => .ok (.bl (b != neg)) h
  | none => .bad
def inZ (h : AH) (x : D) : List D → Option Bool
  | [] => some false
  | y :: ys => match eqN 24 h y x, inZ h x ys with
    | some a, some b => some (a || b)
    | _, _ => none
theorem inZ_spec {h : AH} {x : D} : ∀ {ys : List D} {b : Bool}, inZ h x ys = some b → (∀ y ∈ ys, ∃ a, eqN 24 h y x = some a) ∧ (b = true ↔ ∃ y ∈ ys, eqN 24 h y x = some true)
  | [], b, e => by unfold inZ at e; cases e; exact ⟨fun y hy => (by simp at hy), by simp⟩
  | y :: ys, b, e => by
    unfold inZ at e
    split at e
    · rename_i a c e1 e2
      cases e
      obtain ⟨q1, q2⟩ := inZ_spec e2
      refine ⟨fun z hz => ?_, ?_⟩
      · rcases List.mem_cons.mp hz with q | q
        · subst q; exact ⟨_, e1⟩
        · exact q1 z q
      · rw [Bool.or_eq_true, q2]
        constructor
        · rintro (q | ⟨z, hz, q⟩)
          · exact ⟨y, by simp, by rw [e1, q]⟩
          · exact ⟨z, by simp [hz], q⟩
        · rintro ⟨z, hz, q⟩
          rcases List.mem_cons.mp hz with w | w
          · subst w; rw [e1] at q; exact .inl (Option.some.inj q)
          · exact .inr ⟨z, w, q⟩
    · cases e
def rEqX (K : PySem.W.Frag) (neg : Bool) : R2 := fun x y H Q => ∃ ρ h d1 d2 b, RH K ρ h H ∧ RD K ρ H d1 x ∧ RD K ρ H d2 y ∧ eqN 24 h d1 d2 = some b ∧ Q (.bl (b != neg)) H
section
variable {X : Cx} {EX : XX}
theorem op_eqX (hu : X.A.units + 30 < cLine) : OpR X (compareOp .Eq) (rEqX X.K false) := by
  intro pins s σ H x y v u Q I rx ry h
  obtain ⟨ρ, h, d1, d2, b, rh, r1, r2, e, q⟩ := h
  rw [Bool.bne_false] at q
  exact (deq I rh 24 (A := X.A) (by omega) r1 r2 rx ry e).2.1 X.prog X.w X.xe (EP X pins σ Q) ⟨.bl b, H, I, rfl, q⟩
theorem op_neX (hu : X.A.units + 30 < cLine) : OpR X (compareOp .NotEq) (rEqX X.K true) := by
  intro pins s σ H x y v u Q I rx ry h
  obtain ⟨ρ, h, d1, d2, b, rh, r1, r2, e, q⟩ := h
  rw [Bool.bne_true] at q
  exact (deq I rh 24 (A := X.A) (by omega) r1 r2 rx ry e).2.2 X.prog X.w X.xe (EP X pins σ Q) ⟨.bl (!b), H, I, rfl, q⟩
open Classical in
theorem in_items {pins : List (Addr × Obj)} {σ : L2.St} {ρ : List Addr} {h : AH} {H : Hp} {s : Shared} {d : D} {ds : List D} {x : V} {v : Value} {xs : List V} {its : List Value} {b : Bool} (hu : X.A.units + 30 < cLine) (I : Inv X pins σ H s) (rh : RH X.K ρ h H) (rx : RD X.K ρ H d x) (wx : RelV x v) (rs : RDs X.K ρ H ds xs) (ws : Vals xs its) (e : inZ h d ds = some b) :
    ∃ f : Value → Bool, (∀ y ∈ its, SeqAt.EqAt X.A.in1 s y v (f y)) ∧ its.any f = b := by
  obtain ⟨q1, q2⟩ := inZ_spec e
  have ex : ∀ y ∈ its, ∃ a z w, z ∈ ds ∧ RD X.K ρ H z w ∧ RelV w y ∧ eqN 24 h z d = some a := fun y hy => by
    obtain ⟨j, hj⟩ := List.getElem?_of_mem hy
    have lj := (List.getElem?_eq_some_iff.mp hj).1
    have a1 : xs[j]? = some (xs[j]'(by rw [ws.length]; exact lj)) := List.getElem?_eq_getElem _
    obtain ⟨y', c1, a2⟩ := ws.get a1
    rw [hj] at c1
    cases c1
    obtain ⟨z, b1, b2⟩ := rs.getV a1
    have zm := List.mem_of_getElem? b1
    obtain ⟨a, c⟩ := q1 z zm
    exact ⟨a, z, _, zm, b2, a2, c⟩
  have key : ∀ y ∈ its, ∀ a, (∃ z w, z ∈ ds ∧ RD X.K ρ H z w ∧ RelV w y ∧ eqN 24 h z d = some a) → SeqAt.EqAt X.A.in1 s y v a := fun y hy a ⟨z, w, zm, r1, r2, c⟩ =>
    (deq I rh 24 (A := X.A.in1) (show X.A.units + 1 + 24 < cLine by omega) r1 rx r2 wx c).1
  refine ⟨fun y => decide (∃ z w, z ∈ ds ∧ RD X.K ρ H z w ∧ RelV w y ∧ eqN 24 h z d = some true), fun y hy => ?_, ?_⟩
  · by_cases c : ∃ z w, z ∈ ds ∧ RD X.K ρ H z w ∧ RelV w y ∧ eqN 24 h z d = some true
    · dsimp only
      rw [decide_eq_true c]
      exact key y hy true c
    · dsimp only
      rw [decide_eq_false c]
      obtain ⟨a, z, w, g⟩ := ex y hy
      cases a with
      | false => exact key y hy false ⟨z, w, g⟩
      | true => exact absurd ⟨z, w, g⟩ c
  · rw [Bool.eq_iff_iff, q2, List.any_eq_true]
    constructor
    · rintro ⟨y, hy, c⟩
      obtain ⟨z, w, zm, _, _, c⟩ := of_decide_eq_true c
      exact ⟨z, zm, c⟩
    · rintro ⟨z, zm, c⟩
      obtain ⟨j, hj⟩ := List.getElem?_of_mem zm
      obtain ⟨w, a1, a2⟩ := rs.get hj
      obtain ⟨y, b1, b2⟩ := ws.get a1
      exact ⟨y, List.mem_of_getElem? b1, decide_eq_true ⟨z, w, zm, a2, b2, c⟩⟩
theorem br_eqX {neg : Bool} : BR X.K EX (rEqX X.K neg) (fEqX neg) := by
  intro ρ h H x y v u Q r rx ry fin
  unfold fEqX at fin
  cases e : eqN 24 h x y with
  | none => rw [e] at fin; exact fin.elim
  | some b => rw [e] at fin; exact ⟨ρ, h, x, y, b, r, rx, ry, e, FE.here fin r (by simp [RD])⟩
theorem co_eqX (hu : X.A.units + 30 < cLine) : CO X EX .Eq (fEqX false) := ⟨_, op_eqX hu, br_eqX⟩
theorem co_neX (hu : X.A.units + 30 < cLine) : CO X EX .NotEq (fEqX true) := ⟨_, op_neX hu, br_eqX⟩
theorem hu30 {A : Around} {k : Nat} (hr : Room k A) : A.units + 30 < cLine := Nat.lt_of_le_of_lt (Nat.add_le_add_left (by decide : 30 ≤ 64) _) hr.units
end
end FT
namespace FT
open PySem PySem.Spec PyProof.Rows L2
variable {α β : Type}
theorem bindP (a : α) (f : α → M β) : ((Pure.pure a : M α) >>= f) = f a := by funext h; rfl
theorem bindB (f : α → M β) : ((bad : M α) >>= f) = bad := by funext h; rfl
theorem W_eq {m : M α} {v : α} {h : AH} {Q : α → AH → Prop} (e : m = pure v) (q : Q v h) : W m h Q := by rw [e, W_pure]; exact q
theorem W_new {xs : List D} {h : AH} {Q : D → AH → Prop} (hl : xs.length ≤ 1000000) (q : Q (.ref h.length) (h ++ [.lst xs])) : W (newL xs) h Q :=
  ⟨_, _, by unfold newL; rw [if_pos (Nat.le_trans hl (by decide))], q⟩
mutual
theorem refLt_up {m n : Nat} (h : m ≤ n) : ∀ {d : D}, refLt m d = true → refLt n d = true
  | .non, _ => rfl
  | .bl _, _ => rfl
  | .int _, _ => rfl
  | .str _, _ => rfl
  | .tup ds, c => by simp only [refLt] at c ⊢; exact refLts_up h c
  | .fl ds, c => by simp only [refLt] at c ⊢; exact refLts_up h c
  | .ref i, c => by simp only [refLt, decide_eq_true_eq] at c ⊢; omega
theorem refLts_up {m n : Nat} (h : m ≤ n) : ∀ {d : List D}, refLts m d = true → refLts n d = true
  | [], _ => rfl
  | d :: r, c => by simp only [refLts, Bool.and_eq_true] at c ⊢; exact ⟨refLt_up h c.1, refLts_up h c.2⟩
end
theorem refLts_all {n : Nat} : ∀ {xs : List D}, (∀ x ∈ xs, refLt n x = true) → refLts n xs = true
  | [], _ => rfl
  | x :: r, h => by simp only [refLts, Bool.and_eq_true]; exact ⟨h x (by simp), refLts_all fun y hy => h y (by simp [hy])⟩
theorem refLts_map {n : Nat} {ι : Type} {f : ι → D} {l : List ι} (h : ∀ a, refLt n (f a) = true) : refLts n (l.map f) = true := refLts_all fun x hx => by
  obtain ⟨a, _, rfl⟩ := List.mem_map.mp hx
  exact h a
theorem cln_of {m : M D} {h : AH} {d : D} {j : AH} (e : m h = .ok d (h ++ j)) (c : refLt h.length d = true) : cln m h = .ok d h := by
  unfold cln
  rw [e]
  dsimp only
  rw [if_pos ⟨by simp, kept_app _ _⟩, if_pos c]
  simp
theorem cln_pure (d : D) : cln (pure d) = pure d := funext fun h => by
  unfold cln
  rw [pureM]
  dsimp only
  rw [if_pos ⟨Nat.le_refl _, fun _ _ _ e => .inl e⟩]
  split
  · simp
  · rename_i nd
    split
    · rename_i i
      simp only [refLt, decide_eq_true_eq] at nd
      rw [List.getElem?_eq_none (by omega)]
    · rfl
theorem cln_W {m : M D} {v : D} (c : refLt 0 v = true) (z : ∀ h, W m h fun a h' => a = v ∧ ∃ j, h' = h ++ j) : cln m = pure v := funext fun h => by
  obtain ⟨a, h', e, rfl, j, rfl⟩ := z h
  exact cln_of e (refLt_up (Nat.zero_le _) c)
theorem clE_W {m : G → M D} {γ : G} {v : D} (c : refLt 0 v = true) (z : ∀ h, W (m γ) h fun a h' => a = v ∧ ∃ j, h' = h ++ j) : clE m γ = pure v := cln_W c z
theorem comp_eqh {cap : List (Option Nat)} {mi : G → M Src} {g : D → G → M G} {k : G → M Bool} {me : G → M D} {γ : G} {src : Src} {h : AH} (p : D → Bool) (f : D → D) (hi : mi γ h = .ok src h) (hg : ∀ j, src.good (h ++ j)) (hl : src.items.length ≤ 1000000)
    (hd : ∀ d ∈ src.items, ∃ γ1, g d (capG cap γ) = pure γ1 ∧ k γ1 = pure (p d) ∧ (p d = true → me γ1 = pure (f d))) : eComp cap mi g k me γ h = newL ((src.items.filter p).map f) h := by
  rw [comp_px p f hi hg hl fun d m => let ⟨γ1, e1, e2, e3⟩ := hd d m; ⟨γ1, fun h => by rw [e1]; rfl, fun j => by rw [e2]; rfl, fun q j => by rw [e3 q]; rfl⟩]
  unfold newL
  rw [if_pos]
  refine Nat.le_trans ?_ (show 1000000 ≤ sizeLine by decide)
  rw [List.length_map]
  exact Nat.le_trans (List.length_filter_le _ _) hl
theorem comp_eq {cap : List (Option Nat)} {mi : G → M Src} {g : D → G → M G} {k : G → M Bool} {me : G → M D} {γ : G} {items : List D} (p : D → Bool) (f : D → D) (hi : mi γ = pure (.con items)) (hl : items.length ≤ 1000000)
    (hd : ∀ d ∈ items, ∃ γ1, g d (capG cap γ) = pure γ1 ∧ k γ1 = pure (p d) ∧ (p d = true → me γ1 = pure (f d))) : eComp cap mi g k me γ = newL ((items.filter p).map f) :=
  funext fun h => comp_eqh (src := .con items) p f (by rw [hi]; rfl) (fun _ => trivial) hl hd
theorem cl_call {m : G → M D} {γ : G} {xs : List D} {f : List D → M D} {v : D} (e : m γ = newL xs) (hl : xs.length ≤ 1000000) (c : refLt 0 v = true) (q : ∀ n h, h[n]? = some (.lst xs) → f [.ref n] h = .ok v h) : clE (eCall f (aCons m aNil)) γ = pure v := clE_W c fun h => by
  simp only [W_bind, W_pure, W_bad, W_ite, w_nil, contW_nx, contW_rt, sAsg, sExpr, sRet, sIf, FT.e2, FT.e3, eVar, gN, gIx, eFn, aCons, aNil, eCall, eTup, eLst, eM1, eM0, eMS, W_asRef, eIsi, isi_bl, isi_int, isi_str, isi_tup, asB_bl, truD_bl, cVal, cNot, cAnd, cOr, eAnd, eOr, eNot, eIf, oSome, oNone, eSlice, List.getElem?_cons_succ, List.getElem?_cons_zero, List.set_cons_succ, List.set_cons_zero, List.length_cons, List.length_nil, Nat.reduceAdd, if_true, if_false, Bool.not_true, Bool.not_false, ite_true, ite_false, reduceIte, Bool.false_eq_true, reduceCtorEq, add_ii, sub_ii, gt_ii, ge_ii, lt_ii, le_ii, eq_ii, e]
  refine W_new hl ?_
  exact W.of (q _ _ (by simp)) ⟨rfl, _, rfl⟩
theorem bls_map : ∀ bs : List Bool, blsD (bs.map .bl) = some bs
  | [] => rfl
  | b :: r => by simp [blsD, bls_map r]
theorem cl_all {m : G → M D} {γ : G} {bs : List Bool} (any : Bool) (e : m γ = newL (bs.map .bl)) (hl : bs.length ≤ 1000000) : clE (eCall (fAll any) (aCons m aNil)) γ = pure (.bl (if any then bs.any id else bs.all id)) :=
  cl_call e (by simpa using hl) rfl fun n h q => by unfold fAll getL; simp [q, bls_map]
theorem cl_allc {cap : List (Option Nat)} {mi : G → M Src} {g : D → G → M G} {k : G → M Bool} {me : G → M D} {γ : G} {items : List D} (any : Bool) (p : D → Bool) (f : D → Bool) (hi : mi γ = pure (.con items)) (hl : items.length ≤ 1000000)
    (hd : ∀ d ∈ items, ∃ γ1, g d (capG cap γ) = pure γ1 ∧ k γ1 = pure (p d) ∧ (p d = true → me γ1 = pure (.bl (f d)))) : clE (eCall (fAll any) (aCons (eComp cap mi g k me) aNil)) γ = pure (.bl (if any then (items.filter p).any f else (items.filter p).all f)) := by
  rw [cl_all (bs := (items.filter p).map f) any (by rw [comp_eq p (fun d => .bl (f d)) hi hl hd, List.map_map]; rfl) (by rw [List.length_map]; exact Nat.le_trans (List.length_filter_le _ _) hl)]
  cases any <;> simp [Function.comp_def]
theorem filter_tt {l : List α} : l.filter (fun _ => true) = l := by induction l <;> simp_all
theorem runF_rt {n : Nat} {mb : G → M Out} {ds : List D} {d : D} (e : mb (startG n ds) = pure (.rt d)) : runF n mb ds = pure d := by unfold runF; rw [e]; rfl
theorem ix0 {a : D} {r : List D} : fIx (.tup (a :: r)) (.int 0) = pure a := ix_tup (by simp [atI, ixN])
theorem ix1 {a b : D} {r : List D} : fIx (.tup (a :: b :: r)) (.int 1) = pure b := ix_tup (atI_nat (j := 1) rfl)
theorem ix2 {a b c : D} {r : List D} : fIx (.tup (a :: b :: c :: r)) (.int 2) = pure c := ix_tup (atI_nat (j := 2) rfl)
theorem ixl2 {a b : D} : fIx (.tup [a, b]) (.int (-1)) = pure b := ix_tup rfl
theorem ixl3 {a b c : D} : fIx (.tup [a, b, c]) (.int (-1)) = pure c := ix_tup rfl
theorem eq_ss {x y : Str} {b : Bool} : fEq b (.str x) (.str y) = pure (.bl (decide (x = y) != b)) := rfl
theorem size2 : ((2 : Nat) ≤ sizeLine) = True := by simp [sizeLine]
theorem size3 : ((3 : Nat) ≤ sizeLine) = True := by simp [sizeLine]
end FT
namespace FT
open PySem PySem.Spec PyProof.Rows L2
structure SQ (st : List (List Nat)) : Prop where
  l1 : 1 ≤ st.length
  l2 : st.length ≤ 40
  s2 : ∀ l ∈ st, ∀ x ∈ l, x < st.length
def nx (st : List (List Nat)) (a : Nat) : List Nat := (st[a]?).getD []
inductive Rch (st : List (List Nat)) (x : Nat) : Nat → Prop
  | here : Rch st x x
  | step {a b : Nat} : Rch st x a → b ∈ nx st a → Rch st x b
theorem nx_lt {st : List (List Nat)} (q : SQ st) {a b : Nat} (h : b ∈ nx st a) : b < st.length := by
  unfold nx at h
  cases e : st[a]? with
  | none => rw [e] at h; cases h
  | some l =>
    rw [e] at h
    exact q.s2 l (List.mem_of_getElem? e) b h
theorem rch_lt {st : List (List Nat)} (q : SQ st) {x a : Nat} (hx : x < st.length) (h : Rch st x a) : a < st.length := by
  cases h with
  | here => exact hx
  | step _ h => exact nx_lt q h
theorem sts_len (st : List (List Nat)) : (stsD st).length = st.length := by unfold stsD; simp
theorem st_row {st : List (List Nat)} {a : Nat} (ha : a < st.length) : atI (stsD st) (a : Int) = some (.tup (stD (nx st a))) := by
  refine atI_nat ?_
  unfold stsD nx
  rw [List.getElem?_map, List.getElem?_eq_getElem ha]
  rfl
theorem ix_ma0 {st : List (List Nat)} {mk : List (List Str)} : fIx (maD st mk) (.int 0) = pure (.tup (stsD st)) := ix_tup rfl
theorem ix_row {st : List (List Nat)} {a : Nat} (ha : a < st.length) : fIx (.tup (stsD st)) (.int a) = pure (.tup (stD (nx st a))) := ix_tup (st_row ha)
theorem flat_st : ∀ l : List Nat, (stD l).all flatD = true
  | [] => rfl
  | _ :: l => flat_st l
theorem any_st (x : Nat) : ∀ l : List Nat, ((stD l).any fun z => eqF z (.int x)) = decide (x ∈ l)
  | [] => by simp [stD]
  | b :: l => by
    rw [show stD (b :: l) = .int b :: stD l from rfl, List.any_cons, any_st x l]
    simp only [eqF]
    rw [Bool.eq_iff_iff]
    simp only [Bool.or_eq_true, beq_iff_eq, decide_eq_true_eq, List.mem_cons]
    constructor
    · rintro (h | h)
      · left; omega
      · exact .inr h
    · rintro (h | h)
      · left; omega
      · exact .inr h
theorem in_st {x : Nat} {l : List Nat} {neg : Bool} : fIn neg (.int x) (.tup (stD l)) = pure (.bl (decide (x ∈ l) != neg)) := by
  unfold fIn seqD
  show (if flatD (.int x) && (stD l).all flatD then _ else _) = _
  rw [flat_st, any_st]
  rfl
theorem st_len (l : List Nat) : (stD l).length = l.length := by unfold stD; simp
def zN (l : List Nat) : List Int := l.map fun (i : Nat) => (i : Int)
def sortN (l : List Nat) : List Nat := (sortI (zN l)).map Int.toNat
theorem nums_stD : ∀ l : List Nat, numsD (stD l) = some (zN l)
  | [] => rfl
  | a :: l => by
    show (numsD (stD l)).map _ = _
    rw [nums_stD l]
    rfl
theorem nodup_len {S : List Nat} {n : Nat} (nd : S.Nodup) (hm : ∀ x ∈ S, x < n) : S.length ≤ n := by
  have := nd.length_le_of_subset (l₂ := List.range n) (fun x hx => List.mem_range.mpr (hm x hx))
  rwa [List.length_range] at this
theorem nodup_put {S : List Nat} {x : Nat} (nd : S.Nodup) (h : x ∉ S) : (S ++ [x]).Nodup := by
  rw [List.nodup_append]
  refine ⟨nd, by simp, fun a ha b hb => ?_⟩
  simp at hb
  subst hb
  exact fun e => h (e ▸ ha)
theorem st_snoc (l : List Nat) (x : Nat) : stD l ++ [.int x] = stD (l ++ [x]) := by unfold stD; simp
theorem st_get {l : List Nat} {i : Nat} {d : D} (h : (stD l)[i]? = some d) : ∃ b : Nat, d = .int b ∧ l[i]? = some b := by
  unfold stD at h
  rw [List.getElem?_map] at h
  obtain ⟨b, e1, e2⟩ := Option.map_eq_some_iff.mp h
  exact ⟨b, e2.symm, e1⟩
structure Fnd (st : List (List Nat)) (x : Nat) (S : List Nat) : Prop where
  nd : S.Nodup
  rc : ∀ a ∈ S, Rch st x a
  hx : x ∈ S
theorem Fnd.lt {st : List (List Nat)} {x : Nat} {S : List Nat} (f : Fnd st x S) (q : SQ st) (hx : x < st.length) : ∀ a ∈ S, a < st.length := fun a ha => rch_lt q hx (f.rc a ha)
theorem Fnd.put {st : List (List Nat)} {x a b : Nat} {S : List Nat} (f : Fnd st x S) (ha : a ∈ S) (hb : b ∈ nx st a) (nb : b ∉ S) : Fnd st x (S ++ [b]) :=
  ⟨nodup_put f.nd nb, fun c hc => by
    rcases List.mem_append.mp hc with q | q
    · exact f.rc c q
    · simp at q; subst q; exact .step (f.rc a ha) hb, List.mem_append_left _ f.hx⟩
theorem Fnd.one (st : List (List Nat)) (x : Nat) : Fnd st x [x] := ⟨by simp, fun a ha => by simp at ha; subst ha; exact .here, by simp⟩
end FT
namespace FT
open PySem PySem.Spec PyProof.Rows L2
section
variable {ma : G → M D} {g : D → G → M G} {k : G → M Bool} {ms mr mt : G → M Out} {γ γ' : G} {h h1 : AH} {d : D} {b : Bool} {Q : Out → AH → Prop}
theorem q_set (d : D) (γ' : G) (e : ma γ = pure d) (eg : g d γ = pure γ') (z : W (mt γ') h Q) : W (bCons (sAsg ma g) mt γ) h Q := by
  rw [w_cons]; unfold sAsg; rw [e, bindP, eg, bindP, W_pure]; exact z
theorem q_seth (d : D) (γ' : G) (e : ma γ h = .ok d h1) (eg : g d γ = pure γ') (z : W (mt γ') h1 Q) : W (bCons (sAsg ma g) mt γ) h Q := by
  rw [w_cons]; unfold sAsg; rw [W_bind]; refine W.of e ?_; rw [eg, bindP, W_pure]; exact z
theorem q_setw {i : Nat} (z : W (ma γ) h fun d h1 => W (mt (γ.set i (some d))) h1 Q) : W (bCons (sAsg ma (gN i)) mt γ) h Q := by
  rw [w_cons]; unfold sAsg gN; rw [W_bind]; refine z.mono fun d h1 q => ?_; rw [bindP, W_pure]; exact q
theorem q_if (b : Bool) (e : k γ = pure b) (z : W (bCons (if b = true then ms else mr) mt γ) h Q) : W (bCons (sIf k ms mr) mt γ) h Q := by
  rw [w_cons] at z ⊢; unfold sIf; rw [e, bindP]
  cases b <;> exact z
theorem q_ifh (b : Bool) (e : k γ h = .ok b h) (z : W (bCons (if b = true then ms else mr) mt γ) h Q) : W (bCons (sIf k ms mr) mt γ) h Q := by
  rw [w_cons] at z ⊢; unfold sIf; rw [W_bind]; refine W.of e ?_
  cases b <;> exact z
theorem q_ret (d : D) (e : ma γ = pure d) (z : Q (.rt d) h) : W (bCons (sRet ma) mt γ) h Q := by
  rw [w_cons]; unfold sRet; rw [e, bindP, W_pure]; exact z
theorem q_reth (d : D) (e : ma γ h = .ok d h1) (z : Q (.rt d) h1) : W (bCons (sRet ma) mt γ) h Q := by
  rw [w_cons]; unfold sRet; rw [W_bind]; refine W.of e ?_; rw [W_pure]; exact z
theorem q_retw (z : W (ma γ) h fun d h1 => Q (.rt d) h1) : W (bCons (sRet ma) mt γ) h Q := by
  rw [w_cons]; unfold sRet; rw [W_bind]; refine z.mono fun d h1 q => ?_; rw [W_pure]; exact q
theorem q_expr (z : W (ma γ) h fun d h1 => W (mt γ) h1 Q) : W (bCons (sExpr ma) mt γ) h Q := by
  rw [w_cons]; unfold sExpr; rw [W_bind]; refine z.mono fun d h1 q => ?_; rw [W_pure]; exact q
theorem q_nil (z : W (mt γ) h Q) : W (bCons bNil mt γ) h Q := by rw [w_cons, w_nil]; exact z
theorem q_done {Q : Out → AH → Prop} (z : Q (.nx γ) h) : W (bNil γ) h Q := by rw [w_nil]; exact z
theorem p_set (d : D) (γ' : G) (e : ma γ = pure d) (eg : g d γ = pure γ') : bCons (sAsg ma g) mt γ = mt γ' := by
  unfold bCons sAsg; rw [e, bindP, eg, bindP, bindP]
theorem p_ret (d : D) (e : ma γ = pure d) : bCons (sRet ma) mt γ = pure (.rt d) := by
  unfold bCons sRet; rw [e, bindP, bindP]
theorem p_if (b : Bool) (e : k γ = pure b) : bCons (sIf k ms mr) mt γ = bCons (if b = true then ms else mr) mt γ := by
  unfold bCons sIf; rw [e, bindP]; cases b <;> rfl
theorem p_nil : bCons bNil mt γ = mt γ := by unfold bCons bNil; rw [bindP]
theorem q_blk {ms1 ms2 : G → M Out} (z : W (bCons ms1 (bCons ms2 mt) γ) h Q) : W (bCons (bCons ms1 ms2) mt γ) h Q := by
  rw [w_cons] at z ⊢
  rw [w_cons]
  refine z.mono fun o h1 q => ?_
  cases o with
  | nx γ => exact w_cons.mp q
  | rt d => exact q
  | bk d => exact q
  | ct d => exact q
end
theorem eqX_ss {a b : Str} {neg : Bool} : fEqX neg (.str a) (.str b) = pure (.bl ((a == b) != neg)) := by funext h; rfl
theorem cut_hi (xs : List D) (n : Nat) : cutD xs none (some (n : Int)) = xs.take n := by
  unfold cutD
  rw [HT.sIx_none, HT.sIx_nat]
  simp [List.take_take]
theorem cut_lo (xs : List D) (n : Nat) : cutD xs (some (n : Int)) none = xs.drop n := by
  unfold cutD
  rw [HT.sIx_none, HT.sIx_nat]
  by_cases h : n ≤ xs.length
  · rw [show min n xs.length = n by omega, List.take_of_length_le (by simp)]
  · rw [show min n xs.length = xs.length by omega]
    simp
    omega
def rp (n : Nat) (l : List Nat) : List Nat := (List.replicate n l).flatten
theorem rep_st (n : Nat) (l : List Nat) : (List.replicate n (stD l)).flatten = stD (rp n l) := by
  unfold stD rp
  rw [List.map_flatten, List.map_replicate]
theorem rp_len (n : Nat) (l : List Nat) : (rp n l).length = n * l.length := L2.len_rep l n
theorem mul_tn {x : List D} {n : Nat} (h : n * x.length ≤ 1000000) (hn : n ≤ 1000000) : fMul2 (.tup x) (.int (n : Nat)) = pure (.tup (List.replicate n x).flatten) := by
  unfold fMul2
  dsimp only
  rw [if_pos]
  · simp
  · have h1 : n * x.length ≤ sizeLine := Nat.le_trans h (by decide)
    rw [decide_eq_true (show -(2 ^ 63) ≤ (n : Int) by omega), decide_eq_true (show (n : Int) < 2 ^ 63 by omega), Int.toNat_natCast, decide_eq_true h1]
    rfl
theorem mul_nn {a b : Nat} (h : a ≤ 1000000) : fMul2 (.int (a : Nat)) (.int (b : Nat)) = pure (.int (a * b : Nat)) := by
  show fMul (.int (a : Nat)) (.int (b : Nat)) = _
  unfold fMul
  dsimp only
  rw [if_pos, Int.natCast_mul]
  simp
  left; omega
theorem div_nn {a b : Nat} (hb : 0 < b) (h : b ≤ 1000000) : fDiv (.int (a : Nat)) (.int (b : Nat)) = pure (.int (a / b : Nat)) := by
  rw [div_ii (show (0 : Int) < b by omega) (show (b : Int) < 1073741824 by omega), Int.natCast_ediv]
theorem sl_tup {x : List D} {lo hi : Option Int} : fSl (.tup x) lo hi = pure (.tup (cutD x lo hi)) := rfl
end FT
namespace FT
open PySem PySem.Spec PyProof.Rows L2
def rnD (p r : List Nat) : D := .tup [.tup (stD p), .tup (stD r)]
theorem st_app (p r : List Nat) : stD p ++ stD r = stD (p ++ r) := by unfold stD; simp
theorem st_mem {d : D} {l : List Nat} (h : d ∈ stD l) : ∃ x, x ∈ l ∧ d = .int (x : Nat) := by
  obtain ⟨x, hx, rfl⟩ := List.mem_map.mp h
  exact ⟨x, hx, rfl⟩
def unP (p r : List Nat) (m : Nat) : List Nat := p ++ (rp (m / r.length + 1) r).take m
def unR (r : List Nat) (laps m : Nat) : List Nat := rp laps (r.drop (m % r.length) ++ r.take (m % r.length))
theorem un_fits {r : List Nat} (hr : 0 < r.length) (m : Nat) : m ≤ (m / r.length + 1) * r.length := by
  have := Nat.div_add_mod m r.length
  have := Nat.mod_lt m hr
  rw [Nat.add_mul, Nat.one_mul, Nat.mul_comm]
  omega
theorem unP_len {p r : List Nat} (hr : 0 < r.length) (m : Nat) : (unP p r m).length = p.length + m := by
  unfold unP
  rw [List.length_append, List.length_take, rp_len]
  have := un_fits hr m
  omega
theorem rot_len {r : List Nat} (hr : 0 < r.length) (m : Nat) : (r.drop (m % r.length) ++ r.take (m % r.length)).length = r.length := by
  have := Nat.mod_lt m hr
  rw [List.length_append, List.length_drop, List.length_take]
  omega
theorem mem_rp {n : Nat} {l : List Nat} {x : Nat} (hn : 0 < n) : x ∈ rp n l ↔ x ∈ l := by
  unfold rp
  rw [List.mem_flatten]
  constructor
  · rintro ⟨a, ha, hx⟩
    rw [(List.mem_replicate.mp ha).2] at hx
    exact hx
  · intro hx
    exact ⟨l, List.mem_replicate.mpr ⟨by omega, rfl⟩, hx⟩
theorem mem_rot {l : List Nat} {t x : Nat} : x ∈ l.drop t ++ l.take t ↔ x ∈ l := by
  rw [List.mem_append, Or.comm, ← List.mem_append, List.take_append_drop]
theorem mem_unR {r : List Nat} {laps m x : Nat} (hl : 0 < laps) : x ∈ unR r laps m ↔ x ∈ r := by
  unfold unR
  rw [mem_rp hl, mem_rot]
end FT
namespace FT
open PySem PySem.Spec PyProof.Rows L2
def CL (r : AH) : Prop := True
theorem CL.nil : CL [] := trivial
theorem CL.app {r j : AH} (a : CL r) (b : CL j) : CL (r ++ j) := trivial
theorem CL.one {xs : List D} (h : refLts 3 xs = true) : CL [.lst xs] := trivial
theorem CL.put {r : AH} {xs : List D} (a : CL r) (h : refLts 3 xs = true) : CL (r ++ [.lst xs]) := a.app (.one h)
theorem refs_strs {n : Nat} (l : List Str) : refLts n (l.map .str) = true := refLts_map fun _ => rfl
theorem refs_ints {n : Nat} (l : List Int) : refLts n (l.map .int) = true := refLts_map fun _ => rfl
theorem refs_st {n : Nat} (l : List Nat) : refLts n (stD l) = true := refLts_map fun _ => rfl
theorem ref_st {n : Nat} (l : List Nat) : refLt n (.tup (stD l)) = true := by simp only [refLt]; exact refs_st l
theorem ref_rn {n : Nat} (p r : List Nat) : refLt n (rnD p r) = true := by unfold rnD; simp only [refLt, refLts, Bool.and_true, Bool.and_eq_true]; exact ⟨refs_st p, refs_st r⟩
theorem refO_up {m n : Nat} (h : m ≤ n) {o : O} (c : refO m o = true) : refO n o = true := by
  cases o with
  | lst xs => exact refLts_up h c
  | dK kvs => exact refLts_up h c
  | dF kvs => exact refLts_up h c
  | _ => rfl
theorem take_pool {gr sm : List Int} {s c : Int} {r j : AH} : (Pool gr sm s c (r ++ j)).take (r.length + 3) = Pool gr sm s c r := by
  unfold Pool
  simp
theorem pool_kept {gr sm gr' sm' : List Int} {s c s' c' : Int} {r j : AH} : Kept (Pool gr sm s c r) (Pool gr' sm' s' c' (r ++ j)) := fun i o li e => by
  have l3 : (Pool gr sm s c r).length = r.length + 3 := rfl
  rw [l3] at li ⊢
  match i, e with
  | 0, e => cases e; exact .inr (refs_ints _)
  | 1, e => cases e; exact .inr (refs_ints _)
  | 2, e => cases e; exact .inr (by simp [refO, refLts, refLt])
  | i + 3, e =>
    left
    have e : (r ++ j)[i]? = some o := e
    rw [List.getElem?_append_left (by omega)] at e
    exact e
theorem cln_cond {h h1 : AH} {k k' : Int} {r j : AH} (p : PS h k r) (q : CL r) (p1 : PS h1 k' (r ++ j)) : (h.length ≤ h1.length ∧ Kept h h1) ∧ PS (h1.take h.length) k' r := by
  have l := p.len
  have l1 := p1.len
  obtain ⟨gr, sm, s, c, rfl, g⟩ := p1
  obtain ⟨gr0, sm0, s0, c0, rfl, g0⟩ := p
  refine ⟨⟨by rw [List.length_append] at l1; omega, pool_kept⟩, ?_⟩
  rw [show (Pool gr0 sm0 s0 c0 r).length = r.length + 3 from rfl, take_pool]
  exact ⟨gr, sm, s, c, rfl, g⟩
theorem W_cln {m : M D} {h : AH} {k : Int} {r : AH} {Q : D → AH → Prop} (p : PS h k r) (q : CL r) (z : W m h fun d h1 => ∃ k' j, PS h1 k' (r ++ j) ∧ refLt 3 d = true ∧ ∀ h2, PS h2 k' r → Q d h2) : W (cln m) h Q := by
  obtain ⟨d, h1, e, k', j, p1, rd, f⟩ := z
  obtain ⟨c1, c2⟩ := cln_cond p q p1
  refine ⟨d, h1.take h.length, ?_, f _ c2⟩
  unfold cln
  rw [e]
  dsimp only
  rw [if_pos c1, if_pos (refLt_up (by rw [p.len]; omega) rd)]
theorem W_clnL {m : M D} {h : AH} {k : Int} {r : AH} {Q : D → AH → Prop} (p : PS h k r) (q : CL r) (z : W m h fun d h1 => ∃ k' j i xs, d = .ref (i + 3) ∧ PS h1 k' (r ++ j) ∧ r.length ≤ i ∧ (r ++ j)[i]? = some (.lst xs) ∧ refLts 3 xs = true ∧ ∀ h2, PS h2 k' (r ++ [.lst xs]) → Q (.ref (r.length + 3)) h2) : W (cln m) h Q := by
  obtain ⟨d, h1, e, k', j, i, xs, rfl, p1, hi, ei, rd, f⟩ := z
  obtain ⟨c1, c2⟩ := cln_cond p q p1
  have l := p.len
  refine ⟨.ref (r.length + 3), h1.take h.length ++ [.lst xs], ?_, f _ (c2.app _)⟩
  unfold cln
  rw [e]
  dsimp only
  rw [if_pos c1, if_neg (by simp only [refLt, decide_eq_true_eq]; omega), p1.get, ei]
  dsimp only
  rw [if_pos (show refO h.length (.lst xs) = true from refLts_up (by omega) rd), l]
theorem W_clE {m : G → M D} {γ : G} {h : AH} {k : Int} {r : AH} {Q : D → AH → Prop} (p : PS h k r) (q : CL r) (z : W (m γ) h fun d h1 => ∃ k' j, PS h1 k' (r ++ j) ∧ refLt 3 d = true ∧ ∀ h2, PS h2 k' r → Q d h2) : W (clE m γ) h Q := W_cln p q z
section
variable {h : AH} {k : Int} {r l : AH} {i : Nat} {xs : List D} {v : D}
theorem at_E : (r ++ l)[r.length + i]? = l[i]? := by rw [List.getElem?_append_right (by omega)]; congr 1; omega
theorem set_E {o : O} : (r ++ l).set (r.length + i) o = r ++ l.set i o := by
  rw [List.set_append_right _ _ (by omega)]
  congr 2
  omega
theorem w_getE {Q : List D → AH → Prop} (p : PS h k (r ++ l)) (e : l[i]? = some (.lst xs)) (q : Q xs h) : W (getL (r.length + i + 3)) h Q := w_getL p (by rw [at_E]; exact e) q
theorem w_appE {Q : D → AH → Prop} (p : PS h k (r ++ l)) (e : l[i]? = some (.lst xs)) (hl : xs.length < 1000000) (z : ∀ h', PS h' k (r ++ l.set i (.lst (xs ++ [v]))) → Q .non h') : W (fAppend (r.length + i + 3) v) h Q :=
  w_append p (by rw [at_E]; exact e) hl fun h' p' => z h' (by rw [set_E] at p'; exact p')
theorem w_tupE {Q : D → AH → Prop} (p : PS h k (r ++ l)) (e : l[i]? = some (.lst xs)) (q : Q (.tup xs) h) : W (fTuple [.ref (r.length + i + 3)]) h Q := by
  have ft : ∀ i : Nat, fTuple [.ref i] = (do let x ← getL i; pure (.tup x)) := fun _ => rfl
  rw [ft, W_bind]
  refine w_getE p e ?_
  rw [W_pure]
  exact q
theorem w_asRefE {Q : Nat → AH → Prop} (p : PS h k (r ++ l)) (e : l[i]? = some (.lst xs)) (q : Q (r.length + i + 3) h) : W (asRef (.ref (r.length + i + 3))) h Q := by
  rw [W_asRef]
  exact w_getE p e q
end
theorem q_setJ {ma : G → M D} {mt : G → M Out} {γ : G} {h : AH} {i : Nat} {Q : Out → AH → Prop} (J : D → AH → Prop) (z : W (ma γ) h J) (f : ∀ d h1, J d h1 → W (mt (γ.set i (some d))) h1 Q) : W (bCons (sAsg ma (gN i)) mt γ) h Q := q_setw (z.mono f)
theorem q_retJ {ma : G → M D} {mt : G → M Out} {γ : G} {h : AH} {Q : Out → AH → Prop} (J : D → AH → Prop) (z : W (ma γ) h J) (f : ∀ d h1, J d h1 → Q (.rt d) h1) : W (bCons (sRet ma) mt γ) h Q := q_retw (z.mono f)
theorem q_push {me : G → M D} {mt : G → M Out} {γ : G} {h : AH} {k : Int} {r l : AH} {a i : Nat} {xs : List D} {Q : Out → AH → Prop} (ea : γ[a]? = some (some (.ref (r.length + i + 3)))) (p : PS h k (r ++ l)) (e : l[i]? = some (.lst xs)) (hl : xs.length < 1000000) (J : D → Int → Prop)
    (z : W (me γ) h fun v h1 => ∃ k', PS h1 k' (r ++ l) ∧ J v k') (f : ∀ v k' h2, J v k' → PS h2 k' (r ++ l.set i (.lst (xs ++ [v]))) → W (mt γ) h2 Q) : W (bCons (sExpr (eM1 fAppend (eVar a) me)) mt γ) h Q := by
  refine q_expr ?_
  unfold eM1
  rw [W_bind]
  refine W_eq (v := .ref (r.length + i + 3)) (by unfold eVar; rw [ea]) ?_
  rw [W_bind]
  refine w_asRefE p e ?_
  rw [W_bind]
  refine z.mono fun v h1 ⟨k', p1, j⟩ => ?_
  exact w_appE p1 e hl fun h2 p2 => f v k' h2 j p2
theorem comp_E {cap : List (Option Nat)} {mi : G → M Src} {g : D → G → M G} {kk : G → M Bool} {me : G → M D} {γ : G} {h : AH} {r l : AH} {Q : D → AH → Prop} (J : Nat → List D → Int → Prop)
    (hs : W (mi γ) h fun src h1 => ∃ k, PS h1 k (r ++ l) ∧ J 0 [] k ∧ (∀ h k xs, PS h k (r ++ (l ++ [.lst xs])) → src.good h) ∧
      (∀ i d h k xs, src.items[i]? = some d → J i xs k → PS h k (r ++ (l ++ [.lst xs])) → W (g d (capG cap γ)) h fun γ1 h1' => W (kk γ1) h1' fun t h2 => if t = true then W (me γ1) h2 fun v h3 => ∃ k', PS h3 k' (r ++ (l ++ [.lst xs])) ∧ xs.length < 1000000 ∧ J (i + 1) (xs ++ [v]) k' else ∃ k', PS h2 k' (r ++ (l ++ [.lst xs])) ∧ J (i + 1) xs k') ∧
      ∀ h' xs k, J src.items.length xs k → PS h' k (r ++ (l ++ [.lst xs])) → Q (.ref (r.length + l.length + 3)) h') : W (eComp cap mi g kk me γ) h Q := by
  refine comp_w ?_
  refine hs.mono fun src h1 ⟨k, p1, j0, good, st, fin⟩ => ?_
  have l1 : h1.length = r.length + l.length + 3 := by rw [p1.len, List.length_append]
  refine ⟨fun i h' => ∃ xs k, J i xs k ∧ PS h' k (r ++ (l ++ [.lst xs])), ⟨[], k, j0, by rw [← List.append_assoc]; exact p1.app _⟩, fun i h' ⟨xs, k, _, p⟩ => good h' k xs p, ?_, ?_⟩
  · rintro i d h2 hd ⟨xs, k, jx, p2⟩
    refine (st i d h2 k xs hd jx p2).mono fun γ1 h3 w3 => w3.mono fun t h4 w4 => ?_
    cases t with
    | false => rw [if_neg (by decide)] at w4 ⊢; obtain ⟨k', p4, j4⟩ := w4; exact ⟨xs, k', j4, p4⟩
    | true =>
      rw [if_pos rfl] at w4 ⊢
      refine w4.mono fun v h5 ⟨k', p5, lx, j5⟩ => ?_
      rw [l1, show r.length + l.length + 3 = r.length + l.length + 3 from rfl]
      refine w_appE (i := l.length) p5 (by simp) lx fun h6 p6 => ?_
      refine ⟨_, k', j5, ?_⟩
      rw [List.set_append_right _ _ (Nat.le_refl _), Nat.sub_self] at p6
      exact p6
  · rintro h2 ⟨xs, k, jx, p2⟩
    rw [l1]
    exact fin h2 xs k jx p2
end FT
namespace L2
open PySem PySem.Spec PyProof.Rows
section
variable {κ : Type} [DecidableEq κ]
def valV (kvs : List (κ × V)) (k : κ) : Option V := (kvs.find? fun kv => decide (kv.1 = k)).map (·.2)
def putK (kvs : List (κ × V)) (k : κ) (v : V) : List (κ × V) :=
  if (kvs.any fun kv => decide (kv.1 = k)) = true then kvs.map (fun kv => if kv.1 = k then (kv.1, v) else kv) else kvs ++ [(k, v)]
def dropK (kvs : List (κ × V)) (k : κ) : List (κ × V) := kvs.filter fun kv => decide (kv.1 ≠ k)
theorem valV_pos {p : κ × V} {r : List (κ × V)} {k : κ} (e : p.1 = k) : valV (p :: r) k = some p.2 := by simp [valV, List.find?_cons, e]
theorem valV_neg {p : κ × V} {r : List (κ × V)} {k : κ} (e : ¬ p.1 = k) : valV (p :: r) k = valV r k := by simp [valV, List.find?_cons, e]
theorem valV_any (k : κ) : ∀ kvs : List (κ × V), (kvs.any fun kv => decide (kv.1 = k)) = (valV kvs k).isSome
  | [] => rfl
  | p :: r => by
    rw [List.any_cons]
    by_cases e : p.1 = k
    · simp only [valV_pos e, decide_eq_true e, Bool.true_or, Option.isSome_some]
    · rw [valV_neg e, decide_eq_false e, Bool.false_or]; exact valV_any k r
theorem length_putK (kvs : List (κ × V)) (k : κ) (v : V) : (putK kvs k v).length ≤ kvs.length + 1 := by
  unfold putK
  split
  · rw [List.length_map]; omega
  · rw [List.length_append, List.length_cons, List.length_nil]; omega
theorem RelO.isSome_eq {o : Option V} {u : Option Value} (r : RelO o u) : o.isSome = u.isSome := by
  cases o with
  | none => cases u with
    | none => rfl
    | some _ => exact (show False from r).elim
  | some _ => cases u with
    | none => exact (show False from r).elim
    | some _ => rfl
theorem RelO.getD {o : Option V} {u : Option Value} {d : V} {d' : Value} (r : RelO o u) (rd : RelV d d') : RelV (o.getD d) (u.getD d') := by
  cases o with
  | none => cases u with
    | none => exact rd
    | some _ => exact (show False from r).elim
  | some _ => cases u with
    | none => exact (show False from r).elim
    | some _ => exact r
theorem KV.val {kvs : List (κ × V)} {vs : List (κ × Value)} (r : KV kvs vs) (k : κ) : RelO (valV kvs k) (valueAt vs k) := by
  unfold KV at r
  induction r with
  | nil => exact True.intro
  | @cons p q ps qs h t ih =>
    obtain ⟨h1, h2⟩ := h
    by_cases e : p.1 = k
    · have e' : q.1 = k := h1.symm.trans e
      have b : valueAt (q :: qs) k = some q.2 := by simp [valueAt, List.find?_cons, e']
      rw [valV_pos e, b]; exact h2
    · have e' : ¬ q.1 = k := fun z => e (h1.trans z)
      have b : valueAt (q :: qs) k = valueAt qs k := by simp [valueAt, List.find?_cons, e']
      rw [valV_neg e, b]; exact ih
theorem KV.any {kvs : List (κ × V)} {vs : List (κ × Value)} (r : KV kvs vs) (k : κ) : (kvs.any fun kv => decide (kv.1 = k)) = vs.any fun kv => decide (kv.1 = k) := by
  unfold KV at r
  induction r with
  | nil => rfl
  | cons h t ih => rw [List.any_cons, List.any_cons, ih, h.1]
theorem KV.repl {kvs : List (κ × V)} {vs : List (κ × Value)} (r : KV kvs vs) (k : κ) {y : V} {u : Value} (ry : RelV y u) :
    KV (kvs.map fun kv => if kv.1 = k then (kv.1, y) else kv) (vs.map fun kv => if kv.1 = k then (kv.1, u) else kv) := by
  unfold KV at r ⊢
  induction r with
  | nil => exact .nil
  | @cons p q ps qs h t ih =>
    rw [List.map_cons, List.map_cons]
    refine .cons ?_ ih
    obtain ⟨h1, h2⟩ := h
    by_cases e : p.1 = k
    · rw [if_pos e, if_pos (h1.symm.trans e)]; exact ⟨h1, ry⟩
    · rw [if_neg e, if_neg (fun z => e (h1.trans z))]; exact ⟨h1, h2⟩
theorem KV.put {kvs : List (κ × V)} {vs : List (κ × Value)} (r : KV kvs vs) (k : κ) {y : V} {u : Value} (ry : RelV y u) : KV (putK kvs k y) (stored vs k u) := by
  unfold putK stored
  rw [r.any k]
  by_cases e : (vs.any fun kv => decide (kv.1 = k)) = true
  · rw [if_pos e, if_pos e]; exact r.repl k ry
  · rw [if_neg e, if_neg e]; exact Paired.snoc r ⟨rfl, ry⟩
theorem KV.drop {kvs : List (κ × V)} {vs : List (κ × Value)} (r : KV kvs vs) (k : κ) : KV (dropK kvs k) (without vs k) := by
  unfold KV at r ⊢
  unfold dropK without
  induction r with
  | nil => exact .nil
  | @cons p q ps qs h t ih =>
    obtain ⟨h1, h2⟩ := h
    rw [List.filter_cons, List.filter_cons]
    by_cases e : p.1 = k
    · have a : ¬ decide (p.1 ≠ k) = true := by simp [e]
      have b : ¬ decide (q.1 ≠ k) = true := by simp [h1.symm.trans e]
      rw [if_neg a, if_neg b]; exact ih
    · have e' : ¬ q.1 = k := fun z => e (h1.trans z)
      have a : decide (p.1 ≠ k) = true := by simp [e]
      have b : decide (q.1 ≠ k) = true := by simp [e']
      rw [if_pos a, if_pos b]; exact .cons ⟨h1, h2⟩ ih
theorem KV.keys {kvs : List (κ × V)} {vs : List (κ × Value)} (r : KV kvs vs) : kvs.map (·.1) = vs.map (·.1) := by
  unfold KV at r
  induction r with
  | nil => rfl
  | cons h t ih => rw [List.map_cons, List.map_cons, ih, h.1]
theorem KV.length {kvs : List (κ × V)} {vs : List (κ × Value)} (r : KV kvs vs) : kvs.length = vs.length := Paired.length r
end
theorem kV_is {P : Program} {w : World} {k : Key} {u : Value} (r : RelV (kV k) u) : (mixKind P w).is k u = true := by
  cases k with
  | inl i => obtain ⟨t, e⟩ := (show ∃ t, u = Value.int i t from r); subst e; exact mixKind_int P w i t
  | inr x => obtain ⟨t, e⟩ := (show ∃ t, u = Value.str x t from r); subst e; exact mixKind_str P w x t
abbrev KT (H : Hp) : List (List Key × V) → List (List Key × Addr × Value) → Prop := Paired fun p q => p.1 = q.1 ∧ H q.2.1 = some (.tup (p.1.map kV)) ∧ RelV p.2 q.2.2
theorem KT.val {H : Hp} {kvs : List (List Key × V)} {xs : List (List Key × Addr × Value)} (r : KT H kvs xs) (k : List Key) : RelO (valV kvs k) ((atKey xs k).map (·.2)) := by
  induction r with
  | nil => exact True.intro
  | @cons p q ps qs h t ih =>
    obtain ⟨h1, _, h2⟩ := h
    by_cases e : p.1 = k
    · have e' : q.1 = k := h1.symm.trans e
      have b : atKey (q :: qs) k = some q.2 := by simp [atKey, List.find?_cons, e']
      rw [valV_pos e, b]; exact h2
    · have e' : ¬ q.1 = k := fun z => e (h1.trans z)
      have b : atKey (q :: qs) k = atKey qs k := by simp [atKey, List.find?_cons, e']
      rw [valV_neg e, b]; exact ih
theorem KT.repl {H : Hp} {kvs : List (List Key × V)} {xs : List (List Key × Addr × Value)} (r : KT H kvs xs) (k : List Key) {y : V} {u : Value} (ry : RelV y u) :
    KT H (kvs.map fun kv => if kv.1 = k then (kv.1, y) else kv) (xs.map (putAt k u)) := by
  induction r with
  | nil => exact .nil
  | @cons p q ps qs h t ih =>
    rw [List.map_cons, List.map_cons]
    refine .cons ?_ ih
    obtain ⟨h1, h2, h3⟩ := h
    unfold putAt
    by_cases e : p.1 = k
    · rw [if_pos e, if_pos (h1.symm.trans e)]; exact ⟨h1, h2, ry⟩
    · rw [if_neg e, if_neg (fun z => e (h1.trans z))]; exact ⟨h1, h2, h3⟩
theorem KT.put {H : Hp} {kvs : List (List Key × V)} {xs : List (List Key × Addr × Value)} (r : KT H kvs xs) (k : List Key) {b : Addr} {y : V} {u : Value} (hb : H b = some (.tup (k.map kV))) (ry : RelV y u) :
    KT H (putK kvs k y) (storedH xs k b u) := by
  have e : (kvs.any fun kv => decide (kv.1 = k)) = (atKey xs k).isSome := by
    rw [valV_any, (r.val k).isSome_eq, Option.isSome_map]
  unfold putK storedH
  rw [e]
  by_cases q : (atKey xs k).isSome = true
  · rw [if_pos q, if_pos q]; exact r.repl k ry
  · rw [if_neg q, if_neg q]; exact Paired.snoc r ⟨rfl, hb, ry⟩
theorem KT.keeps {H H' : Hp} {kvs : List (List Key × V)} {xs : List (List Key × Addr × Value)} (r : KT H kvs xs) (ht : ∀ b ys, H b = some (.tup ys) → H' b = some (.tup ys)) : KT H' kvs xs :=
  Paired.mapP r fun _ _ z => ⟨z.1, ht _ _ z.2.1, z.2.2⟩
section
variable {P : Program} {w : World} {H : Hp} {h : Heap} {a : Addr}
theorem rd_of {u : HO} (ok : HOk P w H h) (e : Rd H a u) : ObjOk P w H h a u := e.ok ok
theorem dk_rd {kvs : List (Key × V)} (ok : HOk P w H h) (e : Rd H a (.dK kvs)) : kvs.length ≤ sizeLine ∧ (a == sysModules) = false ∧ ∃ vs, KV kvs vs ∧ h.DictOf (mixKind P w) a vs :=
  show ObjOk P w H h a (.dK kvs) from rd_of ok e
theorem dk_of {kvs : List (Key × V)} (ok : HOk P w H h) (e : H a = some (.dK kvs)) : kvs.length ≤ sizeLine ∧ (a == sysModules) = false ∧ ∃ vs, KV kvs vs ∧ h.DictOf (mixKind P w) a vs := dk_rd ok (.inl e)
end
def DGet (H : Hp) (a : Addr) (y : V) (r : Option V) : Prop :=
  (∃ kvs k, Rd H a (.dK kvs) ∧ y = kV k ∧ r = valV kvs k) ∨ ∃ kvs k b, Rd H a (.dT kvs) ∧ y = .ref b ∧ H b = some (.tup (k.map kV)) ∧ r = valV kvs k
def DPut (H : Hp) (a : Addr) (y v : V) (H' : Hp) : Prop :=
  (∃ kvs k, H a = some (.dK kvs) ∧ y = kV k ∧ kvs.length < sizeLine ∧ H' = upd H a (.dK (putK kvs k v))) ∨
  ∃ kvs k b, H a = some (.dT kvs) ∧ y = .ref b ∧ H b = some (.tup (k.map kV)) ∧ kvs.length < sizeLine ∧ H' = upd H a (.dT (putK kvs k v))
theorem DGet.k {H : Hp} {a : Addr} {kvs : List (Key × V)} {k : Key} (e : H a = some (.dK kvs)) : DGet H a (kV k) (valV kvs k) := .inl ⟨kvs, k, .inl e, rfl, rfl⟩
theorem DGet.t {H : Hp} {a b : Addr} {kvs : List (List Key × V)} {k : List Key} (e : H a = some (.dT kvs)) (eb : H b = some (.tup (k.map kV))) : DGet H a (.ref b) (valV kvs k) := .inr ⟨kvs, k, b, .inl e, rfl, eb, rfl⟩
theorem DPut.k {H : Hp} {a : Addr} {kvs : List (Key × V)} {k : Key} {v : V} (e : H a = some (.dK kvs)) (hl : kvs.length < sizeLine) : DPut H a (kV k) v (upd H a (.dK (putK kvs k v))) := .inl ⟨kvs, k, e, rfl, hl, rfl⟩
theorem DPut.t {H : Hp} {a b : Addr} {kvs : List (List Key × V)} {k : List Key} {v : V} (e : H a = some (.dT kvs)) (eb : H b = some (.tup (k.map kV))) (hl : kvs.length < sizeLine) :
    DPut H a (.ref b) v (upd H a (.dT (putK kvs k v))) := .inr ⟨kvs, k, b, e, rfl, eb, hl, rfl⟩
section
variable {X : Cx} {pins : List (Addr × Obj)} {σ : St} {H : Hp} {s : Shared} {a : Addr} {y v : V} {u r : Value} {o : Option V} {A : Around} {E : Value → Shared → Prop}
theorem Inv.big (I : Inv X pins σ H s) : sysModules < s.heap.objs.size := by
  have h : mainGlobals < s.heap.objs.size := (I.mod.glob.keeps I.bk).lt
  exact Nat.lt_trans (by decide) h
theorem d_write {h' : Heap} {t' : Nat} {ob : HO} (I : Inv X pins σ H s) (mu : Mut (H a)) (hs : Heap.SameBut a s.heap h') (he : ∃ q, h'.get? a = some q) (new : ObjOk X.prog X.w (upd H a ob) h' a ob) :
    Inv X pins σ (upd H a ob) { s with heap := h', toks := t' } :=
  I.write (x := a) (e := a) mu (.inl rfl) (fun b q hb z => (hs.2 b hb).trans z) he new
theorem dk_new {P : Program} {w : World} {H' : Hp} {h' : Heap} {kvs : List (Key × V)} {vs : List (Key × Value)} (z : kvs.length ≤ sizeLine) (hd : (a == sysModules) = false) (rel : KV kvs vs) (dd : h'.DictOf (mixKind P w) a vs) :
    ObjOk P w H' h' a (.dK kvs) := ⟨z, hd, vs, rel, dd⟩
end
section
variable {X : Cx} {pins : List (Addr × Obj)} {σ : St} {H : Hp} {s : Shared} {a : Addr} {kvs : List (Key × V)} {k : Key} {u : Value} {A : Around} {E : Value → Shared → Prop}
end
section
variable {X : Cx} {o i e value : Expr} {pos pos' tpos : Pos} {td ty tv : TE}
end
theorem dk_empty {P : Program} {w : World} {H : Hp} (h : Heap) (hb : sysModules < h.objs.size) : ObjOk P w H (h.push { cls := .type "dict", data := .dict #[] }) h.objs.size (.dK []) :=
  ⟨Nat.zero_le _, beq_eq_false_iff_ne.mpr (Ne.symm (Nat.ne_of_lt hb)), [], .nil, Heap.DictOf.new h⟩
def tDNewK : TE := fun _ H Q => ∀ p, H p = none → Q (.ref p) (upd H p (.dK []))
section
variable {X : Cx} {pos : Pos}
theorem pe_dnewK : PE X (.Dict [] [] pos) tDNewK := fun pins s σ H Q I h =>
  wpAny_Dict_empty ⟨.ref s.heap.objs.size, _, I.laid (a := s.heap.objs.size) (o := .dK []) (t' := s.toks) (fun _ _ q => Heap.get?_push_of_some _ q) (Nat.le_refl _) (dk_empty s.heap I.big), rfl, h _ (I.hok.fresh (Nat.le_refl _))⟩
end
def tPairs : List (TE × TE) → St → Hp → (List (V × V) → Hp → Prop) → Prop
  | [], _, H, Q => Q [] H
  | (tk, tv) :: r, σ, H, Q => tk σ H fun x H1 => tv σ H1 fun y H2 => tPairs r σ H2 fun ps H3 => Q ((x, y) :: ps) H3
abbrev VV : List (V × V) → List (Value × Value) → Prop := Paired fun p q => RelV p.1 q.1 ∧ RelV p.2 q.2
def PPs (X : Cx) (pos : Pos) (keys : List (Option Expr)) (values : List Expr) (trs : List (TE × TE)) : Prop :=
  ∀ (pins : List (Addr × Obj)) (s : Shared) (σ : St) (H : Hp) (Q : List (V × V) → Hp → Prop), Inv X pins σ H s → tPairs trs σ H Q →
    wpAny (model X.prog X.w) X.A (evalPairs (pairTrees keys values X.env pos)) (fun vs s' => ∃ ps H', Inv X pins σ H' s' ∧ VV ps vs ∧ Q ps H') X.xe s
theorem pps_nil {X : Cx} {pos : Pos} : PPs X pos [] [] [] := fun pins s σ H Q I h => pairTrees_nil_walk ⟨[], H, I, .nil, h⟩
theorem pps_cons {X : Cx} {pos : Pos} {k v : Expr} {ks : List (Option Expr)} {vs : List Expr} {tk tv : TE} {trs : List (TE × TE)} (hk : PE X k tk) (hv : PE X v tv) (hr : PPs X pos ks vs trs) :
    PPs X pos (some k :: ks) (v :: vs) ((tk, tv) :: trs) := fun pins s σ H Q I h =>
  pairTrees_cons_walk (thn (hk pins s σ H _ I h) fun u s1 ⟨x, H1, I1, rx, q1⟩ => thn (hv pins s1 σ H1 _ I1 q1) fun w2 s2 ⟨y, H2, I2, ry, q2⟩ =>
    thn (hr pins s2 σ H2 _ I2 q2) fun ws s3 ⟨ps, H3, I3, rel, q3⟩ => ⟨(x, y) :: ps, H3, I3, .cons ⟨rx, ry⟩ rel, q3⟩)
def mergeK (kvs more : List (Key × V)) : List (Key × V) := more.foldl (fun acc kv => putK acc kv.1 kv.2) kvs
theorem KV.merge : ∀ {more : List (Key × V)} {rs : List (Key × Value)} {kvs : List (Key × V)} {vs : List (Key × Value)}, KV more rs → KV kvs vs → KV (mergeK kvs more) (merged vs rs) := by
  intro more rs kvs vs r
  unfold KV at r
  induction r generalizing kvs vs with
  | nil => intro q; exact q
  | @cons p q ps qs h t ih =>
    intro r0
    have e : KV (putK kvs p.1 p.2) (stored vs q.1 q.2) := by
      have := r0.put p.1 h.2
      rw [← h.1]; exact this
    exact ih e
theorem length_mergeK : ∀ (more kvs : List (Key × V)), (mergeK kvs more).length ≤ kvs.length + more.length
  | [], kvs => by show kvs.length ≤ kvs.length + 0; omega
  | p :: r, kvs => by
    have h1 := length_mergeK r (putK kvs p.1 p.2)
    have h2 := length_putK kvs p.1 p.2
    show (mergeK (putK kvs p.1 p.2) r).length ≤ _
    rw [List.length_cons]; omega
theorem carries_of {P : Program} {w : World} : ∀ {kvs : List (Key × V)} {ws : List (Value × Value)}, VV (kvs.map fun kv => (kV kv.1, kv.2)) ws → ∃ rs, Carries (mixKind P w) ws rs ∧ KV kvs rs
  | [], _, r => by rw [List.map_nil] at r; cases r; exact ⟨[], True.intro, .nil⟩
  | p :: kvs, _, r => by
    rw [List.map_cons] at r
    cases r with
    | @cons a b as bs h t =>
      obtain ⟨rs, c, q⟩ := carries_of (P := P) (w := w) t
      obtain ⟨b1, b2⟩ := b
      exact ⟨(p.1, b2) :: rs, ⟨kV_is h.1, rfl, c⟩, .cons ⟨rfl, h.2⟩ q⟩
def tDisp (trs : List (TE × TE)) : TE := fun σ H Q => ∀ p, H p = none → tPairs trs σ (upd H p (.dK [])) fun ps H2 => H2 p = some (.dK []) ∧ ∃ kvs : List (Key × V), ps = kvs.map (fun kv => (kV kv.1, kv.2)) ∧ kvs.length ≤ 15 ∧ Q (.ref p) (upd H2 p (.dK (mergeK [] kvs)))
theorem pe_disp {X : Cx} {pos : Pos} {keys : List (Option Expr)} {values : List Expr} {trs : List (TE × TE)} (h : PPs X pos keys values trs) (hall : keys.all (·.isSome) = true) (hl : keys.length = values.length) (h0 : keys ≠ [])
    (h15 : keys.length ≤ 15) : PE X (.Dict keys values pos) (tDisp trs) := by
  intro pins s σ H Q I q
  have hn := I.hok.fresh (Nat.le_refl s.heap.objs.size)
  have I1 := I.laid (a := s.heap.objs.size) (o := .dK []) (h' := s.heap.push { cls := .type "dict", data := .dict #[] }) (t' := s.toks) (fun _ _ q => Heap.get?_push_of_some _ q) (Nat.le_refl _) (dk_empty s.heap I.big)
  refine wpAny_Dict_walk (knd := mixKind X.prog X.w) hall hl h0 h15 (thn (h pins _ σ _ _ I1 (q _ hn)) fun ws s2 ⟨ps, H2, I2, rel, e, kvs, ep, lk, q2⟩ => ?_)
  subst ep
  obtain ⟨rs, c, rk⟩ := carries_of (P := X.prog) (w := X.w) rel
  obtain ⟨z, hd, vs0, r0, dd⟩ := dk_of I2.hok e
  cases r0
  refine ⟨rs, c, dd, fun h' dd' hs => ⟨.ref s.heap.objs.size, _, ?_, rfl, q2⟩⟩
  have hz : (mergeK [] kvs).length ≤ sizeLine := by
    have h1 := length_mergeK kvs []
    rw [List.length_nil] at h1
    rw [sizeLine_eq]; omega
  have he : ∃ q, h'.get? s.heap.objs.size = some q := let ⟨q, _, _, hq, _⟩ := dd'; ⟨q, hq⟩
  exact d_write I2 (by rw [e]; exact True.intro) hs he (dk_new hz hd (rk.merge .nil) dd')
structure M1 (X : Cx) (o : Expr) (m : Str) (apos : Pos) (e : Expr) (cpos : Pos) : Prop where
  base : attributeBase o m X.env (eval o X.env) = eval o X.env
  few : ((backTo cpos (starEach [e] X.env)).all (fun x => !x.1) && (backToKw cpos (keywordEach [] X.env)).all (fun x => x.1.isSome)
    && decide (([e] : List Expr).length + ([] : List Keyword).length + (if ([] : List Keyword).isEmpty then 0 else 1) < 30)) = true
  line : (apos.endLine == cpos.line) = true
  trees : backTo cpos (starEach [e] X.env) = [(false, eval e X.env)]
structure M2 (X : Cx) (o : Expr) (m : Str) (apos : Pos) (e f : Expr) (cpos : Pos) : Prop where
  base : attributeBase o m X.env (eval o X.env) = eval o X.env
  few : ((backTo cpos (starEach [e, f] X.env)).all (fun x => !x.1) && (backToKw cpos (keywordEach [] X.env)).all (fun x => x.1.isSome)
    && decide (([e, f] : List Expr).length + ([] : List Keyword).length + (if ([] : List Keyword).isEmpty then 0 else 1) < 30)) = true
  line : (apos.endLine == cpos.line) = true
  trees : backTo cpos (starEach [e, f] X.env) = [(false, eval e X.env), (false, eval f X.env)]
section
variable {X : Cx} {pins : List (Addr × Obj)} {σ : St} {H : Hp} {s : Shared} {a : Addr} {y d : V} {u r : Value} {o : Option V} {A : Around} {E : Value → Shared → Prop}
end
section
variable {X : Cx} {o e f : Expr} {apos cpos : Pos} {td ty tx : TE}
end
end L2
namespace FT
open PySem PySem.Spec PyProof.Rows L2
def lkD (kvs : List (Key × D)) (k : Key) : Option D := (kvs.find? fun kv => decide (kv.1 = k)).map (·.2)
def ptD (kvs : List (Key × D)) (k : Key) (v : D) : List (Key × D) :=
  if (kvs.any fun kv => decide (kv.1 = k)) = true then kvs.map (fun kv => if kv.1 = k then (kv.1, v) else kv) else kvs ++ [(k, v)]
section
variable {K : PySem.W.Frag} {ρ : List Addr} {H : Hp}
theorem RK.len : ∀ {kvs : List (Key × D)} {vs : List (Key × V)}, RK K ρ H kvs vs → kvs.length = vs.length
  | _, _, .nil => rfl
  | _, _, .cons _ b => by simp [RK.len b]
theorem RK.lk (k : Key) : ∀ {kvs : List (Key × D)} {vs : List (Key × V)}, RK K ρ H kvs vs → (lkD kvs k = none ∧ valV vs k = none) ∨ ∃ d v, lkD kvs k = some d ∧ valV vs k = some v ∧ RD K ρ H d v
  | _, _, .nil => .inl ⟨rfl, rfl⟩
  | p :: kvs, q :: vs, .cons a b => by
    by_cases e : p.1 = k
    · refine .inr ⟨p.2, q.2, by simp [lkD, List.find?_cons, e], valV_pos (a.1.symm.trans e), a.2⟩
    · rw [valV_neg (fun z => e (a.1.trans z))]
      have : lkD (p :: kvs) k = lkD kvs k := by simp [lkD, List.find?_cons, e]
      rw [this]
      exact RK.lk k b
theorem RK.any (k : Key) : ∀ {kvs : List (Key × D)} {vs : List (Key × V)}, RK K ρ H kvs vs → (kvs.any fun kv => decide (kv.1 = k)) = vs.any fun kv => decide (kv.1 = k)
  | _, _, .nil => rfl
  | _, _, .cons a b => by rw [List.any_cons, List.any_cons, RK.any k b, a.1]
theorem RK.rep (k : Key) {d : D} {v : V} (r : RD K ρ H d v) : ∀ {kvs : List (Key × D)} {vs : List (Key × V)}, RK K ρ H kvs vs → RK K ρ H (kvs.map (fun kv => if kv.1 = k then (kv.1, d) else kv)) (vs.map (fun kv => if kv.1 = k then (kv.1, v) else kv))
  | _, _, .nil => .nil
  | p :: kvs, q :: vs, .cons a b => by
    rw [List.map_cons, List.map_cons]
    refine .cons ?_ (RK.rep k r b)
    by_cases e : p.1 = k
    · rw [if_pos e, if_pos (a.1.symm.trans e)]; exact ⟨a.1, r⟩
    · rw [if_neg e, if_neg (fun z => e (a.1.trans z))]; exact a
theorem RK.snoc {k : Key} {d : D} {v : V} (r : RD K ρ H d v) : ∀ {kvs : List (Key × D)} {vs : List (Key × V)}, RK K ρ H kvs vs → RK K ρ H (kvs ++ [(k, d)]) (vs ++ [(k, v)])
  | _, _, .nil => .cons ⟨rfl, r⟩ .nil
  | _, _, .cons a b => .cons a (RK.snoc r b)
theorem RK.put (k : Key) {d : D} {v : V} (r : RD K ρ H d v) {kvs : List (Key × D)} {vs : List (Key × V)} (q : RK K ρ H kvs vs) : RK K ρ H (ptD kvs k d) (L2.putK vs k v) := by
  unfold ptD L2.putK
  rw [q.any k]
  split
  · exact q.rep k r
  · exact q.snoc r
theorem key_V {d : D} {k : Key} {v : V} (e : keyD d = some k) (r : RD K ρ H d v) : v = kV k := by
  cases d <;> simp only [keyD] at e <;> first | (cases e; simp only [RD] at r; exact r) | cases e
end
def newK (kvs : List (Key × D)) : M D := fun h => if kvs.length ≤ sizeLine then .ok (.ref h.length) (h ++ [.dK kvs]) else .bad
section
variable {X : Cx} {EX : XX} {a o i e f : Expr} {pos apos cpos : Pos} {mo mi ma mb : G → M D}
theorem se_dk0 : SE X EX (.Dict [] [] pos) (fun _ => newK []) :=
  ⟨PE.imp pe_dnewK fun σ H Q ⟨ρ, γ, h, rel, fin⟩ p hp => by
    unfold newK at fin
    dsimp only at fin
    rw [if_pos (show ([] : List (Key × D)).length ≤ sizeLine from Nat.zero_le _)] at fin
    refine fin (ρ ++ [p]) _ (Pre.app _ _) (Ext.upd (.inl hp)) (rel.h.pushO hp ⟨[], upd_same, .nil⟩) _ ?_
    simp only [RD]
    refine ⟨p, rfl, ?_⟩
    rw [← rel.h.len]; simp⟩
end
end FT
namespace FT
open PySem PySem.Spec PyProof.Rows L2
section
variable {X : Cx} {EX : XX} {e tg : Expr}
end
theorem W_of {α : Type} {m : M α} {h h1 : AH} {v : α} {Q : α → AH → Prop} (e : m h = .ok v h1) (q : Q v h1) : W m h Q := ⟨_, _, e, q⟩
end FT
namespace FT
open PySem PySem.Spec PyProof.Rows L2
def putN (acc : List Nat) (k : Nat) : List Nat := if k ∈ acc then acc else acc ++ [k]
def dedN (l : List Nat) : List Nat := l.foldl putN []
def setN (l : List Nat) : List Nat := sortN (dedN l)
theorem rise_nd {l : List Nat} (h : l.Pairwise (· < ·)) : l.Nodup := h.imp fun h => Nat.ne_of_lt h
inductive RchT (st : List (List Nat)) (T : List Nat) (x : Nat) : Nat → Prop
  | here : RchT st T x x
  | step {a b : Nat} : RchT st T x a → b ∈ nx st a → b ∉ T → RchT st T x b
structure FndT (st : List (List Nat)) (T : List Nat) (x : Nat) (S : List Nat) : Prop where
  nd : S.Nodup
  rc : ∀ a ∈ S, RchT st T x a
  hx : x ∈ S
  nt : ∀ a ∈ S, a ∉ T
theorem FndT.put {st : List (List Nat)} {T : List Nat} {x a b : Nat} {S : List Nat} (f : FndT st T x S) (ha : a ∈ S) (hb : b ∈ nx st a) (nb : b ∉ S) (nt : b ∉ T) : FndT st T x (S ++ [b]) :=
  ⟨nodup_put f.nd nb, fun c hc => by
    rcases List.mem_append.mp hc with q | q
    · exact f.rc c q
    · simp at q; subst q; exact .step (f.rc a ha) hb nt, List.mem_append_left _ f.hx, fun c hc => by
    rcases List.mem_append.mp hc with q | q
    · exact f.nt c q
    · simp at q; subst q; exact nt⟩
theorem FndT.one {st : List (List Nat)} {T : List Nat} {x : Nat} (h : x ∉ T) : FndT st T x [x] := ⟨by simp, fun a ha => by simp at ha; subst ha; exact .here, by simp, fun a ha => by simp at ha; subst ha; exact h⟩
end FT
namespace FT
open PySem PySem.Spec PyProof.Rows L2
section
variable {ma me : G → M D} {mt : G → M Out} {γ : G} {h : AH} {a b i : Nat} {xs : List D} {v : D} {Q : Out → AH → Prop}
theorem asRef_h (e : h[i]? = some (.lst xs)) : asRef (.ref i) h = .ok i h := by unfold asRef; dsimp only; rw [e]
theorem append_h (e : h[i]? = some (.lst xs)) (hl : xs.length < 1000000) : fAppend i v h = .ok .non (h.set i (.lst (xs ++ [v]))) := by
  unfold fAppend updL
  rw [e]
  dsimp only
  rw [if_pos (by simp [sizeLine]; omega)]
theorem call1_h {f : List D → M D} {d : D} {h1 : AH} {r : Res D} (e : me γ h = .ok d h1) (e2 : f [d] h1 = r) : eCall f (aCons me aNil) γ h = r := by
  have : aCons me aNil γ h = .ok [d] h1 := by
    show (me γ >>= fun x => (do let r ← aNil γ; pure (x :: r) : M (List D))) h = _
    rw [M.bind_ok e]; rfl
  show (aCons me aNil γ >>= f) h = _
  rw [M.bind_ok this]; exact e2
theorem tup_h (e : h[i]? = some (.lst xs)) : fTuple [.ref i] h = .ok (.tup xs) h := by
  have ft : fTuple [.ref i] = (do let x ← getL i; pure (.tup x)) := rfl
  have g : getL i h = .ok xs h := by unfold getL; rw [e]
  rw [ft, M.bind_ok g]; rfl
theorem len_h (e : h[i]? = some (.lst xs)) : fLen [.ref i] h = .ok (.int xs.length) h := by
  have ft : fLen [.ref i] = (do let x ← getL i; pure (.int x.length)) := rfl
  have g : getL i h = .ok xs h := by unfold getL; rw [e]
  rw [ft, M.bind_ok g]; rfl
theorem ix_h {t : Int} {d : D} (e : h[i]? = some (.lst xs)) (a : atI xs t = some d) : fIx (.ref i) (.int t) h = .ok d h := by
  have ft : fIx (.ref i) (.int t) = (do let xs ← getL i; match atI xs t with | some d => pure d | none => bad) := rfl
  have g : getL i h = .ok xs h := by unfold getL; rw [e]
  rw [ft, M.bind_ok g, a]; rfl
theorem sortS_h {ss : List Str} (e : h[i]? = some (.lst (ss.map .str))) (hl : ss.length < 64) : fSorted [.ref i] h = .ok (.ref h.length) (h ++ [.lst ((sortS ss).map .str)]) := by
  have fs : fSorted [.ref i] = (do
    let xs ← getL i
    if xs.length < 64 then (match strsD xs with
      | some ss => newL ((sortS ss).map .str)
      | none => (match numsD xs with
        | some ns => newL ((sortI ns).map .int)
        | none => bad)) else bad) := rfl
  have g : getL i h = .ok (ss.map .str) h := by unfold getL; rw [e]
  rw [fs, M.bind_ok g, if_pos (by simpa using hl), strs_map]
  dsimp only
  unfold newL
  rw [if_pos (by rw [List.length_map, sortS_len]; unfold sizeLine; omega)]
theorem clTup_h (e : me γ h = .ok (.ref h.length) (h ++ [.lst xs])) (c : refLts 0 xs = true) : clE (eCall fTuple (aCons me aNil)) γ h = .ok (.tup xs) h :=
  cln_of (j := [.lst xs]) (call1_h e (tup_h (by simp))) (by simp only [refLt]; exact refLts_up (Nat.zero_le _) c)
theorem cb_h {b : Bool} {h1 : AH} (e : me γ h = .ok (.bl b) h1) : (fun γ => (do let d ← me γ; asB d : M Bool)) γ h = .ok b h1 := by
  dsimp only
  rw [M.bind_ok e]; rfl
theorem run_h {n : Nat} {mb : G → M Out} {ds : List D} {d : D} {h1 : AH} (z : W (mb (startG n ds)) h (runW fun a h' => a = d ∧ h' = h1)) : runF n mb ds h = .ok d h1 := by
  obtain ⟨_, _, a, rfl, rfl⟩ := w_run z
  exact a
end
end FT
namespace FT
open PySem PySem.Spec PyProof.Rows L2
section
variable {ma mb : G → M D} {γ : G} {h h1 h2 : AH}
theorem e2_h {f : D → D → M D} {x y : D} {r : Res D} (e1 : ma γ h = .ok x h1) (e2' : mb γ h1 = .ok y h2) (e3 : f x y h2 = r) : e2 f ma mb γ h = r := by
  show (ma γ >>= fun x => (mb γ >>= fun y => f x y)) h = _
  rw [M.bind_ok e1, M.bind_ok e2', e3]
theorem fn_h {n : Nat} {f : List D → M D} {mr : G → M (List D)} {ds : List D} {r : Res D} (e : mr γ h = .ok ds h1) (hn : ds.length = n) (e2 : f ds h1 = r) : eFn n f mr γ h = r := by
  show (mr γ >>= fun xs => if xs.length = n then f xs else bad) h = _
  rw [M.bind_ok e, if_pos hn, e2]
theorem ac_h {mr : G → M (List D)} {d : D} {ds : List D} (e : ma γ h = .ok d h1) (e2 : mr γ h1 = .ok ds h2) : aCons ma mr γ h = .ok (d :: ds) h2 := by
  show (ma γ >>= fun x => (mr γ >>= fun r => (pure (x :: r) : M (List D)))) h = _
  rw [M.bind_ok e, M.bind_ok e2]; rfl
end
end FT
set_option maxHeartbeats 1600000
namespace FT
open PySem PySem.Spec PyProof.Rows L2
section
variable {prog : Program} {w : World} {A : Around} {E : Value → Shared → Prop} {s : Shared}
theorem ints_at : ∀ {vs : List Value} {ns : List Int}, IntsAre vs ns → ∀ i (h1 : i < vs.length) (h2 : i < ns.length), ∃ t, vs[i] = .int ns[i] t
  | _, _, .nil, i, h1, _ => by simp at h1
  | _, _, .cons n t r, 0, _, _ => ⟨t, rfl⟩
  | _, _, .cons n t r, i + 1, h1, h2 => by simpa using ints_at r i (by simpa using h1) (by simpa using h2)
end
def maxI (ns : List Int) : Int := ns.getD (argBest (fun i j => decide (ns.getD i 0 > ns.getD j 0)) (ns.length - 1)) 0
theorem maxI_mem {ns : List Int} (h : 0 < ns.length) : maxI ns ∈ ns := by
  obtain ⟨a, _⟩ := argBest_gt (fun i => ns.getD i 0) (ns.length - 1)
  unfold maxI
  generalize argBest (fun i j => decide (ns.getD i 0 > ns.getD j 0)) (ns.length - 1) = j at a ⊢
  have hj : j < ns.length := by omega
  rw [List.getD_eq_getElem?_getD, List.getElem?_eq_getElem hj]
  exact List.getElem_mem hj
theorem maxI_le {ns : List Int} {x : Int} (h : x ∈ ns) : x ≤ maxI ns := by
  obtain ⟨i, hi, e⟩ := List.getElem_of_mem h
  have := (argBest_gt (fun i => ns.getD i 0) (ns.length - 1)).2 i (by omega)
  rw [List.getD_eq_getElem?_getD, List.getElem?_eq_getElem hi, Option.getD_some, e] at this
  exact this
section
variable {X : Cx} {EX : XX} {a o : Expr} {pos apos cpos p : Pos} {mo ma : G → M D} {mr : G → M (List D)}
theorem call_maxT (hc : X.calm = true) : CallR X (.builtin "max") (fun xs H Q => ∃ (a : Addr) (ns : List Int), xs = [.ref a] ∧ SqT X.K H a (ns.map V.int) ∧ 0 < ns.length ∧ Q (.int (maxI ns)) H) := by
  intro pins s σ H xs us Q I rv h
  obtain ⟨a, ns, rfl, hq, hn, q⟩ := h
  obtain ⟨u, rfl, ru⟩ := vals1 rv
  cases ru
  obtain ⟨its, r, pl, hz⟩ := I.tuple hq
  have pT : s.heap.IsTuple a its.toArray := pl
  have hi := intsAre_of r
  have hlen := hi.length
  have lt : a < s.heap.objs.size := by obtain ⟨o, e, _⟩ := pl; exact Heap.lt_size e
  refine call_max_walk (wpAny_pyIter_tuple pT ?_)
  refine ⟨s.heap.objs.size, [s.heap.objs.size, a], [s.heap.objs.size], its.toArray.size, _, _, fun i j => decide (ns.getD i 0 > ns.getD j 0), rfl, Walks.tuple (A := X.A.in1) (I.ok.hd hc) s.heap.objs.size a (Nat.ne_of_lt lt) its.toArray, ⟨⟨_, Heap.get?_push_size _ rfl, rfl, rfl⟩, pT.push _⟩, fun b hb => ?_, by simpa [hlen] using hn, CmpOf.ints_gt (fun i => ns.getD i 0) fun i v hv => ?_, fun v h' tk hP hk => ?_⟩
  · show b < (s.heap.push _).objs.size
    rw [Heap.size_push]
    simp at hb
    rcases hb with rfl | rfl
    · exact Nat.lt_succ_self _
    · exact Nat.lt_succ_of_lt lt
  · have hv' : its[i]? = some v := by simpa using hv
    obtain ⟨h1, e1⟩ := List.getElem?_eq_some_iff.mp hv'
    obtain ⟨t, e2⟩ := ints_at hi i h1 (by omega)
    refine ⟨t, ?_⟩
    rw [List.getD_eq_getElem?_getD, List.getElem?_eq_getElem (by omega), Option.getD_some, ← e2, e1]
  · have hP' : its[argBest (fun i j => decide (ns.getD i 0 > ns.getD j 0)) (its.toArray.size - 1)]? = some v := by simpa using hP
    rw [List.size_toArray, hlen] at hP'
    obtain ⟨h1, e1⟩ := List.getElem?_eq_some_iff.mp hP'
    obtain ⟨t, e2⟩ := ints_at hi _ h1 (by omega)
    refine ⟨.int (maxI ns), H, I.kept (t' := tk) fun c o e => hk c o (fun z => ?_) (Heap.get?_push_of_some _ e), ⟨t, ?_⟩, q⟩
    · have : c = s.heap.objs.size := by simpa using z
      subst this
      exact absurd (Heap.lt_size e) (Nat.lt_irrefl _)
    · rw [← e1, e2]
      congr 1
      unfold maxI
      rw [List.getD_eq_getElem?_getD, List.getElem?_eq_getElem (by omega), Option.getD_some]
def fMaxT : List D → M D
  | [.tup xs] => match numsD xs with
    | some ns => if 0 < ns.length then pure (.int (maxI ns)) else bad
    | none => bad
  | _ => bad
theorem ar_maxT : AR X.K EX (fun xs H Q => ∃ (a : Addr) (ns : List Int), xs = [.ref a] ∧ SqT X.K H a (ns.map V.int) ∧ 0 < ns.length ∧ Q (.int (maxI ns)) H) fMaxT := by
  intro ρ h H ds vs Q r rd fin
  unfold fMaxT at fin
  split at fin
  · rename_i xs
    obtain ⟨v, rfl, rv⟩ := rds1 rd
    simp only [RD] at rv
    obtain ⟨q, ws, rfl, h2, h3⟩ := rv
    cases e : numsD xs with
    | none => rw [e] at fin; exact fin.elim
    | some ns =>
      rw [e] at fin
      dsimp only at fin
      split at fin
      · have := nums_rel e h3
        subst this
        exact ⟨q, ns, rfl, h2, ‹_›, FE.here fin r (by simp [RD])⟩
      · exact fin.elim
  · exact fin.elim
theorem se_maxT (hc : X.calm = true) (hg : Gl X "max") (hm : X.mg "max" = none) (ha : SA X EX [a] mr) (he : starEach [a] X.env = [(false, eval a X.env)] := by rfl) : SE X EX (.Call (.Name "max" p) [a] [] pos) (eCall fMaxT mr) :=
  se_args (pe_callB (call_maxT hc) hg hm (by decide +kernel) ha.h (by decide) (by decide) he rfl) ar_maxT
end
end FT
set_option maxHeartbeats 2000000
namespace FT
open PySem PySem.Spec PyProof.Rows L2
theorem at_nw {h : AH} {o : O} : (h ++ [o])[h.length]? = some o := by simp
theorem set_nw {h : AH} {o o' : O} : (h ++ [o]).set h.length o' = h ++ [o'] := by simp
section
variable {mo ma : G → M D} {γ : G} {h : AH} {i x : Nat} {l : List Nat}
end
section
variable {me ma : G → M D} {kb : G → M Bool} {γ : G} {h h1 : AH} {a i : Nat} {b : Bool} {xs : List D}
theorem cv_h (e : me γ h = .ok (.bl b) h1) : cVal me γ h = .ok b h1 := by
  unfold cVal
  rw [M.bind_ok e]
  rfl
theorem cn_h (e : kb γ h = .ok b h1) : cNot kb γ h = .ok (!b) h1 := by
  unfold cNot
  rw [M.bind_ok e]
  rfl
theorem var_h {d : D} (e : γ[a]? = some (some d)) : eVar a γ h = .ok d h := by unfold eVar; rw [e]; rfl
theorem all_h {bs : List Bool} (e : me γ h = .ok (.ref h.length) (h ++ [.lst (bs.map .bl)])) : clE (eCall (fAll false) (aCons me aNil)) γ h = .ok (.bl (bs.all id)) h :=
  cln_of (j := [.lst (bs.map .bl)]) (call1_h e (by
    have g : getL h.length (h ++ [O.lst (bs.map .bl)]) = .ok (bs.map .bl) (h ++ [O.lst (bs.map .bl)]) := by unfold getL; rw [at_nw]
    unfold fAll
    dsimp only
    rw [M.bind_ok g, bls_map]
    rfl)) rfl
theorem seqT_h (e : me γ h = .ok (.tup xs) h1) : iSeqT me γ h = .ok (.con xs) h1 := by
  unfold iSeqT
  rw [M.bind_ok e]
  rfl
theorem comp_st {cap : List (Option Nat)} {mi : G → M Src} {g : D → G → M G} {src : Src} {l : List Nat} (p : Nat → Bool) (f : Nat → D) (hi : mi γ h = .ok src h) (hs : src.items = stD l) (hg : ∀ j, src.good (h ++ j)) (hl : l.length ≤ 1000000)
    (hd : ∀ x ∈ l, ∃ γ1, (∀ h, g (.int x) (capG cap γ) h = .ok γ1 h) ∧ (∀ j, kb γ1 (h ++ j) = .ok (p x) (h ++ j)) ∧ (p x = true → ∀ j, me γ1 (h ++ j) = .ok (f x) (h ++ j))) : eComp cap mi g kb me γ h = .ok (.ref h.length) (h ++ [.lst ((l.filter p).map f)]) := by
  refine (comp_px (src := src) (fun d => match d with | .int t => p t.toNat | _ => false) (fun d => match d with | .int t => f t.toNat | _ => .non) hi hg (by rw [hs, st_len]; exact hl) fun d hd' => ?_).trans ?_
  · rw [hs] at hd'
    obtain ⟨x, hx, rfl⟩ := List.mem_map.mp hd'
    exact hd x hx
  · rw [hs]
    unfold stD
    rw [List.filter_map, List.map_map]
    rfl
end
theorem tup2_h {ma mb : G → M D} {γ : G} {h h1 h2 : AH} {x y : D} (e1 : ma γ h = .ok x h1) (e2' : mb γ h1 = .ok y h2) : eTup (aCons ma (aCons mb aNil)) γ h = .ok (.tup [x, y]) h2 := by
  have e3 : aCons ma (aCons mb aNil) γ h = .ok [x, y] h2 := ac_h e1 (ac_h e2' rfl)
  unfold eTup
  rw [M.bind_ok e3]
  rfl
end FT
namespace FT
open PySem PySem.Spec PyProof.Rows L2
def rowAt (row : List Nat) (o : Nat) : Nat := (row[o]?).getD 0
def mkAt (mk : List (List Str)) (i : Nat) : List Str := (mk[i]?).getD []
theorem nx_get {l : List (List Nat)} {i : Nat} (h : i < l.length) : l[i]? = some (nx l i) := by unfold nx; rw [List.getElem?_eq_getElem h]; rfl
def Canon (row : List Nat) : Prop := ∀ i v, row[i]? = some v → ∀ u, u < v → u ∈ row.take i
def led (st : List (List Nat)) (row : List Nat) (x : Nat) : List Nat := setN ((nx st x).map (rowAt row))
structure Steady (st : List (List Nat)) (mk : List (List Str)) (row : List Nat) : Prop where
  len : row.length = st.length
  can : Canon row
  like : ∀ i, i < row.length → mkAt mk i = mkAt mk (row.idxOf (rowAt row i)) ∧ led st row i = led st row (row.idxOf (rowAt row i))
structure Cop (bst : List (List Nat)) (bmk : List (List Str)) (st : List (List Nat)) (mk : List (List Str)) (raw : List Nat) : Prop where
  l : st.length = raw.length
  kd : ∀ x, x ∈ raw ↔ x < bst.length
  rise : ∀ i, i < raw.length → (nx st i).Pairwise (· < ·)
  lt : ∀ i, i < raw.length → ∀ o ∈ nx st i, o < raw.length
  st : ∀ i, i < raw.length → ∀ t, t ∈ (nx st i).map (rowAt raw) ↔ t ∈ nx bst (rowAt raw i)
  ml : mk = raw.map (mkAt bmk)
section
variable {raw : List Nat}
end
section
variable {bst st : List (List Nat)} {bmk mk : List (List Str)} {raw : List Nat}
end
end FT
namespace FT
open PySem PySem.Spec PyProof.Rows L2
theorem iterable {s : Shared} {M : Model} {A : Around} {a : Addr} {T id : String} {E : Value → Shared → Prop} {Q : Bool → Shared → Prop} (h : s.TypeIs (.ref a) T) (sl : Slot T (Str.ofString "__iter__") id) (q : Q false s) : wpAny M A (notIterableAtAll (.ref a)) Q E s := by
  unfold notIterableAtAll
  refine wpAny_bind (wpAny_specialOf h sl.lookup ?_)
  exact wpAny_pure q
section
variable {X : Cx} {EX : XX} {e : Expr} {es : List Expr} {te : TE} {t : TA} {p pos : Pos} {ma : G → M D} {mr : G → M (List D)}
theorem Vals.app {xs ys : List V} {us ws : List Value} (a : Vals xs us) (b : Vals ys ws) : Vals (xs ++ ys) (us ++ ws) := a.append b
end
end FT
namespace L2
open PySem PySem.Spec PyProof.Rows
section
variable {X : Cx} {tg : Expr}
end
end L2
namespace FT
open PySem PySem.Spec PyProof.Rows L2
section
variable {X : Cx} {EX : XX} {a b c tg : Expr} {p p2 pos pos2 : Pos} {ma mb mc : G → M D}
end
end FT
namespace L2
open PySem PySem.Spec PyProof.Rows
section
variable {X : Cx}
end
end L2
namespace FT
open PySem PySem.Spec PyProof.Rows L2
section
variable {X : Cx} {EX : XX} {a b : Expr} {p p2 pos pos2 : Pos} {ma mb : G → M D}
end
end FT
namespace FT
open PySem PySem.Spec PyProof.Rows L2
section
variable {X : Cx} {EX : XX}
end
end FT
namespace L2
open PySem PySem.Spec PyProof.Rows
section
variable {X : Cx} {elt tg iter tg1 iter1 : Expr} {ifs1 : List Expr} {sc : Scope} {pos : Pos} {N' : List Str} {cap : List (Option Nat)} {g g1 : TG} {wi1 : TI} {ti : TT} {te : TE}
end
end L2
namespace FT
open PySem PySem.Spec PyProof.Rows L2
section
variable {X : Cx} {EX : XX} {elt tg iter tg1 iter1 : Expr} {ifs1 : List Expr} {sc : Scope} {pos : Pos} {N' : List Str} {cap : List (Option Nat)} {own own1 : List Nat} {mi mi1 : G → M Src} {g g1 : D → G → M G} {k : G → M Bool} {me : G → M D}
end
end FT
namespace FT
open PySem PySem.Spec PyProof.Rows L2
def cnt (st : List (List Nat)) : Nat → Nat → Nat
  | 0, _ => 1
  | n + 1, x => ((nx st x).map (cnt st n)).sum
def lastN (w : List Nat) : Nat := w.getLast?.getD 0
def ext (st : List (List Nat)) (left : Nat) (w : List Nat) : List (List Nat) := ((nx st (lastN w)).filter fun y => decide (0 < cnt st left y)).map fun y => w ++ [y]
section
variable {st : List (List Nat)}
end
open Classical in
theorem comp_enc {ι : Type} {cap : List (Option Nat)} {mi : G → M Src} {g : D → G → M G} {kb : G → M Bool} {me : G → M D} {γ : G} {h h1 : AH} {src : Src} {l : List ι} (enc : ι → D) (inj : ∀ x y, enc x = enc y → x = y) (p : ι → Bool) (f : ι → D) (hi : mi γ h = .ok src h) (hs : src.items = l.map enc) (hg : ∀ j, src.good (h ++ j)) (hl : l.length ≤ 1000000)
    (hd : ∀ x ∈ l, ∃ γ1, (∀ h, g (enc x) (capG cap γ) h = .ok γ1 h) ∧ (∀ j, kb γ1 (h ++ j) = .ok (p x) (h ++ j)) ∧ (p x = true → ∀ j, me γ1 (h ++ j) = .ok (f x) (h ++ j))) : eComp cap mi g kb me γ h = .ok (.ref h.length) (h ++ [.lst ((l.filter p).map f)]) := by
  let p' : D → Bool := fun d => if e : ∃ x, enc x = d then p e.choose else false
  let f' : D → D := fun d => if e : ∃ x, enc x = d then f e.choose else .non
  have ep : ∀ x, p' (enc x) = p x := fun x => by
    have e : ∃ y, enc y = enc x := ⟨x, rfl⟩
    show (if e : ∃ y, enc y = enc x then p e.choose else false) = _
    rw [dif_pos e, inj _ _ e.choose_spec]
  have ef : ∀ x, f' (enc x) = f x := fun x => by
    have e : ∃ y, enc y = enc x := ⟨x, rfl⟩
    show (if e : ∃ y, enc y = enc x then f e.choose else .non) = _
    rw [dif_pos e, inj _ _ e.choose_spec]
  refine (comp_px (src := src) p' f' hi hg (by rw [hs, List.length_map]; exact hl) fun d hd' => ?_).trans ?_
  · rw [hs] at hd'
    obtain ⟨x, hx, rfl⟩ := List.mem_map.mp hd'
    rw [ep, ef]
    exact hd x hx
  · rw [hs, List.filter_map, List.map_map]
    rw [show (p' ∘ enc) = p from funext ep, show (f' ∘ enc) = f from funext ef]
end FT
namespace L2
open PySem PySem.Spec PyProof.Rows
open PySem.AutoSeq1 (wpAny_loadPart')
section
variable {P : Program} {w : World} {A : Around} {E : Value → Shared → Prop} {s : Shared} {I t : Addr}
end
section
variable {X : Cx} {tg : Expr}
end
end L2
namespace FT
open PySem PySem.Spec PyProof.Rows L2
section
variable {X : Cx} {EX : XX} {a tg : Expr} {p pos : Pos} {ma : G → M D}
end
end FT
namespace L2
open PySem PySem.Spec PyProof.Rows
open PySem.AutoSeq1 (wpAny_loadPart')
section
variable {X : Cx}
end
end L2
namespace FT
open PySem PySem.Spec PyProof.Rows L2
section
variable {X : Cx} {EX : XX} {a o : Expr} {cpos apos : Pos} {ma mo : G → M D}
end
end FT
namespace FT
open PySem PySem.Spec PyProof.Rows L2
theorem q_appG {me : G → M D} {mt : G → M Out} {γ : G} {h h1 : AH} {a i : Nat} {xs : List D} {v : D} {Q : Out → AH → Prop} (ea : γ[a]? = some (some (.ref i))) (e : h[i]? = some (.lst xs)) (ev : me γ h = .ok v h1) (e1 : h1[i]? = some (.lst xs)) (hl : xs.length < 1000000) (z : W (mt γ) (h1.set i (.lst (xs ++ [v]))) Q) : W (bCons (sExpr (eM1 fAppend (eVar a) me)) mt γ) h Q := by
  refine q_expr ?_
  have e2' : eVar a γ = pure (.ref i) := by unfold eVar; rw [ea]
  unfold eM1
  rw [e2', bindP, W_bind]
  refine W_of (asRef_h e) ?_
  rw [W_bind]
  exact W_of ev (W_of (append_h e1 hl) z)
section
variable {ka kb : G → M Bool} {γ : G} {h : AH} {r : Res Bool}
theorem cor_h (e1 : ka γ h = .ok false h) (e2' : kb γ h = r) : cOr ka kb γ h = r := by
  unfold cOr
  rw [M.bind_ok e1, if_neg (by decide)]
  exact e2'
end
theorem new_h {xs : List D} {h : AH} (hl : xs.length ≤ 1000000) : newL xs h = .ok (.ref h.length) (h ++ [.lst xs]) := by
  unfold newL
  rw [if_pos (Nat.le_trans hl (by decide))]
end FT
namespace L2
open PySem PySem.Spec PyProof.Rows
section
variable {X : Cx} {elt val tg iter : Expr} {ifs : List Expr} {sc : Scope} {pos : Pos} {N' : List Str} {cap : List (Option Nat)} {g : TG} {ti : TT} {te tv : TE}
end
end L2
namespace FT
open PySem PySem.Spec PyProof.Rows L2
section
variable {X : Cx} {EX : XX} {elt val tg iter c : Expr} {ifs : List Expr} {sc : Scope} {pos : Pos} {N' : List Str} {cap : List (Option Nat)} {own : List Nat} {mi : G → M Src} {g : D → G → M G} {k kr : G → M Bool} {me mv : G → M D}
end
end FT
namespace L2
open PySem PySem.Spec PyProof.Rows
theorem KV.get : ∀ {kvs : List (Key × V)} {vs : List (Key × Value)}, KV kvs vs → ∀ {i : Nat} {k : Key} {x : V}, kvs[i]? = some (k, x) → ∃ u, vs[i]? = some (k, u)
  | _, _, .nil, i, k, x, e => by simp at e
  | p :: _, q :: _, .cons a b, 0, k, x, e => by
    have e' : p = (k, x) := by simpa using e
    subst e'
    obtain ⟨a1, _⟩ := a
    refine ⟨q.2, ?_⟩
    show some q = _
    rw [show k = q.1 from a1]
  | _ :: _, _ :: _, .cons a b, i + 1, k, x, e => KV.get b (by simpa using e)
section
variable {X : Cx} {tg : Expr}
end
end L2
namespace FT
open PySem PySem.Spec PyProof.Rows L2
def kD : Key → D
  | .inl i => .int i
  | .inr x => .str x
def keysK (kvs : List (Key × D)) : List D := kvs.map fun kv => kD kv.1
theorem RK.get {K : PySem.W.Frag} {ρ : List Addr} {H : Hp} : ∀ {kvs : List (Key × D)} {vs : List (Key × V)}, RK K ρ H kvs vs → ∀ {i : Nat} {d : D}, (keysK kvs)[i]? = some d → ∃ k x, d = kD k ∧ vs[i]? = some (k, x)
  | _, _, .nil, i, d, e => by simp [keysK] at e
  | p :: _, q :: _, .cons a b, 0, d, e => by
    have e' : kD p.1 = d := by simpa [keysK] using e
    subst e'
    exact ⟨q.1, q.2, by rw [a.1], rfl⟩
  | _ :: _, _ :: _, .cons a b, i + 1, d, e => RK.get b (by simpa [keysK] using e)
section
variable {X : Cx} {EX : XX} {a tg : Expr} {ma : G → M D}
end
end FT
namespace L2
open PySem PySem.Spec PyProof.Rows
section
variable {X : Cx} {tg : Expr}
end
end L2
namespace FT
open PySem PySem.Spec PyProof.Rows L2
section
variable {X : Cx} {EX : XX} {a tg : Expr} {p pos : Pos} {ma : G → M D}
end
end FT
set_option maxHeartbeats 4000000
namespace FT
open PySem PySem.Spec PyProof.Rows L2
section
variable {P : Program} {w : World} {A : Around} {E : Value → Shared → Prop} {s : Shared}
end
section
variable {X : Cx} {EX : XX} {p pos : Pos}
end
end FT
set_option maxHeartbeats 2000000
namespace FT
open PySem PySem.Spec PyProof.Rows L2
def Mut2 (st : List (List Nat)) (x y : Nat) : Prop := Rch st x y ∧ Rch st y x
section
variable {st : List (List Nat)} {x y z : Nat}
theorem Rch.trans (a : Rch st x y) (b : Rch st y z) : Rch st x z := by
  induction b with
  | here => exact a
  | step _ h ih => exact ih.step h
theorem Mut2.refl : Mut2 st x x := ⟨.here, .here⟩
theorem Mut2.symm (a : Mut2 st x y) : Mut2 st y x := ⟨a.2, a.1⟩
theorem Mut2.trans (a : Mut2 st x y) (b : Mut2 st y z) : Mut2 st x z := ⟨a.1.trans b.1, b.2.trans a.2⟩
theorem Rch.leaves {F : List Nat} (h : Rch st x y) (hx : x ∈ F) (hy : y ∉ F) : ∃ a b, a ∈ F ∧ b ∉ F ∧ b ∈ nx st a ∧ Rch st x a ∧ Rch st b y := by
  induction h with
  | here => exact (hy hx).elim
  | @step a b h1 h2 ih =>
    by_cases ha : a ∈ F
    · exact ⟨a, b, ha, hy, h2, h1, .here⟩
    · obtain ⟨c, d, q1, q2, q3, q4, q5⟩ := ih ha
      exact ⟨c, d, q1, q2, q3, q4, q5.step h2⟩
end
structure KS where
  seen : List Nat
  ord : List Nat
  wt : List (Nat × Bool)
def opens (wt : List (Nat × Bool)) : List Nat := (wt.filter fun p => p.2).map (·.1)
structure KI (st : List (List Nat)) (V : List Nat) (s : KS) : Prop where
  nd : s.seen.Nodup
  sub : ∀ x ∈ s.seen, x ∈ V
  wv : ∀ p ∈ s.wt, p.1 ∈ V
  so : ∀ x, x ∈ s.seen ↔ x ∈ s.ord ∨ x ∈ opens s.wt
  on : (s.ord ++ opens s.wt).Nodup
  root : ∀ x ∈ V, x ∈ s.seen ∨ (x, false) ∈ s.wt
  nxo : ∀ l r x, s.wt = l ++ (x, true) :: r → ∀ y ∈ nx st x, y ∈ s.seen ∨ (y, false) ∈ r
  nxf : ∀ x ∈ s.ord, ∀ y ∈ nx st x, y ∈ s.seen
  ch : ∀ l r x, s.wt = l ++ (x, true) :: r → ∀ p ∈ r, Rch st x p.1
  q : ∀ y ∈ s.ord, ∀ v, v ∉ s.ord → Rch st y v → ∃ z, z ∉ s.ord ∧ Mut2 st z y
  k : ∀ l x r, s.ord = l ++ x :: r → ∀ y ∈ l, Rch st y x → ∃ z, z ∉ l ∧ Mut2 st z y
section
variable {st : List (List Nat)} {V : List Nat} {s : KS}
theorem KI.out (i : KI st V s) {y v : Nat} (hy : y ∈ s.ord) (hv : v ∉ s.ord) (h : Rch st y v) : ∃ a b, a ∈ s.ord ∧ b ∈ opens s.wt ∧ Rch st y a ∧ b ∈ nx st a := by
  obtain ⟨a, b, q1, q2, q3, q4, _⟩ := h.leaves hy hv
  rcases (i.so b).mp (i.nxf a q1 b q3) with z | z
  · exact (q2 z).elim
  · exact ⟨a, b, q1, z, q4, q3⟩
end
end FT
namespace FT
open PySem PySem.Spec PyProof.Rows L2
section
variable {st : List (List Nat)} {V : List Nat} {s : KS}
structure KEnd (st : List (List Nat)) (V O : List Nat) : Prop where
  nd : O.Nodup
  mem : ∀ x, x ∈ O ↔ x ∈ V
  k : ∀ l x r, O = l ++ x :: r → ∀ y ∈ l, Rch st y x → ∃ z, z ∉ l ∧ Mut2 st z y
end
open Classical in
noncomputable def scc (st : List (List Nat)) (V : List Nat) (x : Nat) : List Nat := V.filter fun a => decide (Mut2 st x a)
def Trn (s1 s2 : List (List Nat)) : Prop := ∀ x y, y ∈ nx s2 x ↔ x ∈ nx s1 y
section
variable {s1 s2 : List (List Nat)} {V : List Nat}
theorem Rch.turn (t : Trn s1 s2) {x y : Nat} (h : Rch s2 x y) : Rch s1 y x := by
  induction h with
  | here => exact .here
  | step _ h2 ih => exact (Rch.here.step ((t _ _).mp h2)).trans ih
theorem Rch.inV {st : List (List Nat)} (hv : ∀ x ∈ V, ∀ y ∈ nx st x, y ∈ V) {x y : Nat} (h : Rch st x y) (hx : x ∈ V) : y ∈ V := by
  induction h with
  | here => exact hx
  | step _ h2 ih => exact hv _ ih _ h2
structure MI (s1 : List (List Nat)) (V done T : List Nat) : Prop where
  cl : ∀ a ∈ T, ∀ b ∈ nx s1 a, b ∈ T
  dn : ∀ a ∈ done, a ∈ T
  tv : ∀ a ∈ T, a ∈ V
end
end FT
namespace FT
open PySem PySem.Spec PyProof.Rows L2
section
variable {st : List (List Nat)} {V : List Nat} {s : KS}
end
end FT
namespace FT
open PySem PySem.Spec PyProof.Rows L2
section
variable {cap : List (Option Nat)} {mi : G → M Src} {g : D → G → M G} {kb : G → M Bool} {me mv : G → M D} {γ : G}
end
theorem sm0 {h : AH} {o o' : O} {j : AH} : (h ++ o :: j).set h.length o' = h ++ o' :: j := by rw [List.set_append_right _ _ (Nat.le_refl _), Nat.sub_self]; rfl
end FT
namespace L2
open PySem PySem.Spec PyProof.Rows
section
variable {prog : Program} {w : World} {A : Around} {R : Result → Shared → Prop} {s : Shared} {elt val tg iter tg1 iter1 : Expr} {ifs ifs1 : List Expr} {scope : Scope} {pos : Pos} {it acc : Value} {D : Addr} {env : Env}
end
section
variable {X : Cx} {elt val tg iter tg1 iter1 : Expr} {ifs1 : List Expr} {sc : Scope} {pos : Pos} {N' : List Str} {cap : List (Option Nat)} {g g1 : TG} {wi1 : TI} {ti : TT} {te tv : TE}
end
end L2
namespace FT
open PySem PySem.Spec PyProof.Rows L2
section
variable {X : Cx} {EX : XX} {elt val tg iter tg1 iter1 : Expr} {ifs1 : List Expr} {sc : Scope} {pos : Pos} {N' : List Str} {cap : List (Option Nat)} {own own1 : List Nat} {mi mi1 : G → M Src} {g g1 : D → G → M G} {k : G → M Bool} {me mv : G → M D}
end
end FT
namespace L2
open PySem PySem.Spec PyProof.Rows
section
variable {X : Cx}
end
end L2
namespace FT
open PySem PySem.Spec PyProof.Rows L2
section
variable {X : Cx} {EX : XX} {a : Expr} {mr : G → M (List D)} {p pos : Pos}
end
end FT
namespace FT
open PySem PySem.Spec PyProof.Rows L2
section
variable {X : Cx} {EX : XX} {a o : Expr} {p pos cpos apos : Pos} {ma mo : G → M D} {mr : G → M (List D)}
end
end FT
namespace FT
open PySem PySem.Spec PyProof.Rows L2
def cp (x : Str) : List Nat := x.cps.toList
end FT
namespace FT
open PySem PySem.Spec PyProof.Rows L2
end FT
namespace FT
section
variable {α : Type} {us : List α}
theorem ar1 (hl : us.length = 1) : ∃ a, us = [a] := match us, hl with | [a], _ => ⟨a, rfl⟩
theorem ar2 (hl : us.length = 2) : ∃ a b, us = [a, b] := match us, hl with | [a, b], _ => ⟨a, b, rfl⟩
theorem ar3 (hl : us.length = 3) : ∃ a b c, us = [a, b, c] := match us, hl with | [a, b, c], _ => ⟨a, b, c, rfl⟩
theorem ar4 (hl : us.length = 4) : ∃ a b c d, us = [a, b, c, d] := match us, hl with | [a, b, c, d], _ => ⟨a, b, c, d, rfl⟩
end
end FT
namespace FT
open PySem PySem.Spec PyProof.Rows L2
def putO (n : Nat) (k v : D) : M D := match keyD k with
  | some kk => fun h => match h[n]? with
    | some (.dK []) => .ok (.ref n) (h.set n (.dK [(kk, v)]))
    | _ => .bad
  | none => bad
noncomputable def eDisp1 (mk mv : G → M D) : G → M D := fun γ => do
  let n ← (fun h => .ok h.length (h ++ [.dK []]) : M Nat)
  let k ← mk γ
  let v ← mv γ
  putO n k v
section
variable {X : Cx} {EX : XX} {k v : Expr} {pos : Pos} {mk mv : G → M D}
theorem se_disp1 (hk : SE X EX k mk) (hv : SE X EX v mv) : SE X EX (.Dict [some k] [v] pos) (eDisp1 mk mv) :=
  ⟨PE.imp (pe_disp (pps_cons hk.h hv.h pps_nil) rfl rfl (by simp) (by simp)) fun σ H Q ⟨ρ, γ, h, rel, fin⟩ p hp => by
    have rP : RH X.K (ρ ++ [p]) (h ++ [.dK []]) (upd H p (.dK [])) := rel.h.pushO hp ⟨[], upd_same, .nil⟩
    have eP : Ext X.K H (upd H p (.dK [])) := Ext.upd (.inl hp)
    have at0 : (ρ ++ [p])[h.length]? = some p := by rw [← rel.h.len]; simp
    have f1 := Fin.bind fin
    have f2 := f1 (ρ ++ [p]) _ (Pre.app _ _) eP rP
    refine ⟨ρ ++ [p], γ, h ++ [.dK []], ⟨rel.g.mono (Pre.app _ _) eP, rP⟩, (Fin.bind f2).mono fun kd ρ1 h1 H1 p1 e1 r1 f3 kv rk => ⟨ρ1, γ, h1, ⟨(rel.g.mono (Pre.app _ _) eP).mono p1 e1, r1⟩, (Fin.bind f3).mono fun vd ρ2 h2 H2 p2 e2 r2 f4 vv rv => ?_⟩⟩
    have hq : ρ2[h.length]? = some p := (p1.trans p2) _ _ at0
    unfold putO at f4
    cases ek : keyD kd with
    | none => rw [ek] at f4; exact f4.elim
    | some kk =>
      rw [ek] at f4
      dsimp only at f4
      cases e7 : h2[h.length]? with
      | none => rw [e7] at f4; exact f4.elim
      | some ob =>
        cases ob with
        | set ks => rw [e7] at f4; exact f4.elim
        | dct => rw [e7] at f4; exact f4.elim
        | lst xs => rw [e7] at f4; exact f4.elim
        | exc c => rw [e7] at f4; exact f4.elim
        | dF c => rw [e7] at f4; exact f4.elim
        | dK kvs =>
          cases kvs with
          | cons a b => rw [e7] at f4; exact f4.elim
          | nil =>
            rw [e7] at f4
            dsimp only at f4
            obtain ⟨a1, n1, vs, o1, d1⟩ := r2.at e7
            rw [hq] at n1; cases n1
            cases d1
            have hy := key_V ek rk
            refine ⟨o1, [(kk, vv)], by rw [hy]; rfl, by simp, ?_⟩
            have ext2 : Ext X.K H2 (upd H2 p (.dK [(kk, vv)])) := Ext.upd (.inr (r2.tracked hq e7))
            have r7 : RH X.K ρ2 (h2.set h.length (.dK [(kk, vd)])) (upd H2 p (.dK [(kk, vv)])) := r2.setO e7 hq ⟨_, upd_same, .cons ⟨rfl, rv.mono (Pre.refl _) ext2⟩ .nil⟩
            exact f4 ρ2 _ (Pre.refl _) ext2 r7 (.ref p) (by simp only [RD]; exact ⟨p, rfl, hq⟩)⟩
end
end FT
namespace FT
open PySem PySem.Spec PyProof.Rows L2
def keyPD : Key → PyData
  | .inl i => .int i
  | .inr x => .str x
def allO (f : D → Option PyData) : List D → Option (List PyData)
  | [] => some []
  | d :: ds => match f d, allO f ds with
    | some p, some ps => some (p :: ps)
    | _, _ => none
def kvO (f : D → Option PyData) : List (Key × D) → Option (List (PyData × PyData))
  | [] => some []
  | d :: ds => match f d.2, kvO f ds with
    | some p, some ps => some ((keyPD d.1, p) :: ps)
    | _, _ => none
def pdN : Nat → AH → D → Option PyData
  | 0, _, _ => none
  | _ + 1, _, .non => some .none
  | _ + 1, _, .bl b => some (.bool b)
  | _ + 1, _, .int i => some (.int i)
  | _ + 1, _, .str x => some (.str x)
  | n + 1, h, .tup ds => (allO (pdN n h) ds).map .tuple
  | n + 1, h, .fl ds => (allO (pdN n h) ds).map .list
  | n + 1, h, .ref m => match h[m]? with
    | some (.lst ds) => (allO (pdN n h) ds).map .list
    | some (.dK kvs) => (kvO (pdN n h) kvs).map .dict
    | _ => none
def fRepr : List D → M D
  | [d] => fun h => match pdN 30 h d with
    | some p => if p.showable = true ∧ p.shown.length ≤ sizeLine ∧ p.depth ≤ 60 then .ok (.str p.shown) h else .bad
    | none => .bad
  | _ => bad
abbrev Grw (h h' : Heap) : Prop := ∀ (b : Addr) (o : Obj), h.get? b = some o → h'.get? b = some o
structure RC (prog : Program) (w : World) (h₀ : Heap) (u : Value) (p : PyData) : Prop where
  rd : ∃ as, Reads h₀ u p as
  rk : p.showable = true → p.shown.length ≤ sizeLine → ∃ bs, ReadAtMost h₀ p.depth bs ∧ ReprK prog w bs h₀ p.depth u p.shown
  tp : p.showable = true → p.shown.length ≤ sizeLine → ∀ (A : Around) (E : Value → Shared → Prop) (s : Shared) (Q : Value → Shared → Prop), A.guards = some [] → A.units + p.depth + 1 < cLine → Grw h₀ s.heap →
    (∀ h' u tk, Grw s.heap h' → Q (.str p.shown u) { s with heap := h', toks := tk }) → wpAny (model prog w) A (call (.builtin "repr") [u]) Q E s
structure RCs (prog : Program) (w : World) (h₀ : Heap) (us : List Value) (ps : List PyData) : Prop where
  rd : ∃ as, ReadsAll h₀ us ps as
  rk : PyData.showableAll ps = true → (∀ t ∈ PyData.shownAll ps, t.length ≤ sizeLine) → ∃ bs, ReadAtMost h₀ (PyData.depthAll ps) bs ∧ ReprAllK prog w bs h₀ (PyData.depthAll ps) us (PyData.shownAll ps)
section
variable {prog : Program} {w : World} {h₀ : Heap}
theorem RCs.nil : RCs prog w h₀ [] [] := ⟨⟨[], .nil⟩, fun _ _ => ⟨[], (fun _ h => nomatch h), by simp only [PyData.shownAll]; exact .nil⟩⟩
theorem RCs.cons {u : Value} {us : List Value} {p : PyData} {ps : List PyData} (a : RC prog w h₀ u p) (b : RCs prog w h₀ us ps) : RCs prog w h₀ (u :: us) (p :: ps) := by
  obtain ⟨a1, ra⟩ := a.rd
  obtain ⟨a2, rb⟩ := b.rd
  refine ⟨⟨_, .cons ra rb⟩, fun hs hz => ?_⟩
  have hs' : p.showable = true ∧ PyData.showableAll ps = true := by simpa [PyData.showableAll] using hs
  obtain ⟨b1, hb1, k1⟩ := a.rk hs'.1 (hz _ (by simp only [PyData.shownAll]; exact List.mem_cons_self ..))
  obtain ⟨b2, hb2, k2⟩ := b.rk hs'.2 (fun t ht => hz t (by simp only [PyData.shownAll]; exact List.mem_cons_of_mem _ ht))
  refine ⟨b1 ++ b2, ?_, ?_⟩
  · simp only [PyData.depthAll]
    exact (hb1.mono (Nat.le_max_left _ _)).append (hb2.mono (Nat.le_max_right _ _))
  · simp only [PyData.depthAll, PyData.shownAll]
    exact .cons ((k1.more fun b hb => List.mem_append_left _ hb).level_le (Nat.le_max_left _ _)) (k2.more_le (fun b hb => List.mem_append_right _ hb) (Nat.le_max_right _ _))
theorem RC.none : RC prog w h₀ .none .none :=
  ⟨⟨_, .none⟩, fun _ _ => ⟨[], (fun _ h => nomatch h), by simp only [PyData.shown]; exact .of_is ReprIs.none _ _ _⟩, fun _ _ A E s Q _ _ _ hQ => P.repr_of_none (by simp only [PyData.shown] at hQ; exact hQ s.heap _ _ fun _ _ e => e)⟩
theorem RC.bool (b : Bool) : RC prog w h₀ (.bool b) (.bool b) :=
  ⟨⟨_, .bool b⟩, fun _ _ => ⟨[], (fun _ h => nomatch h), by simp only [PyData.shown]; exact .of_is (ReprIs.bool b) _ _ _⟩, fun _ _ A E s Q _ _ _ hQ => P.repr_of_bool (by simp only [PyData.shown] at hQ; exact hQ s.heap _ _ fun _ _ e => e)⟩
theorem RC.int (i : Int) (t : Tok) : RC prog w h₀ (.int i t) (.int i) :=
  ⟨⟨_, .int i t⟩, fun hs _ => ⟨[], (fun _ h => nomatch h), by simp only [PyData.shown]; exact .of_is (ReprIs.int t (by simpa [PyData.showable] using hs)) _ _ _⟩,
    fun hs _ A E s Q _ _ _ hQ => P.repr_of_int (by simpa [PyData.showable] using hs) (by simp only [PyData.shown] at hQ; exact hQ s.heap _ _ fun _ _ e => e)⟩
theorem RC.str (x : Str) (t : Tok) : RC prog w h₀ (.str x t) (.str x) :=
  ⟨⟨_, .str x t⟩, fun _ hz => ⟨[], (fun _ h => nomatch h), by simp only [PyData.shown]; exact .of_is (ReprIs.str x t (by simpa only [PyData.shown] using hz)) _ _ _⟩,
    fun _ hz A E s Q _ _ _ hQ => P.repr_of_str (by simp only [PyData.shown] at hQ; exact hQ s.heap _ _ fun _ _ e => e) (by simpa only [PyData.shown] using hz)⟩
theorem RC.list {a : Addr} {o : Obj} {its : List Value} {n : Nat} {ps : List PyData} (h1 : h₀.get? a = some o) (h2 : o.cls = .type "list") (h3 : o.data = .seq its.toArray n) (b : RCs prog w h₀ its ps) : RC prog w h₀ (.ref a) (.list ps) := by
  obtain ⟨as, ra⟩ := b.rd
  have r : Reads h₀ (.ref a) (.list ps) _ := .list h1 h2 h3 ra
  refine ⟨⟨_, r⟩, fun hs hz => ?_, fun hs hz A E s Q hg hu hk0 hQ => ?_⟩
  · have hz' : (listText (PyData.shownAll ps)).length ≤ sizeLine := by simpa only [PyData.shown] using hz
    obtain ⟨bs, hb, hk⟩ := b.rk (by simpa [PyData.showable] using hs) fun t ht => Nat.le_trans (listText_mem_le ht) hz'
    have hna : a ∉ bs := not_mem_of_deeper r (by simp only [PyData.depth]; omega) hb
    refine ⟨a :: bs, ReadAtMost.cons r (by simp only [PyData.depth]; omega) hb, ?_⟩
    simp only [PyData.depth, PyData.shown]
    cases its with
    | nil =>
      cases ra
      simp only [PyData.shownAll, listText_nil]
      exact ReprK.listEmpty h1 h2 h3
    | cons x l => exact ReprK.list h1 h2 h3 hna (by simpa using hk.length_eq) (fun i y e => hk.item i y (by simpa using e))
  · have hz' : (listText (PyData.shownAll ps)).length ≤ sizeLine := by simpa only [PyData.shown] using hz
    obtain ⟨bs, hb, hk⟩ := b.rk (by simpa [PyData.showable] using hs) fun t ht => Nat.le_trans (listText_mem_le ht) hz'
    have hna : a ∉ bs := not_mem_of_deeper r (by simp only [PyData.depth]; omega) hb
    simp only [PyData.depth] at hu
    simp only [PyData.shown] at hQ
    refine call_repr_slot (by omega) ⟨_, hk0 _ _ h1, h2⟩ F.slot_list_repr.toG ?_
    cases its with
    | nil =>
      cases ra
      simp only [PyData.shownAll, listText_nil] at hQ
      exact call_list_repr_empty ⟨_, hk0 _ _ h1, h2⟩ (hk0 _ _ h1) h3 ⟨_, _, rfl, hQ s.heap _ _ fun _ _ e => e⟩
    | cons x l =>
      exact call_list_reprK h1 h2 h3 hna (by simpa using hk.length_eq) (fun i y e => hk.item i y (by simpa using e)) (g := []) hg (fun b _ => Clear.nil b) (by show A.units + 1 + _ < _; omega) hk0 (fun h' u tk hk' => ⟨_, _, rfl, hQ h' u tk hk'⟩) hz'
theorem RC.tuple {a : Addr} {o : Obj} {its : List Value} {n : Nat} {ps : List PyData} (h1 : h₀.get? a = some o) (h2 : o.cls = .type "tuple") (h3 : o.data = .seq its.toArray n) (b : RCs prog w h₀ its ps) : RC prog w h₀ (.ref a) (.tuple ps) := by
  obtain ⟨as, ra⟩ := b.rd
  have r : Reads h₀ (.ref a) (.tuple ps) _ := .tuple h1 h2 h3 ra
  have key : (PyData.tuple ps).showable = true → (PyData.tuple ps).shown.length ≤ sizeLine → (tupleText (PyData.shownAll ps)).length ≤ sizeLine ∧ ∃ bs, ReadAtMost h₀ (PyData.depthAll ps) bs ∧ ReprAllK prog w bs h₀ (PyData.depthAll ps) its (PyData.shownAll ps) ∧ a ∉ bs := fun hs hz => by
    have hz' : (tupleText (PyData.shownAll ps)).length ≤ sizeLine := by simpa only [PyData.shown] using hz
    obtain ⟨bs, hb, hk⟩ := b.rk (by simpa [PyData.showable] using hs) fun t ht => Nat.le_trans (tupleText_mem_le ht) hz'
    exact ⟨hz', bs, hb, hk, not_mem_of_deeper r (by simp only [PyData.depth]; omega) hb⟩
  refine ⟨⟨_, r⟩, fun hs hz => ?_, fun hs hz A E s Q hg hu hk0 hQ => ?_⟩
  · obtain ⟨hz', bs, hb, hk, hna⟩ := key hs hz
    refine ⟨a :: bs, ReadAtMost.cons r (by simp only [PyData.depth]; omega) hb, ?_⟩
    simp only [PyData.depth, PyData.shown]
    exact ReprK.tuple h1 h2 h3 hna hk
  · obtain ⟨hz', bs, hb, hk, hna⟩ := key hs hz
    simp only [PyData.depth] at hu
    simp only [PyData.shown] at hQ
    refine call_repr_slot (by omega) ⟨_, hk0 _ _ h1, h2⟩ F.slot_tuple_repr ?_
    exact call_tuple_reprK h1 h2 h3 hna hk (g := []) hg (fun b _ => Clear.nil b) (by show A.units + 1 + _ < _; omega) hk0 (fun h' u tk hk' => ⟨_, _, rfl, hQ h' u tk hk'⟩) hz'
theorem RC.dict {a : Addr} {o : Obj} {es : Array DictEntry} {n : Nat} {ps : List (PyData × PyData)} (h1 : h₀.get? a = some o) (h2 : o.cls = .type "dict") (h3 : o.data = .dict es n) (hsys : (a == sysModules) = false)
    (b : RCs prog w h₀ (es.toList.map (·.key)) (ps.map (·.1))) (c : RCs prog w h₀ (es.toList.map (·.val)) (ps.map (·.2))) : RC prog w h₀ (.ref a) (.dict ps) := by
  obtain ⟨as, ra⟩ := b.rd
  obtain ⟨cs, rc⟩ := c.rd
  have r : Reads h₀ (.ref a) (.dict ps) _ := .dict h1 h2 h3 ra rc
  have key : (PyData.dict ps).showable = true → (PyData.dict ps).shown.length ≤ sizeLine → (dictText (PyData.shownKv ps)).length ≤ sizeLine ∧ ∃ bs, ReadAtMost h₀ (PyData.depthKv ps) bs ∧ a ∉ bs ∧ ReprEntriesK prog w bs h₀ (PyData.depthKv ps) es.toList (PyData.shownKv ps) := fun hs hz => by
    have hz' : (dictText (PyData.shownKv ps)).length ≤ sizeLine := by simpa only [PyData.shown] using hz
    obtain ⟨hs1, hs2⟩ := PyData.showableKv_split ps (by simpa [PyData.showable] using hs)
    obtain ⟨b1, hb1, k1⟩ := b.rk hs1 (fun t ht => let ⟨p, hp, hl⟩ := PyData.shownKv_key_le ps t ht; Nat.le_trans hl (Nat.le_trans (dictText_mem_le hp) hz'))
    obtain ⟨b2, hb2, k2⟩ := c.rk hs2 (fun t ht => let ⟨p, hp, hl⟩ := PyData.shownKv_val_le ps t ht; Nat.le_trans hl (Nat.le_trans (dictText_mem_le hp) hz'))
    have hb : ReadAtMost h₀ (PyData.depthKv ps) (b1 ++ b2) := (hb1.mono (PyData.depthAll_keys_le ps)).append (hb2.mono (PyData.depthAll_vals_le ps))
    refine ⟨hz', b1 ++ b2, hb, not_mem_of_deeper r (by simp only [PyData.depth]; omega) hb, ?_⟩
    rw [PyData.shownKv_eq]
    exact ReprEntriesK.of_two es.toList _ _ (k1.more_le (fun b hb => List.mem_append_left _ hb) (PyData.depthAll_keys_le ps)) (k2.more_le (fun b hb => List.mem_append_right _ hb) (PyData.depthAll_vals_le ps))
  refine ⟨⟨_, r⟩, fun hs hz => ?_, fun hs hz A E s Q hg hu hk0 hQ => ?_⟩
  · obtain ⟨hz', bs, hb, hna, hk⟩ := key hs hz
    refine ⟨a :: bs, ReadAtMost.cons r (by simp only [PyData.depth]; omega) hb, ?_⟩
    simp only [PyData.depth, PyData.shown]
    exact ReprK.dict h1 h2 h3 hsys hna hk
  · obtain ⟨hz', bs, hb, hna, hk⟩ := key hs hz
    simp only [PyData.depth] at hu
    simp only [PyData.shown] at hQ
    refine call_repr_slot (by omega) ⟨_, hk0 _ _ h1, h2⟩ F.slot_dict_repr ?_
    exact call_dict_reprK h1 h2 h3 hsys hna hk (g := []) hg (fun b _ => Clear.nil b) (by show A.units + 1 + _ < _; omega) hk0 (fun h' u tk hk' => ⟨_, _, rfl, hQ h' u tk hk'⟩) hz'
end
section
variable {X : Cx} {pins : List (Addr × Obj)} {σ : L2.St} {H : Hp} {s : Shared} {ρ : List Addr} {h : AH}
theorem pd_all {f : D → Option PyData} (ih : ∀ (d : D) (p : PyData) (v : V) (u : Value), f d = some p → RD X.K ρ H d v → RelV v u → RC X.prog X.w s.heap u p) :
    ∀ {ds : List D} {ps : List PyData} {vs : List V} {us : List Value}, allO f ds = some ps → RDs X.K ρ H ds vs → Vals vs us → RCs X.prog X.w s.heap us ps
  | [], ps, vs, us, e, r, v => by
    simp only [RDs] at r; subst r
    cases e; cases v
    exact RCs.nil
  | d :: ds, ps, vs, us, e, r, v => by
    simp only [RDs] at r
    obtain ⟨x, r', rfl, r1, r2⟩ := r
    simp only [allO] at e
    split at e
    · rename_i p ps' e1 e2
      cases e
      cases v with
      | cons v1 v2 => exact RCs.cons (ih d p x _ e1 r1 v1) (pd_all ih e2 r2 v2)
    · cases e
theorem pd_kv {f : D → Option PyData} (ih : ∀ (d : D) (p : PyData) (v : V) (u : Value), f d = some p → RD X.K ρ H d v → RelV v u → RC X.prog X.w s.heap u p) :
    ∀ {kvs : List (Key × D)} {ps : List (PyData × PyData)} {vs : List (Key × V)} {us : List (Key × Value)} {es : List DictEntry}, kvO f kvs = some ps → RK X.K ρ H kvs vs → KV vs us → Pairs (mixKind X.prog X.w) es us →
      RCs X.prog X.w s.heap (es.map (·.key)) (ps.map (·.1)) ∧ RCs X.prog X.w s.heap (es.map (·.val)) (ps.map (·.2))
  | [], ps, vs, us, es, e, r, v, q => by
    cases r; cases v; cases q; cases e
    exact ⟨RCs.nil, RCs.nil⟩
  | d :: ds, ps, vs, us, es, e, r, v, q => by
    cases r with
    | cons r1 r2 =>
      cases v with
      | cons v1 v2 =>
        cases q with
        | cons q1 q2 q3 =>
          simp only [kvO] at e
          split at e
          · rename_i p ps' e1 e2
            cases e
            obtain ⟨b1, b2⟩ := pd_kv ih e2 r2 v2 q3
            refine ⟨RCs.cons ?_ b1, RCs.cons ?_ b2⟩
            · rw [← v1.1, ← r1.1] at q1
              rcases keyIs_shape q1 with ⟨i, t, ek, ev⟩ | ⟨x, t, ek, ev⟩
              · dsimp only; rw [ek, ev]; exact RC.int i t
              · dsimp only; rw [ek, ev]; exact RC.str x t
            · dsimp only; rw [q2]; exact ih _ p _ _ e1 r1.2 v1.2
          · cases e
theorem pd_ok (I : Inv X pins σ H s) (r : RH X.K ρ h H) : ∀ (n : Nat) (d : D) (p : PyData) (v : V) (u : Value), pdN n h d = some p → RD X.K ρ H d v → RelV v u → RC X.prog X.w s.heap u p
  | 0, d, p, v, u, e, _, _ => by simp [pdN] at e
  | n + 1, d, p, v, u, e, rd, ru => by
    have ih := pd_ok I r n
    cases d with
    | non => simp only [pdN] at e; cases e; simp only [RD] at rd; subst rd; cases ru; exact RC.none
    | bl b => simp only [pdN] at e; cases e; simp only [RD] at rd; subst rd; cases ru; exact RC.bool b
    | int b => simp only [pdN] at e; cases e; simp only [RD] at rd; subst rd; obtain ⟨t, rfl⟩ := ru; exact RC.int b t
    | str b => simp only [pdN] at e; cases e; simp only [RD] at rd; subst rd; obtain ⟨t, rfl⟩ := ru; exact RC.str b t
    | tup ds =>
      simp only [RD] at rd
      obtain ⟨a, xs, rfl, hs, rds⟩ := rd
      cases ru
      simp only [pdN] at e
      cases e1 : allO (pdN n h) ds with
      | none => rw [e1] at e; cases e
      | some ps =>
        rw [e1] at e; cases e
        obtain ⟨its, rv, ⟨o, h1, h2, k, h3⟩, _⟩ := I.tuple hs
        exact RC.tuple h1 h2 h3 (pd_all ih e1 rds rv)
    | fl ds =>
      simp only [RD] at rd
      obtain ⟨a, xs, rfl, hs, rds⟩ := rd
      cases ru
      simp only [pdN] at e
      cases e1 : allO (pdN n h) ds with
      | none => rw [e1] at e; cases e
      | some ps =>
        rw [e1] at e; cases e
        obtain ⟨its, rv, ⟨o, k, h1, h2, h3⟩, _⟩ := I.list hs.sq
        exact RC.list h1 h2 h3.2 (pd_all ih e1 rds rv)
    | ref m =>
      simp only [RD] at rd
      obtain ⟨a, rfl, ha⟩ := rd
      cases ru
      simp only [pdN] at e
      cases q1 : h[m]? with
      | none => rw [q1] at e; cases e
      | some ob =>
        rw [q1] at e
        cases ob with
        | lst ds =>
          dsimp only at e
          cases e1 : allO (pdN n h) ds with
          | none => rw [e1] at e; cases e
          | some ps =>
            rw [e1] at e; cases e
            obtain ⟨a1, n1, vs, o1, d1⟩ := r.at q1
            rw [ha] at n1; cases n1
            obtain ⟨z, its, k, rv, eo⟩ := I.hok _ _ o1
            exact RC.list eo rfl rfl (pd_all ih e1 d1 rv)
        | dK kvs =>
          dsimp only at e
          cases e1 : kvO (pdN n h) kvs with
          | none => rw [e1] at e; cases e
          | some ps =>
            rw [e1] at e; cases e
            obtain ⟨a1, n1, vs, o1, d1⟩ := r.at q1
            rw [ha] at n1; cases n1
            obtain ⟨z, hy, us, kv, o, es, ep, h1, h2, h3, _, pr, _⟩ := I.hok _ _ o1
            obtain ⟨b, c⟩ := pd_kv ih e1 d1 kv pr
            exact RC.dict h1 h2.1 h3 hy b c
        | _ => cases e
end
section
variable {X : Cx} {EX : XX} {a : Expr} {p pos : Pos} {mr : G → M (List D)}
theorem call_repr (hg : X.A.guards = some []) (hu : X.A.units + 64 < cLine) : CallR X (.builtin "repr") (fun xs H Q => ∃ ρ h d v p, xs = [v] ∧ RH X.K ρ h H ∧ RD X.K ρ H d v ∧ pdN 30 h d = some p ∧ p.showable = true ∧ p.shown.length ≤ sizeLine ∧ p.depth ≤ 60 ∧ Q (.str p.shown) H) := by
  intro pins s σ H xs us Q I r ⟨ρ, h, d, v, p, e, rh, rd, e1, e2, e3, e4, q⟩
  subst e
  obtain ⟨u, rfl, ru⟩ := r.one
  exact (pd_ok I rh 30 d p v u e1 rd ru).tp e2 e3 _ _ _ _ hg (by omega) (fun _ _ e => e) fun h' t tk k => ⟨.str p.shown, H, I.kept k, ⟨t, rfl⟩, q⟩
theorem ar_repr : AR X.K EX (fun xs H Q => ∃ ρ h d v p, xs = [v] ∧ RH X.K ρ h H ∧ RD X.K ρ H d v ∧ pdN 30 h d = some p ∧ p.showable = true ∧ p.shown.length ≤ sizeLine ∧ p.depth ≤ 60 ∧ Q (.str p.shown) H) fRepr := by
  intro ρ h H ds vs Q r rd fin
  unfold fRepr at fin
  split at fin
  · rename_i d
    obtain ⟨v, rfl, rv⟩ := rds1 rd
    cases e : pdN 30 h d with
    | none => rw [e] at fin; exact fin.elim
    | some p =>
      rw [e] at fin
      dsimp only at fin
      split at fin
      · rename_i c
        exact ⟨ρ, h, d, v, p, rfl, r, rv, e, c.1, c.2.1, c.2.2, FE.here fin r (by simp [RD])⟩
      · exact fin.elim
  · exact fin.elim
theorem se_repr (hgd : X.A.guards = some []) (hu : X.A.units + 64 < cLine) (hg : Gl X "repr") (hm : X.mg "repr" = none) (ha : SA X EX [a] mr) (he : starEach [a] X.env = [(false, eval a X.env)] := by rfl) : SE X EX (.Call (.Name "repr" p) [a] [] pos) (eCall fRepr mr) :=
  se_args (pe_callB (call_repr hgd hu) hg hm (by decide +kernel) ha.h (by decide) (by decide) he rfl) ar_repr
end
end FT
namespace FT
open PySem PySem.Spec PyProof.Rows L2
def Ths (P : Nat → D → Prop) : Nat → List D → Prop
  | _, [] => True
  | n, x :: xs => ∃ a b, P a x ∧ Ths P b xs ∧ a + b + 2 ≤ n
def Th (r : AH) (B : Nat) : Nat → Nat → D → Prop
  | 0, _, _ => False
  | _ + 1, n, .non => 4 ≤ n
  | _ + 1, n, .bl _ => 5 ≤ n
  | _ + 1, n, .int i => i.natAbs ≤ B ∧ 40 ≤ n
  | _ + 1, n, .str x => (reprText x).length ≤ n ∧ x.length ≤ 1000
  | m + 1, n, .tup xs => ∃ a, Ths (Th r B m) a xs ∧ a + 4 ≤ n
  | _ + 1, _, .fl _ => False
  | m + 1, n, .ref i => ∃ j, i = j + 3 ∧ ((∃ xs a, r[j]? = some (.lst xs) ∧ Ths (Th r B m) a xs ∧ a + 4 ≤ n) ∨ (r[j]? = some (.dK []) ∨ r[j]? = some (.dK [(.inr "a", .int 1)]) ∧ 1 ≤ m) ∧ 40 ≤ n)
section
variable {P P' : Nat → D → Prop} {n m : Nat} {xs ys : List D} {d : D}
theorem Ths.imp (f : ∀ a d, P a d → P' a d) : ∀ {n : Nat} {xs : List D}, Ths P n xs → Ths P' n xs
  | _, [], _ => trivial
  | _, x :: xs, ⟨a, b, h1, h2, h3⟩ => ⟨a, b, f a x h1, Ths.imp f h2, h3⟩
theorem Ths.up (h : n ≤ m) (t : Ths P n xs) : Ths P m xs := by
  cases xs with
  | nil => trivial
  | cons x xs => obtain ⟨a, b, h1, h2, h3⟩ := t; exact ⟨a, b, h1, h2, by omega⟩
theorem Ths.app : ∀ {n m : Nat} {xs ys : List D}, Ths P n xs → Ths P m ys → Ths P (n + m) (xs ++ ys)
  | n, m, [], ys, _, t => t.up (by omega)
  | n, m, x :: xs, ys, ⟨a, b, h1, h2, h3⟩, t => ⟨a, b + m, h1, Ths.app h2 t, by omega⟩
theorem Ths.one (h : P n d) : Ths P (n + 2) [d] := ⟨n, 0, h, trivial, by omega⟩
theorem Ths.rev : ∀ {n : Nat} {xs : List D}, Ths P n xs → Ths P n xs.reverse
  | n, [], _ => trivial
  | n, x :: xs, ⟨a, b, h1, h2, h3⟩ => by
    rw [List.reverse_cons]
    exact ((Ths.rev h2).app (Ths.one h1)).up (by omega)
theorem Ths.sub {xs ys : List D} (s : xs.Sublist ys) : ∀ {n : Nat}, Ths P n ys → Ths P n xs := by
  induction s with
  | slnil => exact fun t => t
  | cons a s ih => intro n ⟨a, b, h1, h2, h3⟩; exact (ih h2).up (by omega)
  | cons_cons a s ih => intro n ⟨a, b, h1, h2, h3⟩; exact ⟨a, b, h1, ih h2, h3⟩
theorem Ths.mem : ∀ {n : Nat} {xs : List D}, Ths P n xs → d ∈ xs → ∃ a, a + 2 ≤ n ∧ P a d
  | n, [], _, h => nomatch h
  | n, x :: xs, ⟨a, b, h1, h2, h3⟩, h => by
    rcases List.mem_cons.mp h with rfl | h
    · exact ⟨a, by omega, h1⟩
    · obtain ⟨c, hc, p⟩ := Ths.mem h2 h
      exact ⟨c, by omega, p⟩
theorem Ths.len : ∀ {n : Nat} {xs : List D}, Ths P n xs → 2 * xs.length ≤ n
  | n, [], _ => by simp
  | n, x :: xs, ⟨a, b, h1, h2, h3⟩ => by have := Ths.len h2; rw [List.length_cons]; omega
theorem Ths.of {c : Nat} : ∀ {xs : List D}, (∀ d ∈ xs, P c d) → Ths P (xs.length * (c + 2)) xs
  | [], _ => trivial
  | x :: xs, h => ⟨c, xs.length * (c + 2), h x (List.mem_cons_self ..), Ths.of fun d hd => h d (List.mem_cons_of_mem _ hd), by rw [List.length_cons, Nat.add_mul]; omega⟩
theorem cut_sub (xs : List D) (lo hi : Option Int) : (cutD xs lo hi).Sublist xs := (List.take_sublist _ _).trans (List.drop_sublist _ _)
end
theorem Th.mono {r r' : AH} {B B' : Nat} (k : Kp r r') (hB : B ≤ B') : ∀ {m m' n n' : Nat} {d : D}, m ≤ m' → n ≤ n' → Th r B m n d → Th r' B' m' n' d
  | 0, _, _, _, _, _, _, h => by simp only [Th] at h
  | m + 1, 0, _, _, _, hm, _, _ => by omega
  | m + 1, m' + 1, n, n', d, hm, hn, h => by
    have ih : ∀ a d, Th r B m a d → Th r' B' m' a d := fun a d => Th.mono k hB (by omega) (Nat.le_refl a)
    cases d with
    | non => simp only [Th] at h ⊢; omega
    | bl b => simp only [Th] at h ⊢; omega
    | int i => simp only [Th] at h ⊢; omega
    | str x => simp only [Th] at h ⊢; omega
    | fl xs => simp only [Th] at h
    | tup xs => simp only [Th] at h ⊢; obtain ⟨a, h1, h2⟩ := h; exact ⟨a, h1.imp ih, by omega⟩
    | ref i =>
      simp only [Th] at h ⊢
      obtain ⟨j, e, h⟩ := h
      refine ⟨j, e, ?_⟩
      rcases h with ⟨xs, a, h1, h2, h3⟩ | ⟨h1 | ⟨h1, h4⟩, h2⟩
      · exact .inl ⟨xs, a, k _ _ h1, h2.imp ih, by omega⟩
      · exact .inr ⟨.inl (k _ _ h1), by omega⟩
      · exact .inr ⟨.inr ⟨k _ _ h1, by omega⟩, by omega⟩
def isOf (T : String) : D → Bool
  | .non => subT "NoneType" T
  | .bl _ => subT "bool" T
  | .int _ => subT "int" T
  | .str _ => subT "str" T
  | .tup _ => subT "tuple" T
  | _ => false
def numB : D → Bool
  | .int _ => true
  | _ => false
def tupB : D → Bool
  | .tup _ => true
  | _ => false
theorem isNum_is (d : D) : (isOf "int" d && !isOf "bool" d) = numB d := by cases d <;> simp [isOf, numB, subT]
theorem isTup_is (d : D) : isOf "tuple" d = tupB d := by cases d <;> simp [isOf, tupB, subT]
theorem th_isi {r : AH} {B m n : Nat} {d : D} (v : Th r B m n d) {T : String} (h1 : subT "list" T = false := by decide) (h2 : subT "dict" T = false := by decide) {h : AH} {k : Int} {r' : AH} (p : PS h k r') (q : Kp r r' := by exact Kp.refl _) : fIsi T d h = .ok (.bl (isOf T d)) h := by
  have go : ∀ t, tyD d h = .ok t h → fIsi T d h = .ok (.bl (subT t T)) h := fun t e => by
    unfold fIsi
    rw [M.bind_ok e]
    rfl
  cases m with
  | zero => simp only [Th] at v
  | succ m =>
    cases d with
    | non => exact go _ rfl
    | bl b => exact go _ rfl
    | int i => exact go _ rfl
    | str x => exact go _ rfl
    | tup xs => exact go _ rfl
    | fl xs => simp only [Th] at v
    | ref i =>
      simp only [Th] at v
      obtain ⟨j, rfl, v⟩ := v
      rcases v with ⟨xs, a, e, _, _⟩ | ⟨e | ⟨e, _⟩, _⟩
      · have := go "list" (by unfold tyD; dsimp only; rw [p.get, q _ _ e])
        rw [h1] at this
        exact this
      · have := go "dict" (by unfold tyD; dsimp only; rw [p.get, q _ _ e])
        rw [h2] at this
        exact this
      · have := go "dict" (by unfold tyD; dsimp only; rw [p.get, q _ _ e])
        rw [h2] at this
        exact this
theorem allO_th {f : D → Option PyData} {P : Nat → D → Prop} {m : Nat} (ih : ∀ a d, P a d → ∃ p, f d = some p ∧ p.showable = true ∧ p.shown.length ≤ a ∧ p.depth ≤ m) :
    ∀ {n : Nat} {xs : List D}, Ths P n xs → ∃ ps, allO f xs = some ps ∧ PyData.showableAll ps = true ∧ ((PyData.shownAll ps).map (·.length)).sum + 2 * (PyData.shownAll ps).length ≤ n ∧ PyData.depthAll ps ≤ m
  | n, [], _ => ⟨[], rfl, by simp only [PyData.showableAll], by simp [PyData.shownAll], by simp [PyData.depthAll]⟩
  | n, x :: xs, ⟨a, b, h1, h2, h3⟩ => by
    obtain ⟨p, e1, e2, e3, e4⟩ := ih a x h1
    obtain ⟨ps, f1, f2, f3, f4⟩ := allO_th ih h2
    refine ⟨p :: ps, by simp only [allO]; rw [e1, f1], by simp only [PyData.showableAll, e2, f2, Bool.and_self], ?_, by simp only [PyData.depthAll]; omega⟩
    simp only [PyData.shownAll, List.map_cons, List.sum_cons, List.length_cons]
    omega
theorem th_pd {r : AH} {B : Nat} (hB : B < 10 ^ 30) {h : AH} {k : Int} {r' : AH} (p : PS h k r') (q : Kp r r') : ∀ {m n : Nat} {d : D}, Th r B m n d → ∃ pd, pdN m h d = some pd ∧ pd.showable = true ∧ pd.shown.length ≤ n ∧ pd.depth ≤ m
  | 0, n, d, v => by simp only [Th] at v
  | m + 1, n, d, v => by
    have ih : ∀ a d, Th r B m a d → ∃ pd, pdN m h d = some pd ∧ pd.showable = true ∧ pd.shown.length ≤ a ∧ pd.depth ≤ m := fun a d => th_pd hB p q
    cases d with
    | non => simp only [Th] at v; exact ⟨_, rfl, rfl, by simp only [PyData.shown]; exact v, by simp [PyData.depth]⟩
    | bl b => simp only [Th] at v; exact ⟨_, rfl, rfl, by simp only [PyData.shown]; cases b <;> exact Nat.le_trans (by decide +kernel) v, by simp [PyData.depth]⟩
    | int i =>
      simp only [Th] at v
      have lt : i.natAbs < 10 ^ 30 := Nat.lt_of_le_of_lt v.1 hB
      refine ⟨_, rfl, ?_, ?_, by simp [PyData.depth]⟩
      · simp only [PyData.showable, decide_eq_true_eq]
        by_cases z : i.natAbs = 0
        · rw [z]; decide
        · exact Nat.lt_of_lt_of_le ((Nat.log2_lt z).mpr (show i.natAbs < 2 ^ 100 from Nat.lt_of_lt_of_le lt (by decide))) (by decide)
      · have e := int_text_length_le10 (k := 30) (by decide) lt
        simp only [PyData.shown]
        show (Str.ofString (toString i)).length ≤ n
        rw [PySem.ofString_length]
        omega
    | str x => simp only [Th] at v; exact ⟨_, rfl, rfl, by simp only [PyData.shown]; exact v.1, by simp [PyData.depth]⟩
    | fl xs => simp only [Th] at v
    | tup xs =>
      simp only [Th] at v
      obtain ⟨a, v1, v2⟩ := v
      obtain ⟨ps, e1, e2, e3, e4⟩ := allO_th ih v1
      have := tupleText_len_le (PyData.shownAll ps)
      exact ⟨.tuple ps, by simp only [pdN]; rw [e1]; rfl, by simpa [PyData.showable] using e2, by simp only [PyData.shown]; omega, by simp only [PyData.depth]; omega⟩
    | ref i =>
      simp only [Th] at v
      obtain ⟨j, rfl, v⟩ := v
      rcases v with ⟨xs, a, e, v1, v2⟩ | ⟨e | ⟨e, v3⟩, v2⟩
      · obtain ⟨ps, e1, e2, e3, e4⟩ := allO_th ih v1
        have := listText_len_le (PyData.shownAll ps)
        exact ⟨.list ps, by simp only [pdN]; rw [p.get, q _ _ e]; dsimp only; rw [e1]; rfl, by simpa [PyData.showable] using e2, by simp only [PyData.shown]; omega, by simp only [PyData.depth]; omega⟩
      · refine ⟨.dict [], by simp only [pdN]; rw [p.get, q _ _ e]; rfl, by simp [PyData.showable, PyData.showableKv], ?_, by simp [PyData.depth, PyData.depthKv]⟩
        simp only [PyData.shown, PyData.shownKv]
        exact Nat.le_trans (by decide +kernel) v2
      · cases m with
        | zero =>
          omega
        | succ m =>
          refine ⟨.dict [(.str "a", .int 1)], by simp only [pdN]; rw [p.get, q _ _ e]; rfl, by decide +kernel, ?_, by simp [PyData.depth, PyData.depthKv]⟩
          exact Nat.le_trans (by decide +kernel) v2
end FT
set_option maxHeartbeats 4000000
namespace FT
open PySem PySem.Spec PyProof.Rows L2
def top (i : Nat) : Stmt := PySem.Challenge.pw_fairtrees_k20_right_runs.main.body.getD i (.Pass ⟨0, 0, 0, 0⟩)
noncomputable def c_MOST : D := .int 40
noncomputable def c_NUMBERS : D := .int 400
noncomputable def b_is_number : G → M Out :=
  (bCons (sRet (eAnd (eIsi "int" (eVar 0)) (eNot (eIsi "bool" (eVar 0))))) bNil)
noncomputable def m_is_number : List D → M D := fun ds => cln (runF 1 b_is_number ds)
theorem sc_is_number : FnScope ["thing"] ["thing"] (defScope (top 3)) := ⟨rfl, rfl, rfl, by decide +kernel, rfl, by decide +kernel, by decide +kernel⟩
theorem ok_is_number {P : Program} {w : World} {K : PySem.W.Frag} {mg : Str → Option Value} {base : Heap} (T : DefAt K "is_number" (top 3)) (mx : ∀ v, PySem.W.nsIn K mainGlobals "is_number" = some (some v) → mg "is_number" = some v) (z_bool : mg "bool" = none) (z_int : mg "int" = none) (z_isinstance : mg "isinstance" = none) : Fn P w K mg base 1 "is_number" 1 m_is_number := by
  obtain ⟨f, fd, hf, F⟩ := T
  have hb : Binds K fd ["thing"] [] := F.binds fun _ _ _ _ _ _ us hl => (by obtain ⟨_, rfl⟩ := ar1 hl; rfl)
  exact Fn.cln <| fn_mkC F sc_is_number hb (mx _ hf) rfl fun cdv A outer s H E hcd hr => (show SB (cxOf CX0 P w K mg base ["thing"] "is_number" (defScope (top 3)) f cdv A outer s H E).nox EX0 (defBody (top 3)) b_is_number from
    have nd : (["thing"] : List Str).Nodup := sc_is_number.nd
    (sb_cons (s_ret (se_band (se_isi rfl z_isinstance rfl z_int (by decide +kernel) (by decide) (se_var 0)) (se_one (se_bnot (se_isi rfl z_isinstance rfl z_bool (by decide +kernel) (by decide) (se_var 0)))))) sb_nil))
noncomputable def b_is_number_from : G → M Out :=
  (bCons (sRet (eAnd (eFn 1 m_is_number (aCons (eVar 0) aNil)) (e3 fLe fLe (eVar 1) (eVar 0) (eVar 2)))) bNil)
noncomputable def m_is_number_from : List D → M D := fun ds => cln (runF 3 b_is_number_from ds)
theorem sc_is_number_from : FnScope ["thing", "least", "most"] ["thing", "least", "most"] (defScope (top 4)) := ⟨rfl, rfl, rfl, by decide +kernel, rfl, by decide +kernel, by decide +kernel⟩
theorem ok_is_number_from {P : Program} {w : World} {K : PySem.W.Frag} {mg : Str → Option Value} {base : Heap} (T : DefAt K "is_number_from" (top 4)) (mx : ∀ v, PySem.W.nsIn K mainGlobals "is_number_from" = some (some v) → mg "is_number_from" = some v) (F_is_number : Fn P w K mg base 1 "is_number" 1 m_is_number) : Fn P w K mg base 2 "is_number_from" 3 m_is_number_from := by
  obtain ⟨f, fd, hf, F⟩ := T
  have hb : Binds K fd ["thing", "least", "most"] [] := F.binds fun _ _ _ _ _ _ us hl => (by obtain ⟨_, _, _, rfl⟩ := ar3 hl; rfl)
  exact Fn.cln <| fn_mkC F sc_is_number_from hb (mx _ hf) rfl fun cdv A outer s H E hcd hr => (show SB (cxOf CX0 P w K mg base ["thing", "least", "most"] "is_number_from" (defScope (top 4)) f cdv A outer s H E).nox EX0 (defBody (top 4)) b_is_number_from from
    have nd : (["thing", "least", "most"] : List Str).Nodup := sc_is_number_from.nd
    (sb_cons (s_ret (se_band (se_call F_is_number (hr.mono (by decide)) rfl (sa_cons (se_var 0) sa_nil)) (se_one (se_c2 co_le co_le (se_var 1) (se_var 0) (se_var 2))))) sb_nil))
noncomputable def b_is_tuple : G → M Out :=
  (bCons (sRet (eIsi "tuple" (eVar 0))) bNil)
noncomputable def m_is_tuple : List D → M D := fun ds => cln (runF 1 b_is_tuple ds)
theorem sc_is_tuple : FnScope ["thing"] ["thing"] (defScope (top 5)) := ⟨rfl, rfl, rfl, by decide +kernel, rfl, by decide +kernel, by decide +kernel⟩
theorem ok_is_tuple {P : Program} {w : World} {K : PySem.W.Frag} {mg : Str → Option Value} {base : Heap} (T : DefAt K "is_tuple" (top 5)) (mx : ∀ v, PySem.W.nsIn K mainGlobals "is_tuple" = some (some v) → mg "is_tuple" = some v) (z_isinstance : mg "isinstance" = none) (z_tuple : mg "tuple" = none) : Fn P w K mg base 1 "is_tuple" 1 m_is_tuple := by
  obtain ⟨f, fd, hf, F⟩ := T
  have hb : Binds K fd ["thing"] [] := F.binds fun _ _ _ _ _ _ us hl => (by obtain ⟨_, rfl⟩ := ar1 hl; rfl)
  exact Fn.cln <| fn_mkC F sc_is_tuple hb (mx _ hf) rfl fun cdv A outer s H E hcd hr => (show SB (cxOf CX0 P w K mg base ["thing"] "is_tuple" (defScope (top 5)) f cdv A outer s H E).nox EX0 (defBody (top 5)) b_is_tuple from
    have nd : (["thing"] : List Str).Nodup := sc_is_tuple.nd
    (sb_cons (s_ret (se_isi rfl z_isinstance rfl z_tuple (by decide +kernel) (by decide) (se_var 0))) sb_nil))
noncomputable def b_is_tuple_of : G → M Out :=
  (bCons (sRet (eAnd (eFn 1 m_is_tuple (aCons (eVar 0) aNil)) (e3 fLe fLe (eVar 1) (eCall fLen (aCons (eVar 0) aNil)) (eVar 2)))) bNil)
noncomputable def m_is_tuple_of : List D → M D := fun ds => cln (runF 3 b_is_tuple_of ds)
theorem sc_is_tuple_of : FnScope ["thing", "least", "most"] ["thing", "least", "most"] (defScope (top 6)) := ⟨rfl, rfl, rfl, by decide +kernel, rfl, by decide +kernel, by decide +kernel⟩
theorem ok_is_tuple_of {P : Program} {w : World} {K : PySem.W.Frag} {mg : Str → Option Value} {base : Heap} (T : DefAt K "is_tuple_of" (top 6)) (mx : ∀ v, PySem.W.nsIn K mainGlobals "is_tuple_of" = some (some v) → mg "is_tuple_of" = some v) (z_len : mg "len" = none) (F_is_tuple : Fn P w K mg base 1 "is_tuple" 1 m_is_tuple) : Fn P w K mg base 2 "is_tuple_of" 3 m_is_tuple_of := by
  obtain ⟨f, fd, hf, F⟩ := T
  have hb : Binds K fd ["thing", "least", "most"] [] := F.binds fun _ _ _ _ _ _ us hl => (by obtain ⟨_, _, _, rfl⟩ := ar3 hl; rfl)
  exact Fn.cln <| fn_mkC F sc_is_tuple_of hb (mx _ hf) rfl fun cdv A outer s H E hcd hr => (show SB (cxOf CX0 P w K mg base ["thing", "least", "most"] "is_tuple_of" (defScope (top 6)) f cdv A outer s H E).nox EX0 (defBody (top 6)) b_is_tuple_of from
    have nd : (["thing", "least", "most"] : List Str).Nodup := sc_is_tuple_of.nd
    (sb_cons (s_ret (se_band (se_call F_is_tuple (hr.mono (by decide)) rfl (sa_cons (se_var 0) sa_nil)) (se_one (se_c2 co_le co_le (se_var 1) (se_len rfl z_len (sa_cons (se_var 0) sa_nil)) (se_var 2))))) sb_nil))
noncomputable def b_is_told : G → M Out :=
  (bCons (sIf (cNot (cVal (eFn 3 m_is_tuple_of (aCons (eVar 0) (aCons (fun _ => pure (.int 2)) (aCons (fun _ => pure (.int 2)) aNil)))))) (bCons (sRet (fun _ => pure (.bl false))) bNil) bNil) (bCons (sAsg (eVar 0) (gT 2 (gConss (gN 1) (gConss (gN 2) gNils)))) (bCons (sIf (cOr (cNot (cVal (eFn 1 m_is_tuple (aCons (eVar 1) aNil)))) (cNot (cVal (eFn 1 m_is_tuple (aCons (eVar 2) aNil))))) (bCons (sRet (fun _ => pure (.bl false))) bNil) bNil) (bCons (sIf (cOr (fun γ => do let d ← e2 (fEq false) (eCall fLen (aCons (eVar 2) aNil)) (fun _ => pure (.int 0)) γ; asB d) (fun γ => do let d ← e2 fGt (e2 fAdd (eCall fLen (aCons (eVar 1) aNil)) (eCall fLen (aCons (eVar 2) aNil))) (fun _ => pure c_NUMBERS) γ; asB d)) (bCons (sRet (fun _ => pure (.bl false))) bNil) bNil) (bCons (sRet (clE (eCall (fAll false) (aCons (eComp [none] (iSeqT (e2 fAdd (eVar 1) (eVar 2))) (gN 0) (fun _ => pure true) (eFn 3 m_is_number_from (aCons (eVar 0) (aCons (fun _ => pure (.int 0)) (aCons (e2 fSub (fun _ => pure c_MOST) (fun _ => pure (.int 1))) aNil))))) aNil)))) bNil)))))
noncomputable def m_is_told : List D → M D := fun ds => cln (runF 3 b_is_told ds)
theorem sc_is_told : FnScope ["thing", "path", "ring"] ["thing"] (defScope (top 8)) := ⟨rfl, rfl, rfl, by decide +kernel, rfl, by decide +kernel, by decide +kernel⟩
theorem ok_is_told {P : Program} {w : World} {K : PySem.W.Frag} {mg : Str → Option Value} {base : Heap} (T : DefAt K "is_told" (top 8)) (mx : ∀ v, PySem.W.nsIn K mainGlobals "is_told" = some (some v) → mg "is_told" = some v) (C_MOST : Cst K mg "MOST" c_MOST) (C_NUMBERS : Cst K mg "NUMBERS" c_NUMBERS) (z_all : mg "all" = none) (z_len : mg "len" = none) (F_is_number_from : Fn P w K mg base 2 "is_number_from" 3 m_is_number_from) (F_is_tuple : Fn P w K mg base 1 "is_tuple" 1 m_is_tuple) (F_is_tuple_of : Fn P w K mg base 2 "is_tuple_of" 3 m_is_tuple_of) : Fn P w K mg base 3 "is_told" 1 m_is_told := by
  obtain ⟨f, fd, hf, F⟩ := T
  have hb : Binds K fd ["thing"] [] := F.binds fun _ _ _ _ _ _ us hl => (by obtain ⟨_, rfl⟩ := ar1 hl; rfl)
  exact Fn.cln <| fn_mkC F sc_is_told hb (mx _ hf) rfl fun cdv A outer s H E hcd hr => (show SB (cxOf CX0 P w K mg base ["thing", "path", "ring"] "is_told" (defScope (top 8)) f cdv A outer s H E).nox EX0 (defBody (top 8)) b_is_told from
    have nd : (["thing", "path", "ring"] : List Str).Nodup := sc_is_told.nd
    (sb_cons (s_if (sc_not (sc_val (se_call F_is_tuple_of (hr.mono (by decide)) rfl (sa_cons (se_var 0) (sa_cons se_int (sa_cons se_int sa_nil)))))) (sb_cons (s_ret se_bl) sb_nil) sb_nil) (sb_cons (s_asg (se_var 0) (sg_tup rfl (sgs_cons (sg_name 1 nd) (sgs_cons (sg_name 2 nd) sgs_nil)))) (sb_cons (s_if (SW.sc (sw_or (sc_not (sc_val (se_call F_is_tuple (hr.mono (by decide)) rfl (sa_cons (se_var 1) sa_nil)))) (sw_or1 (sc_not (sc_val (se_call F_is_tuple (hr.mono (by decide)) rfl (sa_cons (se_var 2) sa_nil))))))) (sb_cons (s_ret se_bl) sb_nil) sb_nil) (sb_cons (s_if (SW.sc (sw_or (sc_c co_eq (se_len rfl z_len (sa_cons (se_var 2) sa_nil)) se_int) (sw_or1 (sc_c co_gt (se_add (se_len rfl z_len (sa_cons (se_var 1) sa_nil)) (se_len rfl z_len (sa_cons (se_var 2) sa_nil))) (se_cst C_NUMBERS rfl))))) (sb_cons (s_ret se_bl) sb_nil) sb_nil) (sb_cons (s_ret (se_cln (se_all rfl rfl z_all (sa_cons (se_comp (N' := ["standing"]) (cap := [none]) rfl (cs_mk (by first | rfl | kernel_rfl!)) (si_tup (se_add (se_var 1) (se_var 2))) (fun _ _ _ _ => (sgk_name 0 (show (["standing"] : List Str).Nodup by decide +kernel))) (fun _ _ _ _ => scs_nil) (fun _ _ _ _ => (se_call F_is_number_from (hr.mono (by decide)) rfl (sa_cons (se_var 0) (sa_cons se_int (sa_cons (se_sub (se_cst C_MOST rfl) se_int) sa_nil)))))) sa_nil)))) sb_nil))))))
noncomputable def b_right_run : G → M Out :=
  (bCons (sIf (cNot (cVal (eFn 1 m_is_told (aCons (eVar 1) aNil)))) (bCons (sRet (fun _ => pure (.bl false))) bNil) bNil) (bCons (sAsg (eVar 1) (gT 2 (gConss (gN 2) (gConss (gN 3) gNils)))) (bCons (sAsg (e2 fAdd (eVar 2) (eVar 3)) (gN 4)) (bCons (sIf (fun γ => do let d ← e2 fGe (eCall fMaxT (aCons (eVar 4) aNil)) (eCall fLen (aCons (e2 fIx (eVar 0) (fun _ => pure (.int 0))) aNil)) γ; asB d) (bCons (sRet (fun _ => pure (.bl false))) bNil) bNil) (bCons (sRet (clE (eCall (fAll false) (aCons (eComp [some 0, none, none] (iZip (eVar 4) (e2 fAdd (eSlice (eVar 4) (oSome (fun _ => pure (.int 1))) oNone) (eSlice (eVar 3) oNone (oSome (fun _ => pure (.int 1)))))) (gT 2 (gConss (gN 1) (gConss (gN 2) gNils))) (fun _ => pure true) (e2 (fIn false) (eVar 2) (e2 fIx (e2 fIx (eVar 0) (fun _ => pure (.int 0))) (eVar 1)))) aNil)))) bNil)))))
noncomputable def m_right_run : List D → M D := fun ds => cln (runF 5 b_right_run ds)
theorem sc_right_run : FnScope ["machine", "thing", "path", "ring", "row"] ["machine", "thing"] (defScope (top 9)) := ⟨rfl, rfl, rfl, by decide +kernel, rfl, by decide +kernel, by decide +kernel⟩
theorem ok_right_run {P : Program} {w : World} {K : PySem.W.Frag} {mg : Str → Option Value} {base : Heap} (T : DefAt K "right_run" (top 9)) (mx : ∀ v, PySem.W.nsIn K mainGlobals "right_run" = some (some v) → mg "right_run" = some v) (z_all : mg "all" = none) (z_len : mg "len" = none) (z_max : mg "max" = none) (z_zip : mg "zip" = none) (F_is_told : Fn P w K mg base 3 "is_told" 1 m_is_told) : Fn P w K mg base 4 "right_run" 2 m_right_run := by
  obtain ⟨f, fd, hf, F⟩ := T
  have hb : Binds K fd ["machine", "thing"] [] := F.binds fun _ _ _ _ _ _ us hl => (by obtain ⟨_, _, rfl⟩ := ar2 hl; rfl)
  exact Fn.cln <| fn_mkC F sc_right_run hb (mx _ hf) rfl fun cdv A outer s H E hcd hr => (show SB (cxOf CX0 P w K mg base ["machine", "thing", "path", "ring", "row"] "right_run" (defScope (top 9)) f cdv A outer s H E).nox EX0 (defBody (top 9)) b_right_run from
    have nd : (["machine", "thing", "path", "ring", "row"] : List Str).Nodup := sc_right_run.nd
    (sb_cons (s_if (sc_not (sc_val (se_call F_is_told (hr.mono (by decide)) rfl (sa_cons (se_var 1) sa_nil)))) (sb_cons (s_ret se_bl) sb_nil) sb_nil) (sb_cons (s_asg (se_var 1) (sg_tup rfl (sgs_cons (sg_name 2 nd) (sgs_cons (sg_name 3 nd) sgs_nil)))) (sb_cons (s_set 4 nd (se_add (se_var 2) (se_var 3))) (sb_cons (s_if (sc_c co_ge (se_maxT rfl rfl z_max (sa_cons (se_var 4) sa_nil)) (se_len rfl z_len (sa_cons (se_ix (se_var 0) se_int) sa_nil))) (sb_cons (s_ret se_bl) sb_nil) sb_nil) (sb_cons (s_ret (se_cln (se_all rfl rfl z_all (sa_cons (se_comp (N' := ["machine", "standing", "other"]) (cap := [some 0, none, none]) rfl (cs_mk (by first | rfl | kernel_rfl!)) (si_zip rfl rfl z_zip (se_var 4) (se_add (se_slice (se_var 4) (so_some se_int) so_none) (se_slice (se_var 3) so_none (so_some se_int)))) (fun _ _ _ _ => (sgk_tup rfl (sgks_cons (sgk_name 1 (show (["machine", "standing", "other"] : List Str).Nodup by decide +kernel)) (sgks_cons (sgk_name 2 (show (["machine", "standing", "other"] : List Str).Nodup by decide +kernel)) sgks_nil)))) (fun _ _ _ _ => scs_nil) (fun _ _ _ _ => (se_c co_in (se_var 2) (se_ix (se_ix (se_var 0) se_int) (se_var 1))))) sa_nil)))) sb_nil))))))
noncomputable def b__law_pool : G → M Out :=
  (bCons (sComp' 1 [none] (iSeqL (eVar 0)) (gN 0) (fun γ => do let d ← e2 fGe (eVar 0) (e2 fPow (fun _ => pure (.int 10)) (fun _ => pure (.int 18))) γ; asB d) (eVar 0)) (bCons (sRet (eLst (aCons (eVar 1) (aCons (eComp [none] (iSeqL (eVar 0)) (gN 0) (fun γ => do let d ← e2 fLt (eVar 0) (e2 fPow (fun _ => pure (.int 10)) (fun _ => pure (.int 18))) γ; asB d) (eVar 0)) (aCons (fun _ => pure (.int 5)) (aCons (fun _ => pure (.int 0)) aNil)))))) bNil))
noncomputable def m__law_pool : List D → M D := runF 2 b__law_pool
theorem sc__law_pool : FnScope ["_law_script", "_law_great"] ["_law_script"] (defScope (top 11)) := ⟨rfl, rfl, rfl, by decide +kernel, rfl, by decide +kernel, by decide +kernel⟩
theorem ok__law_pool {P : Program} {w : World} {K : PySem.W.Frag} {mg : Str → Option Value} {base : Heap} (T : DefAt K "_law_pool" (top 11)) (mx : ∀ v, PySem.W.nsIn K mainGlobals "_law_pool" = some (some v) → mg "_law_pool" = some v) : Fn P w K mg base 1 "_law_pool" 1 m__law_pool := by
  obtain ⟨f, fd, hf, F⟩ := T
  have hb : Binds K fd ["_law_script"] [] := F.binds fun _ _ _ _ _ _ us hl => (by obtain ⟨_, rfl⟩ := ar1 hl; rfl)
  exact  fn_mkC F sc__law_pool hb (mx _ hf) rfl fun cdv A outer s H E hcd hr => (show SB (cxOf CX0 P w K mg base ["_law_script", "_law_great"] "_law_pool" (defScope (top 11)) f cdv A outer s H E).nox EX0 (defBody (top 11)) b__law_pool from
    have nd : (["_law_script", "_law_great"] : List Str).Nodup := sc__law_pool.nd
    (sb_cons (s_comp 1 (N' := ["_law_cell"]) (cap := [none]) rfl (cs_mk (by first | rfl | kernel_rfl!)) (si_list (se_var 0)) (fun _ _ _ _ => (sgk_name 0 (show (["_law_cell"] : List Str).Nodup by decide +kernel))) (fun _ _ _ _ => (scs_one (sc_c co_ge (se_var 0) (se_pow se_int se_int)))) (fun _ _ _ _ => (se_var 0)) nd) (sb_cons (s_ret (se_lst (sa_cons (se_var 1) (sa_cons (se_comp (N' := ["_law_cell"]) (cap := [none]) rfl (cs_mk (by first | rfl | kernel_rfl!)) (si_list (se_var 0)) (fun _ _ _ _ => (sgk_name 0 (show (["_law_cell"] : List Str).Nodup by decide +kernel))) (fun _ _ _ _ => (scs_one (sc_c co_lt (se_var 0) (se_pow se_int se_int)))) (fun _ _ _ _ => (se_var 0))) (sa_cons se_int (sa_cons se_int sa_nil)))))) sb_nil)))
noncomputable def b__law_draw : G → M Out :=
  (bCons (sIf (fun γ => do let d ← e2 fGt (eCall fLen (aCons (e2 fIx (eVar 0) (fun _ => pure (.int 0))) aNil)) (fun _ => pure (.int 0)) γ; asB d) (bCons (sAsg (e2 fIx (e2 fIx (eVar 0) (fun _ => pure (.int 0))) (fun _ => pure (.int 0))) (gN 2)) (bCons (sAsg (e2 fDiv (eVar 2) (eVar 1)) (gIx (e2 fIx (eVar 0) (fun _ => pure (.int 0))) (fun _ => pure (.int 0)))) (bCons (sIf (fun γ => do let d ← e2 (fEq false) (e2 fDiv (eVar 2) (eVar 1)) (fun _ => pure (.int 0)) γ; asB d) (bCons (sExpr (eM1 fPopAt (e2 fIx (eVar 0) (fun _ => pure (.int 0))) (fun _ => pure (.int 0)))) bNil) bNil) (bCons (sRet (e2 fMod (eVar 2) (eVar 1))) bNil)))) bNil) (bCons (sAsg (e2 fAdd (e2 fIx (eVar 0) (fun _ => pure (.int 3))) (fun _ => pure (.int 1))) (gIx (eVar 0) (fun _ => pure (.int 3)))) (bCons (sAsg (fun _ => pure (.int 0)) (gN 2)) (bCons (sIf (fun γ => do let d ← e2 fGt (eCall fLen (aCons (e2 fIx (eVar 0) (fun _ => pure (.int 1))) aNil)) (fun _ => pure (.int 0)) γ; asB d) (bCons (sAsg (e2 fIx (e2 fIx (eVar 0) (fun _ => pure (.int 1))) (e2 fMod (e2 fIx (eVar 0) (fun _ => pure (.int 3))) (eCall fLen (aCons (e2 fIx (eVar 0) (fun _ => pure (.int 1))) aNil)))) (gN 2)) bNil) bNil) (bCons (sAsg (e2 fMul2 (e2 fMod (eVar 2) (fun _ => pure (.int 2147483629))) (e2 fAdd (e2 fMul2 (e2 fIx (eVar 0) (fun _ => pure (.int 3))) (e2 fIx (eVar 0) (fun _ => pure (.int 3)))) (fun _ => pure (.int 1)))) (gN 2)) (bCons (sAsg (e2 fMod (e2 fAdd (e2 fAdd (e2 fMul2 (e2 fIx (eVar 0) (fun _ => pure (.int 2))) (fun _ => pure (.int 48271))) (eVar 2)) (e2 fMul2 (fun _ => pure (.int 97)) (e2 fIx (eVar 0) (fun _ => pure (.int 3))))) (fun _ => pure (.int 2147483647))) (gIx (eVar 0) (fun _ => pure (.int 2)))) (bCons (sRet (e2 fMod (e2 fDiv (e2 fMod (e2 fPow (e2 fIx (eVar 0) (fun _ => pure (.int 2))) (fun _ => pure (.int 5))) (fun _ => pure (.int 2147483629))) (fun _ => pure (.int 64))) (eVar 1))) bNil)))))))
noncomputable def m__law_draw : List D → M D := runF 3 b__law_draw
theorem sc__law_draw : FnScope ["_law_pool_here", "_law_many", "_law_cell"] ["_law_pool_here", "_law_many"] (defScope (top 12)) := ⟨rfl, rfl, rfl, by decide +kernel, rfl, by decide +kernel, by decide +kernel⟩
theorem ok__law_draw {P : Program} {w : World} {K : PySem.W.Frag} {mg : Str → Option Value} {base : Heap} (T : DefAt K "_law_draw" (top 12)) (mx : ∀ v, PySem.W.nsIn K mainGlobals "_law_draw" = some (some v) → mg "_law_draw" = some v) (z_len : mg "len" = none) : Fn P w K mg base 1 "_law_draw" 2 m__law_draw := by
  obtain ⟨f, fd, hf, F⟩ := T
  have hb : Binds K fd ["_law_pool_here", "_law_many"] [] := F.binds fun _ _ _ _ _ _ us hl => (by obtain ⟨_, _, rfl⟩ := ar2 hl; rfl)
  exact  fn_mkC F sc__law_draw hb (mx _ hf) rfl fun cdv A outer s H E hcd hr => (show SB (cxOf CX0 P w K mg base ["_law_pool_here", "_law_many", "_law_cell"] "_law_draw" (defScope (top 12)) f cdv A outer s H E).nox EX0 (defBody (top 12)) b__law_draw from
    have nd : (["_law_pool_here", "_law_many", "_law_cell"] : List Str).Nodup := sc__law_draw.nd
    (sb_cons (s_if (sc_c co_gt (se_len rfl z_len (sa_cons (se_ix (se_var 0) se_int) sa_nil)) se_int) (sb_cons (s_set 2 nd (se_ix (se_ix (se_var 0) se_int) se_int)) (sb_cons (s_asg (se_div (se_var 2) (se_var 1)) (sg_ix (se_ix (se_var 0) se_int) se_int)) (sb_cons (s_if (sc_c co_eq (se_div (se_var 2) (se_var 1)) se_int) (sb_cons (s_expr (se_popAt (se_ix (se_var 0) se_int) se_int)) sb_nil) sb_nil) (sb_cons (s_ret (se_mod (se_var 2) (se_var 1))) sb_nil)))) sb_nil) (sb_cons (s_asg (se_add (se_ix (se_var 0) se_int) se_int) (sg_ix (se_var 0) se_int)) (sb_cons (s_set 2 nd se_int) (sb_cons (s_if (sc_c co_gt (se_len rfl z_len (sa_cons (se_ix (se_var 0) se_int) sa_nil)) se_int) (sb_cons (s_set 2 nd (se_ix (se_ix (se_var 0) se_int) (se_mod (se_ix (se_var 0) se_int) (se_len rfl z_len (sa_cons (se_ix (se_var 0) se_int) sa_nil))))) sb_nil) sb_nil) (sb_cons (s_set 2 nd (se_mul2 (se_mod (se_var 2) se_int) (se_add (se_mul2 (se_ix (se_var 0) se_int) (se_ix (se_var 0) se_int)) se_int))) (sb_cons (s_asg (se_mod (se_add (se_add (se_mul2 (se_ix (se_var 0) se_int) se_int) (se_var 2)) (se_mul2 se_int (se_ix (se_var 0) se_int))) se_int) (sg_ix (se_var 0) se_int)) (sb_cons (s_ret (se_mod (se_div (se_mod (se_pow (se_ix (se_var 0) se_int) se_int) se_int) se_int) (se_var 1))) sb_nil))))))))
noncomputable def b__law_machine : G → M Out :=
  (bCons (sAsg (e2 fAdd (fun _ => pure (.int 1)) (eFn 2 m__law_draw (aCons (eVar 0) (aCons (eVar 2) aNil)))) (gN 3)) (bCons (sAsg (e2 fAdd (fun _ => pure (.int 1)) (eFn 2 m__law_draw (aCons (eVar 0) (aCons (fun _ => pure (.int 4)) aNil)))) (gN 4)) (bCons (sAsg (eLst aNil) (gN 5)) (bCons (sAsg (eLst aNil) (gN 6)) (bCons (sFor (iRange (eVar 3)) (gN 7) (bCons (sExpr (eM1 fAppend (eVar 5) (clE (eCall fTuple (aCons (eComp [some 0, some 4, none] (iRange (eVar 3)) (gN 2) (fun γ => do let d ← e2 fLt (eFn 2 m__law_draw (aCons (eVar 0) (aCons (fun _ => pure (.int 6)) aNil))) (eVar 1) γ; asB d) (eVar 2)) aNil))))) (bCons (sExpr (eM1 fAppend (eVar 6) (clE (eCall fTuple (aCons (eCall fSorted (aCons (eComp [some 0, none] (iSeqL (eVar 1)) (gN 1) (fun γ => do let d ← e2 (fEq false) (eFn 2 m__law_draw (aCons (eVar 0) (aCons (fun _ => pure (.int 2)) aNil))) (fun _ => pure (.int 1)) γ; asB d) (eVar 1)) aNil)) aNil))))) bNil))) (bCons (sRet (eTup (aCons (eCall fTuple (aCons (eVar 5) aNil)) (aCons (eCall fTuple (aCons (eVar 6) aNil)) aNil)))) bNil))))))
noncomputable def m__law_machine : List D → M D := fun ds => cln (runF 8 b__law_machine ds)
theorem sc__law_machine : FnScope ["_law_pool_here", "_law_names", "_law_most", "_law_many", "_law_dense", "_law_steps", "_law_marks", "_law_k"] ["_law_pool_here", "_law_names", "_law_most"] (defScope (top 13)) := ⟨rfl, rfl, rfl, by decide +kernel, rfl, by decide +kernel, by decide +kernel⟩
theorem ok__law_machine {P : Program} {w : World} {K : PySem.W.Frag} {mg : Str → Option Value} {base : Heap} (T : DefAt K "_law_machine" (top 13)) (mx : ∀ v, PySem.W.nsIn K mainGlobals "_law_machine" = some (some v) → mg "_law_machine" = some v) (z_range : mg "range" = none) (z_sorted : mg "sorted" = none) (z_tuple : mg "tuple" = none) (F__law_draw : Fn P w K mg base 1 "_law_draw" 2 m__law_draw) : Fn P w K mg base 2 "_law_machine" 3 m__law_machine := by
  obtain ⟨f, fd, hf, F⟩ := T
  have hb : Binds K fd ["_law_pool_here", "_law_names", "_law_most"] [] := F.binds fun _ _ _ _ _ _ us hl => (by obtain ⟨_, _, _, rfl⟩ := ar3 hl; rfl)
  exact Fn.cln <| fn_mkC F sc__law_machine hb (mx _ hf) rfl fun cdv A outer s H E hcd hr => (show SB (cxOf CX0 P w K mg base ["_law_pool_here", "_law_names", "_law_most", "_law_many", "_law_dense", "_law_steps", "_law_marks", "_law_k"] "_law_machine" (defScope (top 13)) f cdv A outer s H E).nox EX0 (defBody (top 13)) b__law_machine from
    have nd : (["_law_pool_here", "_law_names", "_law_most", "_law_many", "_law_dense", "_law_steps", "_law_marks", "_law_k"] : List Str).Nodup := sc__law_machine.nd
    (sb_cons (s_set 3 nd (se_add se_int (se_call F__law_draw (hr.mono (by decide)) rfl (sa_cons (se_var 0) (sa_cons (se_var 2) sa_nil))))) (sb_cons (s_set 4 nd (se_add se_int (se_call F__law_draw (hr.mono (by decide)) rfl (sa_cons (se_var 0) (sa_cons se_int sa_nil))))) (sb_cons (s_set 5 nd (se_lst sa_nil)) (sb_cons (s_set 6 nd (se_lst sa_nil)) (sb_cons (s_for PassesOwn.never rfl (si_range rfl z_range (se_var 3)) (sg_name 7 nd) (sb_cons (s_expr (se_append (se_var 5) (se_cln (se_tuple rfl z_tuple (sa_cons (se_comp (N' := ["_law_pool_here", "_law_dense", "_law_to"]) (cap := [some 0, some 4, none]) rfl (cs_mk (by first | rfl | kernel_rfl!)) (si_range rfl z_range (se_var 3)) (fun _ _ _ _ => (sgk_name 2 (show (["_law_pool_here", "_law_dense", "_law_to"] : List Str).Nodup by decide +kernel))) (fun _ _ _ _ => (scs_one (sc_c co_lt (se_call F__law_draw (hr.mono (by decide)) rfl (sa_cons (se_var 0) (sa_cons se_int sa_nil))) (se_var 1)))) (fun _ _ _ _ => (se_var 2))) sa_nil))))) (sb_cons (s_expr (se_append (se_var 6) (se_cln (se_tuple rfl z_tuple (sa_cons (se_sorted rfl rfl z_sorted (sa_cons (se_comp (N' := ["_law_pool_here", "_law_name"]) (cap := [some 0, none]) rfl (cs_mk (by first | rfl | kernel_rfl!)) (si_list (se_var 1)) (fun _ _ _ _ => (sgk_name 1 (show (["_law_pool_here", "_law_name"] : List Str).Nodup by decide +kernel))) (fun _ _ _ _ => (scs_one (sc_c co_eq (se_call F__law_draw (hr.mono (by decide)) rfl (sa_cons (se_var 0) (sa_cons se_int sa_nil))) se_int))) (fun _ _ _ _ => (se_var 1))) sa_nil)) sa_nil))))) sb_nil))) (sb_cons (s_ret (se_tup (sa_cons (se_tuple rfl z_tuple (sa_cons (se_var 5) sa_nil)) (sa_cons (se_tuple rfl z_tuple (sa_cons (se_var 6) sa_nil)) sa_nil)))) sb_nil)))))))
noncomputable def b__law_odd : G → M Out :=
  (bCons (sAsg (eLst (aCons (fun _ => pure .non) (aCons (fun _ => pure (.bl true)) (aCons (fun _ => pure (.bl false)) (aCons (fun _ => pure (.str "a")) (aCons (fun _ => pure (.str "")) (aCons (eNeg (fun _ => pure (.int 1))) (aCons (fun _ => pure (.int 40)) (aCons (e2 fAdd (e2 fPow (fun _ => pure (.int 10)) (fun _ => pure (.int 21))) (fun _ => pure (.int 3))) (aCons (eTup aNil) (aCons (eLst aNil) (aCons (eTup (aCons (fun _ => pure (.int 0)) aNil)) (aCons (eLst (aCons (fun _ => pure (.int 0)) aNil)) (aCons (fun _ => newK []) (aCons (fun _ => pure (.str "Aa")) (aCons (fun _ => pure (.str "no")) (aCons (fun _ => pure (.str "abcdefghi")) aNil))))))))))))))))) (gN 1)) (bCons (sAsg (e2 fAdd (eVar 1) (eLst (aCons (eTup (aCons (fun _ => pure (.str "a")) aNil)) (aCons (fun _ => pure (.int 0)) (aCons (fun _ => pure (.int 1)) (aCons (fun _ => pure (.str "b c")) (aCons (eTup (aCons (fun _ => pure (.int 0)) (aCons (fun _ => pure (.int 0)) aNil))) (aCons (eDisp1 (fun _ => pure (.str "a")) (fun _ => pure (.int 1))) (aCons (fun _ => pure (.str "z")) aNil))))))))) (gN 1)) (bCons (sRet (e2 fIx (eVar 1) (eFn 2 m__law_draw (aCons (eVar 0) (aCons (fun _ => pure (.int 23)) aNil))))) bNil)))
noncomputable def m__law_odd : List D → M D := fun ds => cln (runF 2 b__law_odd ds)
theorem sc__law_odd : FnScope ["_law_pool_here", "_law_some"] ["_law_pool_here"] (defScope (top 14)) := ⟨rfl, rfl, rfl, by decide +kernel, rfl, by decide +kernel, by decide +kernel⟩
theorem ok__law_odd {P : Program} {w : World} {K : PySem.W.Frag} {mg : Str → Option Value} {base : Heap} (T : DefAt K "_law_odd" (top 14)) (mx : ∀ v, PySem.W.nsIn K mainGlobals "_law_odd" = some (some v) → mg "_law_odd" = some v) (F__law_draw : Fn P w K mg base 1 "_law_draw" 2 m__law_draw) : Fn P w K mg base 2 "_law_odd" 1 m__law_odd := by
  obtain ⟨f, fd, hf, F⟩ := T
  have hb : Binds K fd ["_law_pool_here"] [] := F.binds fun _ _ _ _ _ _ us hl => (by obtain ⟨_, rfl⟩ := ar1 hl; rfl)
  exact Fn.cln <| fn_mkC F sc__law_odd hb (mx _ hf) rfl fun cdv A outer s H E hcd hr => (show SB (cxOf CX0 P w K mg base ["_law_pool_here", "_law_some"] "_law_odd" (defScope (top 14)) f cdv A outer s H E).nox EX0 (defBody (top 14)) b__law_odd from
    have nd : (["_law_pool_here", "_law_some"] : List Str).Nodup := sc__law_odd.nd
    (sb_cons (s_set 1 nd (se_lst (sa_cons se_non (sa_cons se_bl (sa_cons se_bl (sa_cons se_str (sa_cons se_str (sa_cons (se_neg se_int) (sa_cons se_int (sa_cons (se_add (se_pow se_int se_int) se_int) (sa_cons (se_tup sa_nil) (sa_cons (se_lst sa_nil) (sa_cons (se_tup (sa_cons se_int sa_nil)) (sa_cons (se_lst (sa_cons se_int sa_nil)) (sa_cons se_dk0 (sa_cons se_str (sa_cons se_str (sa_cons se_str sa_nil)))))))))))))))))) (sb_cons (s_set 1 nd (se_add (se_var 1) (se_lst (sa_cons (se_tup (sa_cons se_str sa_nil)) (sa_cons se_int (sa_cons se_int (sa_cons se_str (sa_cons (se_tup (sa_cons se_int (sa_cons se_int sa_nil))) (sa_cons (se_disp1 se_str se_int) (sa_cons se_str sa_nil)))))))))) (sb_cons (s_ret (se_ix (se_var 1) (se_call F__law_draw (hr.mono (by decide)) rfl (sa_cons (se_var 0) (sa_cons se_int sa_nil))))) sb_nil))))
noncomputable def b__law_bent (mS : List D → M D) : G → M Out :=
  (bCons (sIf (cAnd (cVal (eIsi "tuple" (eVar 1))) (cAnd (fun γ => do let d ← e2 fGt (eCall fLen (aCons (eVar 1) aNil)) (fun _ => pure (.int 0)) γ; asB d) (cAnd (fun γ => do let d ← e2 fGt (eVar 2) (fun _ => pure (.int 0)) γ; asB d) (fun γ => do let d ← e2 fGt (eFn 2 m__law_draw (aCons (eVar 0) (aCons (fun _ => pure (.int 6)) aNil))) (fun _ => pure (.int 0)) γ; asB d)))) (bCons (sAsg (eFn 2 m__law_draw (aCons (eVar 0) (aCons (eCall fLen (aCons (eVar 1) aNil)) aNil))) (gN 3)) (bCons (sRet (e2 fAdd (e2 fAdd (eSlice (eVar 1) oNone (oSome (eVar 3))) (eTup (aCons (eFn 3 mS (aCons (eVar 0) (aCons (e2 fIx (eVar 1) (eVar 3)) (aCons (e2 fSub (eVar 2) (fun _ => pure (.int 1))) aNil)))) aNil))) (eSlice (eVar 1) (oSome (e2 fAdd (eVar 3) (fun _ => pure (.int 1)))) oNone))) bNil)) bNil) (bCons (sAsg (eFn 2 m__law_draw (aCons (eVar 0) (aCons (fun _ => pure (.int 3)) aNil))) (gN 4)) (bCons (sIf (cAnd (cVal (eIsi "tuple" (eVar 1))) (fun γ => do let d ← e2 fGt (eVar 4) (fun _ => pure (.int 0)) γ; asB d)) (bCons (sAsg (eFn 2 m__law_draw (aCons (eVar 0) (aCons (fun _ => pure (.int 6)) aNil))) (gN 5)) (bCons (sIf (fun γ => do let d ← e2 (fEq false) (eVar 5) (fun _ => pure (.int 0)) γ; asB d) (bCons (sRet (eCall fList (aCons (eVar 1) aNil))) bNil) bNil) (bCons (sIf (fun γ => do let d ← e2 (fEq false) (eVar 5) (fun _ => pure (.int 1)) γ; asB d) (bCons (sRet (e2 fAdd (eVar 1) (eTup (aCons (eFn 1 m__law_odd (aCons (eVar 0) aNil)) aNil)))) bNil) bNil) (bCons (sRet (e2 fIx (eLst (aCons (eSlice (eVar 1) oNone (oSome (eNeg (fun _ => pure (.int 1))))) (aCons (eRev (eVar 1) (eNeg (fun _ => pure (.int 1)))) (aCons (e2 fAdd (eVar 1) (eSlice (eVar 1) (oSome (eNeg (fun _ => pure (.int 1)))) oNone)) (aCons (eSlice (eVar 1) (oSome (fun _ => pure (.int 1))) oNone) aNil))))) (e2 fSub (eVar 5) (fun _ => pure (.int 2))))) bNil)))) bNil) (bCons (sIf (cAnd (cVal (eIsi "int" (eVar 1))) (cAnd (cNot (cVal (eIsi "bool" (eVar 1)))) (fun γ => do let d ← e2 fGt (eVar 4) (fun _ => pure (.int 0)) γ; asB d))) (bCons (sRet (e2 fAdd (eVar 1) (e2 fIx (eLst (aCons (fun _ => pure (.int 1)) (aCons (eNeg (fun _ => pure (.int 1))) (aCons (fun _ => pure (.int 2)) (aCons (e2 fSub (fun _ => pure (.int 0)) (eVar 1)) aNil))))) (eFn 2 m__law_draw (aCons (eVar 0) (aCons (fun _ => pure (.int 4)) aNil)))))) bNil) bNil) (bCons (sRet (eFn 1 m__law_odd (aCons (eVar 0) aNil))) bNil)))))
noncomputable def m__law_bent : Nat → List D → M D
  | 0 => fun _ => bad
  | k + 1 => runF 6 (b__law_bent (m__law_bent k))
theorem sc__law_bent : FnScope ["_law_pool_here", "_law_thing", "_law_deep", "_law_at", "_law_way", "_law_turn"] ["_law_pool_here", "_law_thing", "_law_deep"] (defScope (top 15)) := ⟨rfl, rfl, rfl, by decide +kernel, rfl, by decide +kernel, by decide +kernel⟩
theorem ok__law_bent {P : Program} {w : World} {K : PySem.W.Frag} {mg : Str → Option Value} {base : Heap} (T : DefAt K "_law_bent" (top 15)) (mx : ∀ v, PySem.W.nsIn K mainGlobals "_law_bent" = some (some v) → mg "_law_bent" = some v) (z_bool : mg "bool" = none) (z_int : mg "int" = none) (z_isinstance : mg "isinstance" = none) (z_len : mg "len" = none) (z_list : mg "list" = none) (z_tuple : mg "tuple" = none) (F__law_draw : Fn P w K mg base 1 "_law_draw" 2 m__law_draw) (F__law_odd : Fn P w K mg base 2 "_law_odd" 1 m__law_odd) : ∀ k : Nat, Fn P w K mg base (3 + k) "_law_bent" 3 (m__law_bent k) := by
  obtain ⟨f, fd, hf, F⟩ := T
  have hb : Binds K fd ["_law_pool_here", "_law_thing", "_law_deep"] [] := F.binds fun _ _ _ _ _ _ us hl => (by obtain ⟨_, _, _, rfl⟩ := ar3 hl; rfl)
  intro k
  induction k with
  | zero => exact fn_zero F hb (mx _ hf) rfl
  | succ k F_self =>
    exact fn_mkC (k := 3 + k) F sc__law_bent hb (mx _ hf) rfl fun cdv A outer s H E hcd hr => (show SB (cxOf CX0 P w K mg base ["_law_pool_here", "_law_thing", "_law_deep", "_law_at", "_law_way", "_law_turn"] "_law_bent" (defScope (top 15)) f cdv A outer s H E).nox EX0 (defBody (top 15)) (b__law_bent (m__law_bent k)) from
      have nd : (["_law_pool_here", "_law_thing", "_law_deep", "_law_at", "_law_way", "_law_turn"] : List Str).Nodup := sc__law_bent.nd
      (sb_cons (s_if (SW.sc (sw_and (sc_val (se_isi rfl z_isinstance rfl z_tuple (by decide +kernel) (by decide) (se_var 1))) (sw_and (sc_c co_gt (se_len rfl z_len (sa_cons (se_var 1) sa_nil)) se_int) (sw_and (sc_c co_gt (se_var 2) se_int) (sw_and1 (sc_c co_gt (se_call F__law_draw (hr.mono (by omega)) rfl (sa_cons (se_var 0) (sa_cons se_int sa_nil))) se_int)))))) (sb_cons (s_set 3 nd (se_call F__law_draw (hr.mono (by omega)) rfl (sa_cons (se_var 0) (sa_cons (se_len rfl z_len (sa_cons (se_var 1) sa_nil)) sa_nil)))) (sb_cons (s_ret (se_add (se_add (se_slice (se_var 1) so_none (so_some (se_var 3))) (se_tup (sa_cons (se_call F_self (hr.mono (by omega)) rfl (sa_cons (se_var 0) (sa_cons (se_ix (se_var 1) (se_var 3)) (sa_cons (se_sub (se_var 2) se_int) sa_nil)))) sa_nil))) (se_slice (se_var 1) (so_some (se_add (se_var 3) se_int)) so_none))) sb_nil)) sb_nil) (sb_cons (s_set 4 nd (se_call F__law_draw (hr.mono (by omega)) rfl (sa_cons (se_var 0) (sa_cons se_int sa_nil)))) (sb_cons (s_if (SW.sc (sw_and (sc_val (se_isi rfl z_isinstance rfl z_tuple (by decide +kernel) (by decide) (se_var 1))) (sw_and1 (sc_c co_gt (se_var 4) se_int)))) (sb_cons (s_set 5 nd (se_call F__law_draw (hr.mono (by omega)) rfl (sa_cons (se_var 0) (sa_cons se_int sa_nil)))) (sb_cons (s_if (sc_c co_eq (se_var 5) se_int) (sb_cons (s_ret (se_list rfl z_list (sa_cons (se_var 1) sa_nil))) sb_nil) sb_nil) (sb_cons (s_if (sc_c co_eq (se_var 5) se_int) (sb_cons (s_ret (se_add (se_var 1) (se_tup (sa_cons (se_call F__law_odd (hr.mono (by omega)) rfl (sa_cons (se_var 0) sa_nil)) sa_nil)))) sb_nil) sb_nil) (sb_cons (s_ret (se_ix (se_lst (sa_cons (se_slice (se_var 1) so_none (so_some (se_neg se_int))) (sa_cons (se_rev (se_var 1) (se_neg se_int)) (sa_cons (se_add (se_var 1) (se_slice (se_var 1) (so_some (se_neg se_int)) so_none)) (sa_cons (se_slice (se_var 1) (so_some se_int) so_none) sa_nil))))) (se_sub (se_var 5) se_int))) sb_nil)))) sb_nil) (sb_cons (s_if (SW.sc (sw_and (sc_val (se_isi rfl z_isinstance rfl z_int (by decide +kernel) (by decide) (se_var 1))) (sw_and (sc_not (sc_val (se_isi rfl z_isinstance rfl z_bool (by decide +kernel) (by decide) (se_var 1)))) (sw_and1 (sc_c co_gt (se_var 4) se_int))))) (sb_cons (s_ret (se_add (se_var 1) (se_ix (se_lst (sa_cons se_int (sa_cons (se_neg se_int) (sa_cons se_int (sa_cons (se_sub se_int (se_var 1)) sa_nil))))) (se_call F__law_draw (hr.mono (by omega)) rfl (sa_cons (se_var 0) (sa_cons se_int sa_nil)))))) sb_nil) sb_nil) (sb_cons (s_ret (se_call F__law_odd (hr.mono (by omega)) rfl (sa_cons (se_var 0) sa_nil))) sb_nil))))))
noncomputable def b__law_number : G → M Out :=
  (bCons (sRet (eAnd (eIsi "int" (eVar 0)) (eAnd (eNot (eIsi "bool" (eVar 0))) (e3 fLe fLt (eVar 1) (eVar 0) (eVar 2))))) bNil)
noncomputable def m__law_number : List D → M D := fun ds => cln (runF 3 b__law_number ds)
theorem sc__law_number : FnScope ["_law_thing", "_law_low", "_law_high"] ["_law_thing", "_law_low", "_law_high"] (defScope (top 16)) := ⟨rfl, rfl, rfl, by decide +kernel, rfl, by decide +kernel, by decide +kernel⟩
theorem ok__law_number {P : Program} {w : World} {K : PySem.W.Frag} {mg : Str → Option Value} {base : Heap} (T : DefAt K "_law_number" (top 16)) (mx : ∀ v, PySem.W.nsIn K mainGlobals "_law_number" = some (some v) → mg "_law_number" = some v) (z_bool : mg "bool" = none) (z_int : mg "int" = none) (z_isinstance : mg "isinstance" = none) : Fn P w K mg base 1 "_law_number" 3 m__law_number := by
  obtain ⟨f, fd, hf, F⟩ := T
  have hb : Binds K fd ["_law_thing", "_law_low", "_law_high"] [] := F.binds fun _ _ _ _ _ _ us hl => (by obtain ⟨_, _, _, rfl⟩ := ar3 hl; rfl)
  exact Fn.cln <| fn_mkC F sc__law_number hb (mx _ hf) rfl fun cdv A outer s H E hcd hr => (show SB (cxOf CX0 P w K mg base ["_law_thing", "_law_low", "_law_high"] "_law_number" (defScope (top 16)) f cdv A outer s H E).nox EX0 (defBody (top 16)) b__law_number from
    have nd : (["_law_thing", "_law_low", "_law_high"] : List Str).Nodup := sc__law_number.nd
    (sb_cons (s_ret (se_band (se_isi rfl z_isinstance rfl z_int (by decide +kernel) (by decide) (se_var 0)) (se_band (se_bnot (se_isi rfl z_isinstance rfl z_bool (by decide +kernel) (by decide) (se_var 0))) (se_one (se_c2 co_le co_lt (se_var 1) (se_var 0) (se_var 2)))))) sb_nil))
noncomputable def b__law_tuple : G → M Out :=
  (bCons (sRet (eAnd (eIsi "tuple" (eVar 0)) (e3 fLe fLe (eVar 1) (eCall fLen (aCons (eVar 0) aNil)) (eVar 2)))) bNil)
noncomputable def m__law_tuple : List D → M D := fun ds => cln (runF 3 b__law_tuple ds)
theorem sc__law_tuple : FnScope ["_law_thing", "_law_least", "_law_most"] ["_law_thing", "_law_least", "_law_most"] (defScope (top 17)) := ⟨rfl, rfl, rfl, by decide +kernel, rfl, by decide +kernel, by decide +kernel⟩
theorem ok__law_tuple {P : Program} {w : World} {K : PySem.W.Frag} {mg : Str → Option Value} {base : Heap} (T : DefAt K "_law_tuple" (top 17)) (mx : ∀ v, PySem.W.nsIn K mainGlobals "_law_tuple" = some (some v) → mg "_law_tuple" = some v) (z_isinstance : mg "isinstance" = none) (z_len : mg "len" = none) (z_tuple : mg "tuple" = none) : Fn P w K mg base 1 "_law_tuple" 3 m__law_tuple := by
  obtain ⟨f, fd, hf, F⟩ := T
  have hb : Binds K fd ["_law_thing", "_law_least", "_law_most"] [] := F.binds fun _ _ _ _ _ _ us hl => (by obtain ⟨_, _, _, rfl⟩ := ar3 hl; rfl)
  exact Fn.cln <| fn_mkC F sc__law_tuple hb (mx _ hf) rfl fun cdv A outer s H E hcd hr => (show SB (cxOf CX0 P w K mg base ["_law_thing", "_law_least", "_law_most"] "_law_tuple" (defScope (top 17)) f cdv A outer s H E).nox EX0 (defBody (top 17)) b__law_tuple from
    have nd : (["_law_thing", "_law_least", "_law_most"] : List Str).Nodup := sc__law_tuple.nd
    (sb_cons (s_ret (se_band (se_isi rfl z_isinstance rfl z_tuple (by decide +kernel) (by decide) (se_var 0)) (se_one (se_c2 co_le co_le (se_var 1) (se_len rfl z_len (sa_cons (se_var 0) sa_nil)) (se_var 2))))) sb_nil))
noncomputable def b__law_great_machine : G → M Out :=
  (bCons (sAsg (e2 fAdd (fun _ => pure (.int 1)) (eFn 2 m__law_draw (aCons (eVar 0) (aCons (fun _ => pure (.int 40)) aNil)))) (gN 2)) (bCons (sIf (fun γ => do let d ← e2 (fEq false) (eFn 2 m__law_draw (aCons (eVar 0) (aCons (fun _ => pure (.int 4)) aNil))) (fun _ => pure (.int 0)) γ; asB d) (bCons (sAsg (fun _ => pure (.int 40)) (gN 2)) bNil) bNil) (bCons (sAsg (eFn 2 m__law_draw (aCons (eVar 0) (aCons (fun _ => pure (.int 3)) aNil))) (gN 3)) (bCons (sAsg (eLst aNil) (gN 4)) (bCons (sAsg (eLst aNil) (gN 5)) (bCons (sFor (iRange (eVar 2)) (gN 6) (bCons (sAsg (eLst (aCons (eFn 2 m__law_draw (aCons (eVar 0) (aCons (fun _ => pure (.int 1048576)) aNil))) (aCons (eFn 2 m__law_draw (aCons (eVar 0) (aCons (fun _ => pure (.int 1048576)) aNil))) aNil))) (gN 7)) (bCons (sIf (fun γ => do let d ← e2 fGt (eVar 3) (fun _ => pure (.int 0)) γ; asB d) (bCons (sAsg (eLst (aCons (e2 fAnd (e2 fIx (eVar 7) (fun _ => pure (.int 0))) (eFn 2 m__law_draw (aCons (eVar 0) (aCons (fun _ => pure (.int 1048576)) aNil)))) (aCons (e2 fAnd (e2 fIx (eVar 7) (fun _ => pure (.int 1))) (eFn 2 m__law_draw (aCons (eVar 0) (aCons (fun _ => pure (.int 1048576)) aNil)))) aNil))) (gN 7)) bNil) bNil) (bCons (sExpr (eM1 fAppend (eVar 4) (clE (eCall fTuple (aCons (eComp [some 7, none] (iRange (eVar 2)) (gN 1) (fun γ => do let d ← e2 (fEq false) (e2 fAnd (e2 fShr (e2 fIx (eVar 0) (e2 fDiv (eVar 1) (fun _ => pure (.int 20)))) (e2 fMod (eVar 1) (fun _ => pure (.int 20)))) (fun _ => pure (.int 1))) (fun _ => pure (.int 1)) γ; asB d) (eVar 1)) aNil))))) (bCons (sAsg (eFn 2 m__law_draw (aCons (eVar 0) (aCons (fun _ => pure (.int 256)) aNil))) (gN 8)) (bCons (sExpr (eM1 fAppend (eVar 5) (clE (eCall fTuple (aCons (eCall fSorted (aCons (eComp [some 1, some 8, none] (iRange (eCall fLen (aCons (eVar 1) aNil))) (gN 2) (fun γ => do let d ← e2 (fEq false) (e2 fAnd (e2 fShr (eVar 1) (eVar 2)) (fun _ => pure (.int 1))) (fun _ => pure (.int 1)) γ; asB d) (e2 fIx (eVar 0) (eVar 2))) aNil)) aNil))))) bNil)))))) (bCons (sRet (eTup (aCons (eCall fTuple (aCons (eVar 4) aNil)) (aCons (eCall fTuple (aCons (eVar 5) aNil)) aNil)))) bNil)))))))
noncomputable def m__law_great_machine : List D → M D := fun ds => cln (runF 9 b__law_great_machine ds)
theorem sc__law_great_machine : FnScope ["_law_pool_here", "_law_names", "_law_many", "_law_dense", "_law_steps", "_law_marks", "_law_k", "_law_bits", "_law_worn"] ["_law_pool_here", "_law_names"] (defScope (top 18)) := ⟨rfl, rfl, rfl, by decide +kernel, rfl, by decide +kernel, by decide +kernel⟩
theorem ok__law_great_machine {P : Program} {w : World} {K : PySem.W.Frag} {mg : Str → Option Value} {base : Heap} (T : DefAt K "_law_great_machine" (top 18)) (mx : ∀ v, PySem.W.nsIn K mainGlobals "_law_great_machine" = some (some v) → mg "_law_great_machine" = some v) (z_len : mg "len" = none) (z_range : mg "range" = none) (z_sorted : mg "sorted" = none) (z_tuple : mg "tuple" = none) (F__law_draw : Fn P w K mg base 1 "_law_draw" 2 m__law_draw) : Fn P w K mg base 2 "_law_great_machine" 2 m__law_great_machine := by
  obtain ⟨f, fd, hf, F⟩ := T
  have hb : Binds K fd ["_law_pool_here", "_law_names"] [] := F.binds fun _ _ _ _ _ _ us hl => (by obtain ⟨_, _, rfl⟩ := ar2 hl; rfl)
  exact Fn.cln <| fn_mkC F sc__law_great_machine hb (mx _ hf) rfl fun cdv A outer s H E hcd hr => (show SB (cxOf CX0 P w K mg base ["_law_pool_here", "_law_names", "_law_many", "_law_dense", "_law_steps", "_law_marks", "_law_k", "_law_bits", "_law_worn"] "_law_great_machine" (defScope (top 18)) f cdv A outer s H E).nox EX0 (defBody (top 18)) b__law_great_machine from
    have nd : (["_law_pool_here", "_law_names", "_law_many", "_law_dense", "_law_steps", "_law_marks", "_law_k", "_law_bits", "_law_worn"] : List Str).Nodup := sc__law_great_machine.nd
    (sb_cons (s_set 2 nd (se_add se_int (se_call F__law_draw (hr.mono (by decide)) rfl (sa_cons (se_var 0) (sa_cons se_int sa_nil))))) (sb_cons (s_if (sc_c co_eq (se_call F__law_draw (hr.mono (by decide)) rfl (sa_cons (se_var 0) (sa_cons se_int sa_nil))) se_int) (sb_cons (s_set 2 nd se_int) sb_nil) sb_nil) (sb_cons (s_set 3 nd (se_call F__law_draw (hr.mono (by decide)) rfl (sa_cons (se_var 0) (sa_cons se_int sa_nil)))) (sb_cons (s_set 4 nd (se_lst sa_nil)) (sb_cons (s_set 5 nd (se_lst sa_nil)) (sb_cons (s_for PassesOwn.never rfl (si_range rfl z_range (se_var 2)) (sg_name 6 nd) (sb_cons (s_set 7 nd (se_lst (sa_cons (se_call F__law_draw (hr.mono (by decide)) rfl (sa_cons (se_var 0) (sa_cons se_int sa_nil))) (sa_cons (se_call F__law_draw (hr.mono (by decide)) rfl (sa_cons (se_var 0) (sa_cons se_int sa_nil))) sa_nil)))) (sb_cons (s_if (sc_c co_gt (se_var 3) se_int) (sb_cons (s_set 7 nd (se_lst (sa_cons (se_and (se_ix (se_var 7) se_int) (se_call F__law_draw (hr.mono (by decide)) rfl (sa_cons (se_var 0) (sa_cons se_int sa_nil)))) (sa_cons (se_and (se_ix (se_var 7) se_int) (se_call F__law_draw (hr.mono (by decide)) rfl (sa_cons (se_var 0) (sa_cons se_int sa_nil)))) sa_nil)))) sb_nil) sb_nil) (sb_cons (s_expr (se_append (se_var 4) (se_cln (se_tuple rfl z_tuple (sa_cons (se_comp (N' := ["_law_bits", "_law_to"]) (cap := [some 7, none]) rfl (cs_mk (by first | rfl | kernel_rfl!)) (si_range rfl z_range (se_var 2)) (fun _ _ _ _ => (sgk_name 1 (show (["_law_bits", "_law_to"] : List Str).Nodup by decide +kernel))) (fun _ _ _ _ => (scs_one (sc_c co_eq (se_and (se_shr (se_ix (se_var 0) (se_div (se_var 1) se_int)) (se_mod (se_var 1) se_int)) se_int) se_int))) (fun _ _ _ _ => (se_var 1))) sa_nil))))) (sb_cons (s_set 8 nd (se_call F__law_draw (hr.mono (by decide)) rfl (sa_cons (se_var 0) (sa_cons se_int sa_nil)))) (sb_cons (s_expr (se_append (se_var 5) (se_cln (se_tuple rfl z_tuple (sa_cons (se_sorted rfl rfl z_sorted (sa_cons (se_comp (N' := ["_law_names", "_law_worn", "_law_j"]) (cap := [some 1, some 8, none]) rfl (cs_mk (by first | rfl | kernel_rfl!)) (si_range rfl z_range (se_len rfl z_len (sa_cons (se_var 1) sa_nil))) (fun _ _ _ _ => (sgk_name 2 (show (["_law_names", "_law_worn", "_law_j"] : List Str).Nodup by decide +kernel))) (fun _ _ _ _ => (scs_one (sc_c co_eq (se_and (se_shr (se_var 1) (se_var 2)) se_int) se_int))) (fun _ _ _ _ => (se_ix (se_var 0) (se_var 2)))) sa_nil)) sa_nil))))) sb_nil)))))) (sb_cons (s_ret (se_tup (sa_cons (se_tuple rfl z_tuple (sa_cons (se_var 4) sa_nil)) (sa_cons (se_tuple rfl z_tuple (sa_cons (se_var 5) sa_nil)) sa_nil)))) sb_nil))))))))
noncomputable def b__law_truth : G → M Out :=
  (bCons (sRet (eAnd (eIsi "bool" (eVar 0)) (e2 (fEqX false) (eVar 0) (eVar 1)))) bNil)
noncomputable def m__law_truth : List D → M D := fun ds => cln (runF 2 b__law_truth ds)
theorem sc__law_truth : FnScope ["_law_found", "_law_due"] ["_law_found", "_law_due"] (defScope (top 19)) := ⟨rfl, rfl, rfl, by decide +kernel, rfl, by decide +kernel, by decide +kernel⟩
theorem ok__law_truth {P : Program} {w : World} {K : PySem.W.Frag} {mg : Str → Option Value} {base : Heap} (T : DefAt K "_law_truth" (top 19)) (mx : ∀ v, PySem.W.nsIn K mainGlobals "_law_truth" = some (some v) → mg "_law_truth" = some v) (z_bool : mg "bool" = none) (z_isinstance : mg "isinstance" = none) : Fn P w K mg base 1 "_law_truth" 2 m__law_truth := by
  obtain ⟨f, fd, hf, F⟩ := T
  have hb : Binds K fd ["_law_found", "_law_due"] [] := F.binds fun _ _ _ _ _ _ us hl => (by obtain ⟨_, _, rfl⟩ := ar2 hl; rfl)
  exact Fn.cln <| fn_mkC F sc__law_truth hb (mx _ hf) rfl fun cdv A outer s H E hcd hr => (show SB (cxOf CX0 P w K mg base ["_law_found", "_law_due"] "_law_truth" (defScope (top 19)) f cdv A outer s H E).nox EX0 (defBody (top 19)) b__law_truth from
    have nd : (["_law_found", "_law_due"] : List Str).Nodup := sc__law_truth.nd
    (sb_cons (s_ret (se_band (se_isi rfl z_isinstance rfl z_bool (by decide +kernel) (by decide) (se_var 0)) (se_one (se_c (co_eqX (hu30 hr)) (se_var 0) (se_var 1))))) sb_nil))
noncomputable def b__law_walk : G → M Out :=
  (bCons (sAsg (eLst (aCons (eVar 2) aNil)) (gN 4)) (bCons (sFor (iRange (eVar 3)) (gN 5) (bCons (sAsg (e2 fIx (e2 fIx (eVar 1) (fun _ => pure (.int 0))) (e2 fIx (eVar 4) (eNeg (fun _ => pure (.int 1))))) (gN 6)) (bCons (sIf (fun γ => do let d ← e2 fGt (eCall fLen (aCons (eVar 6) aNil)) (fun _ => pure (.int 0)) γ; asB d) (bCons (sExpr (eM1 fAppend (eVar 4) (e2 fIx (eVar 6) (eFn 2 m__law_draw (aCons (eVar 0) (aCons (eCall fLen (aCons (eVar 6) aNil)) aNil)))))) bNil) bNil) bNil))) (bCons (sRet (eVar 4)) bNil)))
noncomputable def m__law_walk : List D → M D := fun ds => cln (runF 7 b__law_walk ds)
theorem sc__law_walk : FnScope ["_law_pool_here", "_law_machine_here", "_law_one", "_law_many", "_law_trail", "_law_k", "_law_ahead"] ["_law_pool_here", "_law_machine_here", "_law_one", "_law_many"] (defScope (top 20)) := ⟨rfl, rfl, rfl, by decide +kernel, rfl, by decide +kernel, by decide +kernel⟩
theorem ok__law_walk {P : Program} {w : World} {K : PySem.W.Frag} {mg : Str → Option Value} {base : Heap} (T : DefAt K "_law_walk" (top 20)) (mx : ∀ v, PySem.W.nsIn K mainGlobals "_law_walk" = some (some v) → mg "_law_walk" = some v) (z_len : mg "len" = none) (z_range : mg "range" = none) (F__law_draw : Fn P w K mg base 1 "_law_draw" 2 m__law_draw) : Fn P w K mg base 2 "_law_walk" 4 m__law_walk := by
  obtain ⟨f, fd, hf, F⟩ := T
  have hb : Binds K fd ["_law_pool_here", "_law_machine_here", "_law_one", "_law_many"] [] := F.binds fun _ _ _ _ _ _ us hl => (by obtain ⟨_, _, _, _, rfl⟩ := ar4 hl; rfl)
  exact Fn.cln <| fn_mkC F sc__law_walk hb (mx _ hf) rfl fun cdv A outer s H E hcd hr => (show SB (cxOf CX0 P w K mg base ["_law_pool_here", "_law_machine_here", "_law_one", "_law_many", "_law_trail", "_law_k", "_law_ahead"] "_law_walk" (defScope (top 20)) f cdv A outer s H E).nox EX0 (defBody (top 20)) b__law_walk from
    have nd : (["_law_pool_here", "_law_machine_here", "_law_one", "_law_many", "_law_trail", "_law_k", "_law_ahead"] : List Str).Nodup := sc__law_walk.nd
    (sb_cons (s_set 4 nd (se_lst (sa_cons (se_var 2) sa_nil))) (sb_cons (s_for PassesOwn.never rfl (si_range rfl z_range (se_var 3)) (sg_name 5 nd) (sb_cons (s_set 6 nd (se_ix (se_ix (se_var 1) se_int) (se_ix (se_var 4) (se_neg se_int)))) (sb_cons (s_if (sc_c co_gt (se_len rfl z_len (sa_cons (se_var 6) sa_nil)) se_int) (sb_cons (s_expr (se_append (se_var 4) (se_ix (se_var 6) (se_call F__law_draw (hr.mono (by decide)) rfl (sa_cons (se_var 0) (sa_cons (se_len rfl z_len (sa_cons (se_var 6) sa_nil)) sa_nil)))))) sb_nil) sb_nil) sb_nil))) (sb_cons (s_ret (se_var 4)) sb_nil))))
noncomputable def b__law_closed : G → M Out :=
  (bCons (sAsg (eFn 4 m__law_walk (aCons (eVar 0) (aCons (eVar 1) (aCons (eVar 2) (aCons (eVar 3) aNil))))) (gN 4)) (bCons (sComp' 5 [some 4, some 1, none] (iRange (eCall fLen (aCons (eVar 4) aNil))) (gN 2) (fun γ => do let d ← e2 (fIn false) (e2 fIx (eVar 0) (eVar 2)) (e2 fIx (e2 fIx (eVar 1) (fun _ => pure (.int 0))) (e2 fIx (eVar 0) (eNeg (fun _ => pure (.int 1))))) γ; asB d) (eVar 2)) (bCons (sIf (fun γ => do let d ← e2 (fEq false) (eCall fLen (aCons (eVar 5) aNil)) (fun _ => pure (.int 0)) γ; asB d) (bCons (sAsg (eLst (aCons (eFn 2 m__law_draw (aCons (eVar 0) (aCons (eCall fLen (aCons (eVar 4) aNil)) aNil))) aNil)) (gN 5)) bNil) bNil) (bCons (sAsg (e2 fIx (eVar 5) (eFn 2 m__law_draw (aCons (eVar 0) (aCons (eCall fLen (aCons (eVar 5) aNil)) aNil)))) (gN 6)) (bCons (sRet (eTup (aCons (eCall fTuple (aCons (eSlice (eVar 4) oNone (oSome (eVar 6))) aNil)) (aCons (eCall fTuple (aCons (eSlice (eVar 4) (oSome (eVar 6)) oNone) aNil)) aNil)))) bNil)))))
noncomputable def m__law_closed : List D → M D := fun ds => cln (runF 7 b__law_closed ds)
theorem sc__law_closed : FnScope ["_law_pool_here", "_law_machine_here", "_law_one", "_law_many", "_law_trail", "_law_places", "_law_cut"] ["_law_pool_here", "_law_machine_here", "_law_one", "_law_many"] (defScope (top 21)) := ⟨rfl, rfl, rfl, by decide +kernel, rfl, by decide +kernel, by decide +kernel⟩
theorem ok__law_closed {P : Program} {w : World} {K : PySem.W.Frag} {mg : Str → Option Value} {base : Heap} (T : DefAt K "_law_closed" (top 21)) (mx : ∀ v, PySem.W.nsIn K mainGlobals "_law_closed" = some (some v) → mg "_law_closed" = some v) (z_len : mg "len" = none) (z_range : mg "range" = none) (z_tuple : mg "tuple" = none) (F__law_draw : Fn P w K mg base 1 "_law_draw" 2 m__law_draw) (F__law_walk : Fn P w K mg base 2 "_law_walk" 4 m__law_walk) : Fn P w K mg base 3 "_law_closed" 4 m__law_closed := by
  obtain ⟨f, fd, hf, F⟩ := T
  have hb : Binds K fd ["_law_pool_here", "_law_machine_here", "_law_one", "_law_many"] [] := F.binds fun _ _ _ _ _ _ us hl => (by obtain ⟨_, _, _, _, rfl⟩ := ar4 hl; rfl)
  exact Fn.cln <| fn_mkC F sc__law_closed hb (mx _ hf) rfl fun cdv A outer s H E hcd hr => (show SB (cxOf CX0 P w K mg base ["_law_pool_here", "_law_machine_here", "_law_one", "_law_many", "_law_trail", "_law_places", "_law_cut"] "_law_closed" (defScope (top 21)) f cdv A outer s H E).nox EX0 (defBody (top 21)) b__law_closed from
    have nd : (["_law_pool_here", "_law_machine_here", "_law_one", "_law_many", "_law_trail", "_law_places", "_law_cut"] : List Str).Nodup := sc__law_closed.nd
    (sb_cons (s_set 4 nd (se_call F__law_walk (hr.mono (by decide)) rfl (sa_cons (se_var 0) (sa_cons (se_var 1) (sa_cons (se_var 2) (sa_cons (se_var 3) sa_nil)))))) (sb_cons (s_comp 5 (N' := ["_law_trail", "_law_machine_here", "_law_k"]) (cap := [some 4, some 1, none]) rfl (cs_mk (by first | rfl | kernel_rfl!)) (si_range rfl z_range (se_len rfl z_len (sa_cons (se_var 4) sa_nil))) (fun _ _ _ _ => (sgk_name 2 (show (["_law_trail", "_law_machine_here", "_law_k"] : List Str).Nodup by decide +kernel))) (fun _ _ _ _ => (scs_one (sc_c co_in (se_ix (se_var 0) (se_var 2)) (se_ix (se_ix (se_var 1) se_int) (se_ix (se_var 0) (se_neg se_int)))))) (fun _ _ _ _ => (se_var 2)) nd) (sb_cons (s_if (sc_c co_eq (se_len rfl z_len (sa_cons (se_var 5) sa_nil)) se_int) (sb_cons (s_set 5 nd (se_lst (sa_cons (se_call F__law_draw (hr.mono (by decide)) rfl (sa_cons (se_var 0) (sa_cons (se_len rfl z_len (sa_cons (se_var 4) sa_nil)) sa_nil))) sa_nil))) sb_nil) sb_nil) (sb_cons (s_set 6 nd (se_ix (se_var 5) (se_call F__law_draw (hr.mono (by decide)) rfl (sa_cons (se_var 0) (sa_cons (se_len rfl z_len (sa_cons (se_var 5) sa_nil)) sa_nil))))) (sb_cons (s_ret (se_tup (sa_cons (se_tuple rfl z_tuple (sa_cons (se_slice (se_var 4) so_none (so_some (se_var 6))) sa_nil)) (sa_cons (se_tuple rfl z_tuple (sa_cons (se_slice (se_var 4) (so_some (se_var 6)) so_none) sa_nil)) sa_nil)))) sb_nil))))))
noncomputable def b__law_unrolled : G → M Out :=
  (bCons (sAsg (eVar 0) (gT 2 (gConss (gN 3) (gConss (gN 4) gNils)))) (bCons (sAsg (e2 fSub (eVar 2) (e2 fMul2 (e2 fDiv (eVar 2) (eCall fLen (aCons (eVar 4) aNil))) (eCall fLen (aCons (eVar 4) aNil)))) (gN 5)) (bCons (sRet (eTup (aCons (e2 fAdd (eVar 3) (eSlice (e2 fMul2 (eVar 4) (e2 fAdd (e2 fDiv (eVar 2) (eCall fLen (aCons (eVar 4) aNil))) (fun _ => pure (.int 1)))) oNone (oSome (eVar 2)))) (aCons (e2 fMul2 (e2 fAdd (eSlice (eVar 4) (oSome (eVar 5)) oNone) (eSlice (eVar 4) oNone (oSome (eVar 5)))) (eVar 1)) aNil)))) bNil)))
noncomputable def m__law_unrolled : List D → M D := fun ds => cln (runF 6 b__law_unrolled ds)
theorem sc__law_unrolled : FnScope ["_law_run", "_law_laps", "_law_many", "_law_path", "_law_ring", "_law_turn"] ["_law_run", "_law_laps", "_law_many"] (defScope (top 22)) := ⟨rfl, rfl, rfl, by decide +kernel, rfl, by decide +kernel, by decide +kernel⟩
theorem ok__law_unrolled {P : Program} {w : World} {K : PySem.W.Frag} {mg : Str → Option Value} {base : Heap} (T : DefAt K "_law_unrolled" (top 22)) (mx : ∀ v, PySem.W.nsIn K mainGlobals "_law_unrolled" = some (some v) → mg "_law_unrolled" = some v) (z_len : mg "len" = none) : Fn P w K mg base 1 "_law_unrolled" 3 m__law_unrolled := by
  obtain ⟨f, fd, hf, F⟩ := T
  have hb : Binds K fd ["_law_run", "_law_laps", "_law_many"] [] := F.binds fun _ _ _ _ _ _ us hl => (by obtain ⟨_, _, _, rfl⟩ := ar3 hl; rfl)
  exact Fn.cln <| fn_mkC F sc__law_unrolled hb (mx _ hf) rfl fun cdv A outer s H E hcd hr => (show SB (cxOf CX0 P w K mg base ["_law_run", "_law_laps", "_law_many", "_law_path", "_law_ring", "_law_turn"] "_law_unrolled" (defScope (top 22)) f cdv A outer s H E).nox EX0 (defBody (top 22)) b__law_unrolled from
    have nd : (["_law_run", "_law_laps", "_law_many", "_law_path", "_law_ring", "_law_turn"] : List Str).Nodup := sc__law_unrolled.nd
    (sb_cons (s_asg (se_var 0) (sg_tup rfl (sgs_cons (sg_name 3 nd) (sgs_cons (sg_name 4 nd) sgs_nil)))) (sb_cons (s_set 5 nd (se_sub (se_var 2) (se_mul2 (se_div (se_var 2) (se_len rfl z_len (sa_cons (se_var 4) sa_nil))) (se_len rfl z_len (sa_cons (se_var 4) sa_nil))))) (sb_cons (s_ret (se_tup (sa_cons (se_add (se_var 3) (se_slice (se_mul2 (se_var 4) (se_add (se_div (se_var 2) (se_len rfl z_len (sa_cons (se_var 4) sa_nil))) se_int)) so_none (so_some (se_var 2)))) (sa_cons (se_mul2 (se_add (se_slice (se_var 4) (so_some (se_var 5)) so_none) (se_slice (se_var 4) so_none (so_some (se_var 5)))) (se_var 1)) sa_nil)))) sb_nil))))
noncomputable def b__law_pair : G → M Out :=
  (bCons (sIf (cOr (cNot (cVal (eFn 3 m__law_tuple (aCons (eVar 0) (aCons (fun _ => pure (.int 2)) (aCons (fun _ => pure (.int 2)) aNil)))))) (cOr (cNot (cVal (eFn 3 m__law_tuple (aCons (e2 fIx (eVar 0) (fun _ => pure (.int 0))) (aCons (fun _ => pure (.int 0)) (aCons (fun _ => pure (.int 400)) aNil)))))) (cNot (cVal (eFn 3 m__law_tuple (aCons (e2 fIx (eVar 0) (fun _ => pure (.int 1))) (aCons (fun _ => pure (.int 1)) (aCons (fun _ => pure (.int 400)) aNil)))))))) (bCons (sRet (fun _ => pure (.bl false))) bNil) bNil) (bCons (sIf (fun γ => do let d ← e2 fGt (e2 fAdd (eCall fLen (aCons (e2 fIx (eVar 0) (fun _ => pure (.int 0))) aNil)) (eCall fLen (aCons (e2 fIx (eVar 0) (fun _ => pure (.int 1))) aNil))) (fun _ => pure (.int 400)) γ; asB d) (bCons (sRet (fun _ => pure (.bl false))) bNil) bNil) (bCons (sFor (iSeqT (e2 fAdd (e2 fIx (eVar 0) (fun _ => pure (.int 0))) (e2 fIx (eVar 0) (fun _ => pure (.int 1))))) (gN 2) (bCons (sIf (cNot (cVal (eFn 3 m__law_number (aCons (eVar 2) (aCons (fun _ => pure (.int 0)) (aCons (eVar 1) aNil)))))) (bCons (sRet (fun _ => pure (.bl false))) bNil) bNil) bNil)) (bCons (sRet (fun _ => pure (.bl true))) bNil))))
noncomputable def m__law_pair : List D → M D := fun ds => cln (runF 3 b__law_pair ds)
theorem sc__law_pair : FnScope ["_law_thing", "_law_many", "_law_one"] ["_law_thing", "_law_many"] (defScope (top 23)) := ⟨rfl, rfl, rfl, by decide +kernel, rfl, by decide +kernel, by decide +kernel⟩
theorem ok__law_pair {P : Program} {w : World} {K : PySem.W.Frag} {mg : Str → Option Value} {base : Heap} (T : DefAt K "_law_pair" (top 23)) (mx : ∀ v, PySem.W.nsIn K mainGlobals "_law_pair" = some (some v) → mg "_law_pair" = some v) (z_len : mg "len" = none) (F__law_number : Fn P w K mg base 1 "_law_number" 3 m__law_number) (F__law_tuple : Fn P w K mg base 1 "_law_tuple" 3 m__law_tuple) : Fn P w K mg base 2 "_law_pair" 2 m__law_pair := by
  obtain ⟨f, fd, hf, F⟩ := T
  have hb : Binds K fd ["_law_thing", "_law_many"] [] := F.binds fun _ _ _ _ _ _ us hl => (by obtain ⟨_, _, rfl⟩ := ar2 hl; rfl)
  exact Fn.cln <| fn_mkC F sc__law_pair hb (mx _ hf) rfl fun cdv A outer s H E hcd hr => (show SB (cxOf CX0 P w K mg base ["_law_thing", "_law_many", "_law_one"] "_law_pair" (defScope (top 23)) f cdv A outer s H E).nox EX0 (defBody (top 23)) b__law_pair from
    have nd : (["_law_thing", "_law_many", "_law_one"] : List Str).Nodup := sc__law_pair.nd
    (sb_cons (s_if (SW.sc (sw_or (sc_not (sc_val (se_call F__law_tuple (hr.mono (by decide)) rfl (sa_cons (se_var 0) (sa_cons se_int (sa_cons se_int sa_nil)))))) (sw_or (sc_not (sc_val (se_call F__law_tuple (hr.mono (by decide)) rfl (sa_cons (se_ix (se_var 0) se_int) (sa_cons se_int (sa_cons se_int sa_nil)))))) (sw_or1 (sc_not (sc_val (se_call F__law_tuple (hr.mono (by decide)) rfl (sa_cons (se_ix (se_var 0) se_int) (sa_cons se_int (sa_cons se_int sa_nil)))))))))) (sb_cons (s_ret se_bl) sb_nil) sb_nil) (sb_cons (s_if (sc_c co_gt (se_add (se_len rfl z_len (sa_cons (se_ix (se_var 0) se_int) sa_nil)) (se_len rfl z_len (sa_cons (se_ix (se_var 0) se_int) sa_nil))) se_int) (sb_cons (s_ret se_bl) sb_nil) sb_nil) (sb_cons (s_for PassesOwn.never rfl (si_tup (se_add (se_ix (se_var 0) se_int) (se_ix (se_var 0) se_int))) (sg_name 2 nd) (sb_cons (s_if (sc_not (sc_val (se_call F__law_number (hr.mono (by decide)) rfl (sa_cons (se_var 2) (sa_cons se_int (sa_cons (se_var 1) sa_nil)))))) (sb_cons (s_ret se_bl) sb_nil) sb_nil) sb_nil)) (sb_cons (s_ret se_bl) sb_nil)))))
noncomputable def b__law_run_good : G → M Out :=
  (bCons (sIf (cNot (cVal (eFn 2 m__law_pair (aCons (eVar 1) (aCons (eCall fLen (aCons (e2 fIx (eVar 0) (fun _ => pure (.int 0))) aNil)) aNil))))) (bCons (sRet (fun _ => pure (.bl false))) bNil) bNil) (bCons (sAsg (e2 fAdd (e2 fAdd (e2 fIx (eVar 1) (fun _ => pure (.int 0))) (e2 fIx (eVar 1) (fun _ => pure (.int 1)))) (eSlice (e2 fIx (eVar 1) (fun _ => pure (.int 1))) oNone (oSome (fun _ => pure (.int 1))))) (gN 2)) (bCons (sFor (iRange (e2 fSub (eCall fLen (aCons (eVar 2) aNil)) (fun _ => pure (.int 1)))) (gN 3) (bCons (sIf (fun γ => do let d ← e2 (fIn true) (e2 fIx (eVar 2) (e2 fAdd (eVar 3) (fun _ => pure (.int 1)))) (e2 fIx (e2 fIx (eVar 0) (fun _ => pure (.int 0))) (e2 fIx (eVar 2) (eVar 3))) γ; asB d) (bCons (sRet (fun _ => pure (.bl false))) bNil) bNil) bNil)) (bCons (sRet (fun _ => pure (.bl true))) bNil))))
noncomputable def m__law_run_good : List D → M D := fun ds => cln (runF 4 b__law_run_good ds)
theorem sc__law_run_good : FnScope ["_law_machine_here", "_law_thing", "_law_trail", "_law_k"] ["_law_machine_here", "_law_thing"] (defScope (top 24)) := ⟨rfl, rfl, rfl, by decide +kernel, rfl, by decide +kernel, by decide +kernel⟩
theorem ok__law_run_good {P : Program} {w : World} {K : PySem.W.Frag} {mg : Str → Option Value} {base : Heap} (T : DefAt K "_law_run_good" (top 24)) (mx : ∀ v, PySem.W.nsIn K mainGlobals "_law_run_good" = some (some v) → mg "_law_run_good" = some v) (z_len : mg "len" = none) (z_range : mg "range" = none) (F__law_pair : Fn P w K mg base 2 "_law_pair" 2 m__law_pair) : Fn P w K mg base 3 "_law_run_good" 2 m__law_run_good := by
  obtain ⟨f, fd, hf, F⟩ := T
  have hb : Binds K fd ["_law_machine_here", "_law_thing"] [] := F.binds fun _ _ _ _ _ _ us hl => (by obtain ⟨_, _, rfl⟩ := ar2 hl; rfl)
  exact Fn.cln <| fn_mkC F sc__law_run_good hb (mx _ hf) rfl fun cdv A outer s H E hcd hr => (show SB (cxOf CX0 P w K mg base ["_law_machine_here", "_law_thing", "_law_trail", "_law_k"] "_law_run_good" (defScope (top 24)) f cdv A outer s H E).nox EX0 (defBody (top 24)) b__law_run_good from
    have nd : (["_law_machine_here", "_law_thing", "_law_trail", "_law_k"] : List Str).Nodup := sc__law_run_good.nd
    (sb_cons (s_if (sc_not (sc_val (se_call F__law_pair (hr.mono (by decide)) rfl (sa_cons (se_var 1) (sa_cons (se_len rfl z_len (sa_cons (se_ix (se_var 0) se_int) sa_nil)) sa_nil))))) (sb_cons (s_ret se_bl) sb_nil) sb_nil) (sb_cons (s_set 2 nd (se_add (se_add (se_ix (se_var 1) se_int) (se_ix (se_var 1) se_int)) (se_slice (se_ix (se_var 1) se_int) so_none (so_some se_int)))) (sb_cons (s_for PassesOwn.never rfl (si_range rfl z_range (se_sub (se_len rfl z_len (sa_cons (se_var 2) sa_nil)) se_int)) (sg_name 3 nd) (sb_cons (s_if (sc_c co_notin (se_ix (se_var 2) (se_add (se_var 3) se_int)) (se_ix (se_ix (se_var 0) se_int) (se_ix (se_var 2) (se_var 3)))) (sb_cons (s_ret se_bl) sb_nil) sb_nil) sb_nil)) (sb_cons (s_ret se_bl) sb_nil)))))
noncomputable def b__law_other : G → M Out :=
  (bCons (sAsg (eFn 2 m__law_draw (aCons (eVar 0) (aCons (e2 fAdd (eCall fLen (aCons (e2 fIx (eVar 1) (fun _ => pure (.int 0))) aNil)) (eCall fLen (aCons (e2 fIx (eVar 1) (fun _ => pure (.int 1))) aNil))) aNil))) (gN 3)) (bCons (sAsg (eFn 2 m__law_draw (aCons (eVar 0) (aCons (eVar 2) aNil))) (gN 4)) (bCons (sIf (fun γ => do let d ← e2 fLt (eVar 3) (eCall fLen (aCons (e2 fIx (eVar 1) (fun _ => pure (.int 0))) aNil)) γ; asB d) (bCons (sRet (eTup (aCons (e2 fAdd (e2 fAdd (eSlice (e2 fIx (eVar 1) (fun _ => pure (.int 0))) oNone (oSome (eVar 3))) (eTup (aCons (eVar 4) aNil))) (eSlice (e2 fIx (eVar 1) (fun _ => pure (.int 0))) (oSome (e2 fAdd (eVar 3) (fun _ => pure (.int 1)))) oNone)) (aCons (e2 fIx (eVar 1) (fun _ => pure (.int 1))) aNil)))) bNil) bNil) (bCons (sAsg (e2 fSub (eVar 3) (eCall fLen (aCons (e2 fIx (eVar 1) (fun _ => pure (.int 0))) aNil))) (gN 3)) (bCons (sRet (eTup (aCons (e2 fIx (eVar 1) (fun _ => pure (.int 0))) (aCons (e2 fAdd (e2 fAdd (eSlice (e2 fIx (eVar 1) (fun _ => pure (.int 1))) oNone (oSome (eVar 3))) (eTup (aCons (eVar 4) aNil))) (eSlice (e2 fIx (eVar 1) (fun _ => pure (.int 1))) (oSome (e2 fAdd (eVar 3) (fun _ => pure (.int 1)))) oNone)) aNil)))) bNil)))))
noncomputable def m__law_other : List D → M D := fun ds => cln (runF 5 b__law_other ds)
theorem sc__law_other : FnScope ["_law_pool_here", "_law_run", "_law_many", "_law_at", "_law_one"] ["_law_pool_here", "_law_run", "_law_many"] (defScope (top 25)) := ⟨rfl, rfl, rfl, by decide +kernel, rfl, by decide +kernel, by decide +kernel⟩
theorem ok__law_other {P : Program} {w : World} {K : PySem.W.Frag} {mg : Str → Option Value} {base : Heap} (T : DefAt K "_law_other" (top 25)) (mx : ∀ v, PySem.W.nsIn K mainGlobals "_law_other" = some (some v) → mg "_law_other" = some v) (z_len : mg "len" = none) (F__law_draw : Fn P w K mg base 1 "_law_draw" 2 m__law_draw) : Fn P w K mg base 2 "_law_other" 3 m__law_other := by
  obtain ⟨f, fd, hf, F⟩ := T
  have hb : Binds K fd ["_law_pool_here", "_law_run", "_law_many"] [] := F.binds fun _ _ _ _ _ _ us hl => (by obtain ⟨_, _, _, rfl⟩ := ar3 hl; rfl)
  exact Fn.cln <| fn_mkC F sc__law_other hb (mx _ hf) rfl fun cdv A outer s H E hcd hr => (show SB (cxOf CX0 P w K mg base ["_law_pool_here", "_law_run", "_law_many", "_law_at", "_law_one"] "_law_other" (defScope (top 25)) f cdv A outer s H E).nox EX0 (defBody (top 25)) b__law_other from
    have nd : (["_law_pool_here", "_law_run", "_law_many", "_law_at", "_law_one"] : List Str).Nodup := sc__law_other.nd
    (sb_cons (s_set 3 nd (se_call F__law_draw (hr.mono (by decide)) rfl (sa_cons (se_var 0) (sa_cons (se_add (se_len rfl z_len (sa_cons (se_ix (se_var 1) se_int) sa_nil)) (se_len rfl z_len (sa_cons (se_ix (se_var 1) se_int) sa_nil))) sa_nil)))) (sb_cons (s_set 4 nd (se_call F__law_draw (hr.mono (by decide)) rfl (sa_cons (se_var 0) (sa_cons (se_var 2) sa_nil)))) (sb_cons (s_if (sc_c co_lt (se_var 3) (se_len rfl z_len (sa_cons (se_ix (se_var 1) se_int) sa_nil))) (sb_cons (s_ret (se_tup (sa_cons (se_add (se_add (se_slice (se_ix (se_var 1) se_int) so_none (so_some (se_var 3))) (se_tup (sa_cons (se_var 4) sa_nil))) (se_slice (se_ix (se_var 1) se_int) (so_some (se_add (se_var 3) se_int)) so_none)) (sa_cons (se_ix (se_var 1) se_int) sa_nil)))) sb_nil) sb_nil) (sb_cons (s_set 3 nd (se_sub (se_var 3) (se_len rfl z_len (sa_cons (se_ix (se_var 1) se_int) sa_nil)))) (sb_cons (s_ret (se_tup (sa_cons (se_ix (se_var 1) se_int) (sa_cons (se_add (se_add (se_slice (se_ix (se_var 1) se_int) so_none (so_some (se_var 3))) (se_tup (sa_cons (se_var 4) sa_nil))) (se_slice (se_ix (se_var 1) se_int) (so_some (se_add (se_var 3) se_int)) so_none)) sa_nil)))) sb_nil))))))
noncomputable def b__law_long : G → M Out :=
  (bCons (sAsg (e2 fAdd (e2 fSub (e2 fSub (fun _ => pure (.int 400)) (eCall fLen (aCons (e2 fIx (eVar 1) (fun _ => pure (.int 0))) aNil))) (eCall fLen (aCons (e2 fIx (eVar 1) (fun _ => pure (.int 1))) aNil))) (eFn 2 m__law_draw (aCons (eVar 0) (aCons (fun _ => pure (.int 2)) aNil)))) (gN 2)) (bCons (sIf (fun γ => do let d ← e2 (fEq false) (eFn 2 m__law_draw (aCons (eVar 0) (aCons (fun _ => pure (.int 2)) aNil))) (fun _ => pure (.int 0)) γ; asB d) (bCons (sRet (eFn 3 m__law_unrolled (aCons (eVar 1) (aCons (fun _ => pure (.int 1)) (aCons (eVar 2) aNil))))) bNil) bNil) (bCons (sRet (eTup (aCons (e2 fIx (eVar 1) (fun _ => pure (.int 0))) (aCons (e2 fMul2 (e2 fIx (eVar 1) (fun _ => pure (.int 1))) (e2 fAdd (e2 fDiv (e2 fSub (fun _ => pure (.int 400)) (eCall fLen (aCons (e2 fIx (eVar 1) (fun _ => pure (.int 0))) aNil))) (eCall fLen (aCons (e2 fIx (eVar 1) (fun _ => pure (.int 1))) aNil))) (eFn 2 m__law_draw (aCons (eVar 0) (aCons (fun _ => pure (.int 2)) aNil))))) aNil)))) bNil)))
noncomputable def m__law_long : List D → M D := fun ds => cln (runF 3 b__law_long ds)
theorem sc__law_long : FnScope ["_law_pool_here", "_law_run", "_law_rest"] ["_law_pool_here", "_law_run"] (defScope (top 26)) := ⟨rfl, rfl, rfl, by decide +kernel, rfl, by decide +kernel, by decide +kernel⟩
theorem ok__law_long {P : Program} {w : World} {K : PySem.W.Frag} {mg : Str → Option Value} {base : Heap} (T : DefAt K "_law_long" (top 26)) (mx : ∀ v, PySem.W.nsIn K mainGlobals "_law_long" = some (some v) → mg "_law_long" = some v) (z_len : mg "len" = none) (F__law_draw : Fn P w K mg base 1 "_law_draw" 2 m__law_draw) (F__law_unrolled : Fn P w K mg base 1 "_law_unrolled" 3 m__law_unrolled) : Fn P w K mg base 2 "_law_long" 2 m__law_long := by
  obtain ⟨f, fd, hf, F⟩ := T
  have hb : Binds K fd ["_law_pool_here", "_law_run"] [] := F.binds fun _ _ _ _ _ _ us hl => (by obtain ⟨_, _, rfl⟩ := ar2 hl; rfl)
  exact Fn.cln <| fn_mkC F sc__law_long hb (mx _ hf) rfl fun cdv A outer s H E hcd hr => (show SB (cxOf CX0 P w K mg base ["_law_pool_here", "_law_run", "_law_rest"] "_law_long" (defScope (top 26)) f cdv A outer s H E).nox EX0 (defBody (top 26)) b__law_long from
    have nd : (["_law_pool_here", "_law_run", "_law_rest"] : List Str).Nodup := sc__law_long.nd
    (sb_cons (s_set 2 nd (se_add (se_sub (se_sub se_int (se_len rfl z_len (sa_cons (se_ix (se_var 1) se_int) sa_nil))) (se_len rfl z_len (sa_cons (se_ix (se_var 1) se_int) sa_nil))) (se_call F__law_draw (hr.mono (by decide)) rfl (sa_cons (se_var 0) (sa_cons se_int sa_nil))))) (sb_cons (s_if (sc_c co_eq (se_call F__law_draw (hr.mono (by decide)) rfl (sa_cons (se_var 0) (sa_cons se_int sa_nil))) se_int) (sb_cons (s_ret (se_call F__law_unrolled (hr.mono (by decide)) rfl (sa_cons (se_var 1) (sa_cons se_int (sa_cons (se_var 2) sa_nil))))) sb_nil) sb_nil) (sb_cons (s_ret (se_tup (sa_cons (se_ix (se_var 1) se_int) (sa_cons (se_mul2 (se_ix (se_var 1) se_int) (se_add (se_div (se_sub se_int (se_len rfl z_len (sa_cons (se_ix (se_var 1) se_int) sa_nil))) (se_len rfl z_len (sa_cons (se_ix (se_var 1) se_int) sa_nil))) (se_call F__law_draw (hr.mono (by decide)) rfl (sa_cons (se_var 0) (sa_cons se_int sa_nil))))) sa_nil)))) sb_nil))))
noncomputable def b_law : G → M Out :=
  (bCons (sAsg (eFn 1 m__law_pool (aCons (eVar 0) aNil)) (gN 1)) (bCons (sAsg (eFn 2 m__law_draw (aCons (eVar 1) (aCons (fun _ => pure (.int 7)) aNil))) (gN 2)) (bCons (sAsg (eFn 3 m__law_machine (aCons (eVar 1) (aCons (eLst aNil) (aCons (fun _ => pure (.int 7)) aNil)))) (gN 3)) (bCons (sIf (fun γ => do let d ← e2 (fEq false) (eVar 2) (fun _ => pure (.int 6)) γ; asB d) (bCons (sAsg (eFn 2 m__law_great_machine (aCons (eVar 1) (aCons (eLst aNil) aNil))) (gN 3)) bNil) bNil) (bCons (sAsg (eFn 4 m__law_closed (aCons (eVar 1) (aCons (eVar 3) (aCons (eFn 2 m__law_draw (aCons (eVar 1) (aCons (eCall fLen (aCons (e2 fIx (eVar 3) (fun _ => pure (.int 0))) aNil)) aNil))) (aCons (eFn 2 m__law_draw (aCons (eVar 1) (aCons (fun _ => pure (.int 12)) aNil))) aNil))))) (gN 4)) (bCons (sAsg (eVar 4) (gN 5)) (bCons (sIf (fun γ => do let d ← e2 (fEq false) (eVar 2) (fun _ => pure (.int 1)) γ; asB d) (bCons (sAsg (eFn 3 m__law_other (aCons (eVar 1) (aCons (eVar 4) (aCons (eCall fLen (aCons (e2 fIx (eVar 3) (fun _ => pure (.int 0))) aNil)) aNil)))) (gN 5)) bNil) bNil) (bCons (sIf (fun γ => do let d ← e2 (fEq false) (eVar 2) (fun _ => pure (.int 2)) γ; asB d) (bCons (sAsg (eFn 2 m__law_long (aCons (eVar 1) (aCons (eVar 4) aNil))) (gN 5)) bNil) bNil) (bCons (sIf (cAnd (fun γ => do let d ← e2 fGt (eVar 2) (fun _ => pure (.int 2)) γ; asB d) (fun γ => do let d ← e2 fLt (eVar 2) (fun _ => pure (.int 6)) γ; asB d)) (bCons (sAsg (eFn 3 (m__law_bent 5) (aCons (eVar 1) (aCons (eVar 4) (aCons (fun _ => pure (.int 3)) aNil)))) (gN 5)) bNil) bNil) (bCons (sIf (fun γ => do let d ← e2 (fEq false) (eVar 2) (fun _ => pure (.int 5)) γ; asB d) (bCons (sAsg (eFn 3 (m__law_bent 5) (aCons (eVar 1) (aCons (eVar 5) (aCons (fun _ => pure (.int 3)) aNil)))) (gN 5)) bNil) bNil) (bCons (sAsg (eCall fRepr (aCons (eVar 5) aNil)) (gN 6)) (bCons (sIf (cNot (cVal (eFn 2 m__law_truth (aCons (eFn 2 m_right_run (aCons (eVar 3) (aCons (eVar 5) aNil))) (aCons (eFn 2 m__law_run_good (aCons (eVar 3) (aCons (eVar 5) aNil))) aNil))))) (bCons (sRet (fun _ => pure (.bl false))) bNil) bNil) (bCons (sIf (fun γ => do let d ← e2 (fEqX true) (eCall fRepr (aCons (eVar 5) aNil)) (eVar 6) γ; asB d) (bCons (sRet (fun _ => pure (.bl false))) bNil) bNil) (bCons (sRet (eFn 2 m__law_truth (aCons (eFn 2 m_right_run (aCons (eVar 3) (aCons (eVar 4) aNil))) (aCons (eFn 2 m__law_run_good (aCons (eVar 3) (aCons (eVar 4) aNil))) aNil)))) bNil))))))))))))))
noncomputable def m_law : List D → M D := runF 7 b_law
theorem sc_law : FnScope ["_law_script", "_law_pool_here", "_law_choice", "_law_machine_here", "_law_run", "_law_thing", "_law_kept"] ["_law_script"] (defScope (top 27)) := ⟨rfl, rfl, rfl, by decide +kernel, rfl, by decide +kernel, by decide +kernel⟩
end FT
set_option maxHeartbeats 2000000
namespace FT
open PySem PySem.Spec PyProof.Rows L2
theorem draw1 (g0 : Int) (gr sm : List Int) (s c : Int) (r : AH) (n : Int) (hn : 0 < n) (hn2 : n < 1073741824) (hg : gr.length ≤ 63) :
    ∃ gr', gr'.length ≤ gr.length + 1 ∧ m__law_draw [.ref 2, .int n] (Pool (g0 :: gr) sm s c r) = .ok (.int (g0 % n)) (Pool gr' sm s c r) := by
  unfold m__law_draw runF b__law_draw Pool startG
  have hl : gr.length ≤ sizeLine := Nat.le_trans hg (by decide)
  by_cases h0 : g0 / n = 0
  · refine ⟨gr, by omega, ?_⟩
    simp [bCons, bNil, sIf, sAsg, sRet, sExpr, e2, eCall, aCons, aNil, eVar, fIx, seqD, getL, fLen, fGt, fCmp, fI, asB, gIx, gN, fSet, fDiv, fIC, eM1, asRef, fPopAt, updL, fEq, eqD, fMod, atI, ixN, hn, hn2, h0, seqIndex?, hl]
  · refine ⟨g0 / n :: gr, by simp, ?_⟩
    simp [bCons, bNil, sIf, sAsg, sRet, sExpr, e2, eCall, aCons, aNil, eVar, fIx, seqD, getL, fLen, fGt, fCmp, fI, asB, gIx, gN, fSet, fDiv, fIC, eM1, asRef, fPopAt, updL, fEq, eqD, fMod, atI, ixN, hn, hn2, h0]
theorem draw2 (sm : List Int) (s c : Int) (r : AH) (n : Int) (hn : 0 < n) (hn2 : n < 1073741824) (hs : 0 ≤ s) (hs2 : s < 2147483647) (hc : 0 ≤ c) (hc2 : c < 1000000) (hm : sm.length ≤ 63) :
    ∃ s' d, m__law_draw [.ref 2, .int n] (Pool [] sm s c r) = .ok (.int d) (Pool [] sm s' (c + 1) r) ∧ 0 ≤ d ∧ d < n ∧ 0 ≤ s' ∧ s' < 2147483647 := by
  have k1 : -18446744073709551616 < c + 1 := by omega
  have k2 : c + 1 < 18446744073709551616 := by omega
  have k3 : -18446744073709551616 < s := by omega
  have k4 : s < 18446744073709551616 := by omega
  have key : ∀ x : Int, (∃ y : Int, m__law_draw [.ref 2, .int n] (Pool [] sm s c r) = .ok (.int ((((s * 48271 + x % 2147483629 * ((c + 1) * (c + 1) + 1) + 97 * (c + 1)) % 2147483647) ^ 5) % 2147483629 / 64 % n)) (Pool [] sm ((s * 48271 + x % 2147483629 * ((c + 1) * (c + 1) + 1) + 97 * (c + 1)) % 2147483647) (c + 1) r)) →
      ∃ s' d, m__law_draw [.ref 2, .int n] (Pool [] sm s c r) = .ok (.int d) (Pool [] sm s' (c + 1) r) ∧ 0 ≤ d ∧ d < n ∧ 0 ≤ s' ∧ s' < 2147483647 := fun x ⟨_, e⟩ =>
    ⟨_, _, e, Int.emod_nonneg _ (by omega), Int.emod_lt_of_pos _ hn, Int.emod_nonneg _ (by decide), Int.emod_lt_of_pos _ (by decide)⟩
  have p1 : ∀ z : Int, -18446744073709551616 < z % 2147483647 := fun z => by omega
  have p2 : ∀ z : Int, z % 2147483647 < 18446744073709551616 := fun z => by omega
  have p3 : ∀ z : Int, -18446744073709551616 < z % 2147483629 := fun z => by omega
  have p4 : ∀ z : Int, z % 2147483629 < 18446744073709551616 := fun z => by omega
  cases sm with
  | nil =>
    refine key 0 ⟨0, ?_⟩
    unfold m__law_draw runF b__law_draw Pool startG
    simp [bCons, bNil, sIf, sAsg, sRet, sExpr, e2, eCall, aCons, aNil, eVar, fIx, seqD, getL, fLen, fGt, fCmp, fI, asB, gIx, gN, fSet, fDiv, fIC, eM1, asRef, fPopAt, updL, fEq, eqD, fMod, fAdd, fMul, fMul2, fPow, atI, ixN, hn, hn2, k1, k2, k3, k4, p1, p2, p3, p4]
  | cons m0 sm =>
    have hl : (0 : Int) < (sm.length : Int) + 1 := by omega
    have hi : 0 ≤ (c + 1) % ((sm.length : Int) + 1) := Int.emod_nonneg _ (by omega)
    have hi2 : (c + 1) % ((sm.length : Int) + 1) < (sm.length : Int) + 1 := Int.emod_lt_of_pos _ hl
    obtain ⟨x, hx⟩ : ∃ x, (D.int m0 :: sm.map D.int)[((c + 1) % ((sm.length : Int) + 1)).toNat]? = some (.int x) := by
      have e : (D.int m0 :: sm.map D.int) = (m0 :: sm).map D.int := rfl
      rw [e, List.getElem?_map, List.getElem?_eq_getElem (by simp; omega)]
      exact ⟨_, rfl⟩
    have hx2 : ∀ hj, (D.int m0 :: List.map D.int sm)[((c + 1) % ((sm.length : Int) + 1)).toNat]'hj = D.int x := fun hj => Option.some.inj ((List.getElem?_eq_getElem hj).symm.trans hx)
    refine key x ⟨0, ?_⟩
    unfold m__law_draw runF b__law_draw Pool startG
    simp [bCons, bNil, sIf, sAsg, sRet, sExpr, e2, eCall, aCons, aNil, eVar, fIx, seqD, getL, fLen, fGt, fCmp, fI, asB, gIx, gN, fSet, fDiv, fIC, eM1, asRef, fPopAt, updL, fEq, eqD, fMod, fAdd, fMul, fMul2, fPow, atI, ixN, hn, hn2, k1, k2, k3, k4, p1, p2, p3, p4, hi, hi2, hl, hx, hx2]
theorem draw {h : AH} {k n : Int} {r : AH} (p : PS h k r) (hk : k < 1000000) (hn : 0 < n) (hn2 : n < 1073741824) : ∃ d h', m__law_draw [.ref 2, .int n] h = .ok (.int d) h' ∧ 0 ≤ d ∧ d < n ∧ PS h' (k + 1) r := by
  obtain ⟨gr, sm, s, c, rfl, h1, h2, h3, h4, h5, h6⟩ := p
  cases gr with
  | nil =>
    obtain ⟨s', d, e, q1, q2, q3, q4⟩ := draw2 sm s c r n hn hn2 h1 h2 h3 (by omega) h6
    exact ⟨d, _, e, q1, q2, [], sm, s', c + 1, rfl, q3, q4, by omega, by omega, by simp, h6⟩
  | cons g0 gr =>
    simp at h5
    obtain ⟨gr', l, e⟩ := draw1 g0 gr sm s c r n hn hn2 (by omega)
    exact ⟨_, _, e, Int.emod_nonneg _ (by omega), Int.emod_lt_of_pos _ hn, gr', sm, s, c, rfl, h1, h2, h3, by omega, by omega, h6⟩
theorem w_draw {h : AH} {k n : Int} {r : AH} {Q : D → AH → Prop} (p : PS h k r) (hk : k < 1000000) (hn : 0 < n) (hn2 : n < 1073741824) (z : ∀ d h', 0 ≤ d → d < n → PS h' (k + 1) r → Q (.int d) h') : W (m__law_draw [.ref 2, .int n]) h Q := by
  obtain ⟨d, h', e, d0, d1, p'⟩ := draw p hk hn hn2
  exact ⟨_, _, e, z d h' d0 d1 p'⟩
end FT
namespace FT
open PySem PySem.Spec PyProof.Rows L2
theorem law_pool {ns : List Int} (hn : ns.length ≤ 63) : W (m__law_pool [.fl (ns.map .int)]) [] (fun d h' => d = .ref 2 ∧ PS h' 0 []) := by
  refine w_run ?_
  show W (b__law_pool [some (.fl (ns.map .int)), none]) [] _
  unfold b__law_pool sComp'
  rw [w_cons]; simp only [List.set_cons_succ, List.set_cons_zero, W_bind, W_pure, contW_nx, e2, eVar, gN, sAsg]
  have src : ∀ (γ : G) (h : AH), γ[0]? = some (some (.fl (ns.map .int))) → iSeqL (eVar 0) γ h = .ok (.con (ns.map .int)) h := fun γ h e => by
    unfold iSeqL eVar
    rw [e]
    rfl
  refine W.of (comp_px (src := .con (ns.map .int)) (fun d => match d with | .int t => decide (1000000000000000000 ≤ t) | _ => false) (fun d => d) (src _ _ rfl) (fun _ => trivial) (by simp [Src.items]; omega) fun d hd => ?_) ?_
  · obtain ⟨t, ht, rfl⟩ := List.mem_map.mp hd
    refine ⟨[some (.int t)], fun h => rfl, fun j => ?_, fun _ j => rfl⟩
    simp only [List.getElem?_cons_zero, bindM, pureM, pow18, ge_ii, asB_bl]
  rw [show (Src.con (ns.map D.int)).items = ns.map D.int from rfl, map_filter_int]
  rw [w_cons]; simp only [List.getElem?_cons_succ, List.getElem?_cons_zero, List.length_nil, W_bind, W_pure, aCons, aNil, contW_rt, eLst, eVar, sRet]
  refine W.of (comp_px (src := .con (ns.map .int)) (fun d => match d with | .int t => decide (t < 1000000000000000000) | _ => false) (fun d => d) (src _ _ rfl) (fun _ => trivial) (by simp [Src.items]; omega) fun d hd => ?_) ?_
  · obtain ⟨t, ht, rfl⟩ := List.mem_map.mp hd
    refine ⟨[some (.int t)], fun h => rfl, fun j => ?_, fun _ j => rfl⟩
    simp only [List.getElem?_cons_zero, bindM, pureM, pow18, lt_ii, asB_bl]
  rw [show (Src.con (ns.map D.int)).items = ns.map D.int from rfl, map_filter_int]
  refine W.of (a := .ref 2) (h' := Pool (ns.filter fun i => decide (1000000000000000000 ≤ i)) (ns.filter fun i => decide (i < 1000000000000000000)) 5 0 []) ?_ ?_
  · unfold newL
    rw [if_pos (by simp; decide)]
    rfl
  · refine ⟨rfl, _, _, 5, 0, rfl, by decide, by decide, by decide, by decide, ?_, ?_⟩
    · exact Nat.le_trans (List.length_filter_le _ _) hn
    · exact Nat.le_trans (List.length_filter_le _ _) hn
end FT
namespace FT
open PySem PySem.Spec PyProof.Rows L2
theorem unrolled_eq {p r : List Nat} {laps m : Nat} (hr : 0 < r.length) (hp : p.length + r.length ≤ 100) (hl : laps ≤ 100) (hm : m ≤ 1000) : m__law_unrolled [rnD p r, .int (laps : Nat), .int (m : Nat)] = pure (rnD (unP p r m) (unR r laps m)) := by
  unfold m__law_unrolled
  rw [runF_rt, cln_pure]
  show b__law_unrolled [some (rnD p r), some (.int (laps : Nat)), some (.int (m : Nat)), none, none, none] = _
  unfold b__law_unrolled rnD
  have hd := Nat.div_le_self m r.length
  have hmod := Nat.mod_lt m hr
  have e1 : ((m : Int) / (r.length : Int)) = ((m / r.length : Nat) : Int) := (Int.natCast_ediv m r.length).symm
  have e2' : (m : Int) - ((m / r.length * r.length : Nat) : Int) = ((m % r.length : Nat) : Int) := by
    have := Nat.div_add_mod m r.length
    rw [Nat.mul_comm] at this
    omega
  have e3 : ((m / r.length : Nat) : Int) + 1 = ((m / r.length + 1 : Nat) : Int) := by omega
  have f1 : (m / r.length + 1) * r.length ≤ 1000000 := Nat.le_trans (Nat.mul_le_mul (show _ ≤ 1001 by omega) (show r.length ≤ 100 by omega)) (by omega)
  have f2 : laps * r.length ≤ 1000000 := Nat.le_trans (Nat.mul_le_mul hl (show r.length ≤ 100 by omega)) (by omega)
  have tk : ∀ (l : List Nat) (n : Nat), (stD l).take n = stD (l.take n) := fun l n => by unfold stD; rw [List.map_take]
  have dr : ∀ (l : List Nat) (n : Nat), (stD l).drop n = stD (l.drop n) := fun l n => by unfold stD; rw [List.map_drop]
  simp only [List.getElem?_cons_succ, List.getElem?_cons_zero, List.length_cons, List.length_nil, List.set_cons_succ, List.set_cons_zero, Nat.reduceAdd, aCons, aNil, add_ii, bCons, bNil, bindP, cut_hi, cut_lo, div_nn hr (show r.length ≤ 1000000 by omega), dr, e2, e2', e3, eCall, eSlice, eTup, eVar, gConss, gN, gNils, gT, if_true, len_tup, mul_nn (show m / r.length ≤ 1000000 by omega), mul_tn (x := stD r) (by rw [st_len]; exact f1) (show m / r.length + 1 ≤ 1000000 by omega), oNone, oSome, rep_st, sAsg, sRet, sl_tup, st_len, sub_ii, tk]
  rw [add_tt (by rw [st_len, st_len, List.length_take]; omega)]
  simp only [bindP, st_app]
  rw [add_tt (by rw [st_len, st_len, List.length_take, List.length_drop]; omega)]
  simp only [bindP, st_app]
  rw [mul_tn (by rw [st_len, rot_len hr]; exact f2) (by omega), rep_st]
  simp only [List.length_cons, List.length_nil, Nat.reduceAdd, bindP, if_true, size2]
  rfl
theorem truth_eq {b c : Bool} : m__law_truth [.bl b, .bl c] = pure (.bl (b == c)) := by
  unfold m__law_truth
  rw [runF_rt, cln_pure]
  cases b <;> cases c <;> rfl
end FT
namespace FT
open PySem PySem.Spec PyProof.Rows L2
theorem sub_mk {ns ss : List Str} (hn : NS ns) (hl : ns.length ≤ 8) (s : ss.Sublist ns) : MK (sortS ss) :=
  ⟨by rw [sortS_len]; exact Nat.le_trans s.length_le hl, fun x hx => hn.2 _ (s.subset (sortS_mem.mp hx)), sortS_rise (s.nodup hn.1)⟩
theorem mach_steps {γ : G} {h : AH} {k : Int} {r : AH} {m : Nat} {dn : Int} (p : PS h k r) (hk : k < 900000) (hm : m ≤ 40) (e0 : γ[0]? = some (some (.ref 2))) (e3 : γ[3]? = some (some (.int m))) (e4 : γ[4]? = some (some (.int dn))) {Q : D → AH → Prop} (z : ∀ l h', l.Pairwise (· < ·) → (∀ x ∈ l, x < m) → PS h' (k + m) r → Q (.tup (stD l)) h') :
    W (clE (eCall fTuple (aCons (eComp [some 0, some 4, none] (iRange (eVar 3)) (gN 2) (fun γ => do let d ← e2 fLt (eFn 2 m__law_draw (aCons (eVar 0) (aCons (fun _ => pure (.int 6)) aNil))) (eVar 1) γ; asB d) (eVar 2)) aNil)) γ) h Q := by
  refine W_clE p trivial ?_
  simp only [W_bind, W_pure, aCons, aNil, e2, eCall, eFn, eVar]
  refine comp_E (r := r) (l := []) (fun c xs k' => ∃ l : List Nat, xs = stD l ∧ l.Pairwise (· < ·) ∧ (∀ x ∈ l, x < c) ∧ l.length ≤ c ∧ k' = k + c) ?_
  refine W.of (range_src (n := m) (by dsimp only [eVar]; rw [e3]; rfl) (by omega)) ?_
  refine ⟨_, by simpa using p, ⟨[], rfl, by simp, by simp, by simp, by simp⟩, fun _ _ _ _ => trivial, ?_, ?_⟩
  · rintro c d h6 k6 xs hd ⟨l, rfl, l1, l2, l3, rfl⟩ p6
    obtain ⟨rfl, hc⟩ := intsD_get hd
    simp only [capG, List.map_cons, List.map_nil, e0, e4, Option.join_some, Option.join_none]
    simp only [List.getElem?_cons_succ, List.getElem?_cons_zero, List.length_cons, List.length_nil, List.set_cons_succ, List.set_cons_zero, Nat.reduceAdd, W_bad, W_bind, W_ite, W_pure, eVar, gN, if_true]
    refine w_draw p6 (by omega) (by decide) (by decide) fun t h7 t0 t1 p7 => ?_
    simp only [W_pure, asB_bl, lt_ii]
    by_cases q : t < dn
    · rw [decide_eq_true q]
      simp only [if_true]
      refine ⟨_, p7, by rw [st_len]; omega, l ++ [c], (st_snoc _ _), ?_, ?_, by simp; omega, by omega⟩
      · rw [List.pairwise_append]
        exact ⟨l1, by simp, fun a ha b hb => by simp at hb; subst hb; exact l2 a ha⟩
      · intro x hx
        rcases List.mem_append.mp hx with q | q
        · have := l2 x q; omega
        · simp at q; omega
    · rw [decide_eq_false q]
      simp only [Bool.false_eq_true, if_false]
      exact ⟨_, p7, l, rfl, l1, fun x hx => by have := l2 x hx; omega, by omega, by omega⟩
  rintro h6 xs k6 ⟨l, rfl, l1, l2, l3, rfl⟩ p6
  rw [show (Src.con (intsD m)).items.length = m by simp [Src.items, intsD]] at l2 p6
  exact w_tupE (i := 0) p6 rfl ⟨_, _, p6, ref_st l, fun h7 p7 => z l h7 l1 l2 p7⟩
theorem mach_marks {γ : G} {h : AH} {k : Int} {r : AH} {i : Nat} {ns : List Str} (p : PS h k r) (hk : k < 900000) (e : r[i]? = some (.lst (ns.map .str))) (hn : ns.length ≤ 8) (hg : NS ns) (e0 : γ[0]? = some (some (.ref 2))) (e1 : γ[1]? = some (some (.ref (i + 3)))) {Q : D → AH → Prop} (z : ∀ ss h', MK ss → PS h' (k + ns.length) r → Q (.tup (ss.map .str)) h') :
    W (clE (eCall fTuple (aCons (eCall fSorted (aCons (eComp [some 0, none] (iSeqL (eVar 1)) (gN 1) (fun γ => do let d ← e2 (fEq false) (eFn 2 m__law_draw (aCons (eVar 0) (aCons (fun _ => pure (.int 2)) aNil))) (fun _ => pure (.int 1)) γ; asB d) (eVar 1)) aNil)) aNil)) γ) h Q := by
  refine W_clE p trivial ?_
  simp only [W_bind, W_pure, aCons, aNil, e2, eCall, eFn, eVar]
  refine comp_E (r := r) (l := []) (fun c xs k' => ∃ ss : List Str, xs = ss.map .str ∧ ss.Sublist (ns.take c) ∧ k' = k + c) ?_
  have sr : iSeqL (eVar 1) γ h = .ok (.lst (i + 3) (ns.map .str)) h := by
    have g : getL (i + 3) h = .ok (ns.map .str) h := by unfold getL; rw [p.get, e]
    unfold iSeqL eVar
    rw [e1]
    show (getL (i + 3) >>= fun xs => pure (Src.lst (i + 3) xs)) h = _
    rw [M.bind_ok g]
    rfl
  refine W.of sr ?_
  refine ⟨_, by simpa using p, ⟨[], rfl, by simp, by simp⟩, fun h' k' xs' ph => ?_, ?_, ?_⟩
  · show h'[i + 3]? = _
    rw [ph.get, at_app e]
  · rintro c d h9 k9 xs' hd ⟨ss, rfl, ls, rfl⟩ p9
    have hd' : (ns.map D.str)[c]? = some d := hd
    rw [List.getElem?_map] at hd'
    obtain ⟨y, ey, rfl⟩ := Option.map_eq_some_iff.mp hd'
    obtain ⟨lc, ey'⟩ := List.getElem?_eq_some_iff.mp ey
    have tk : ns.take (c + 1) = ns.take c ++ [y] := by rw [← ey', List.take_succ_eq_append_getElem lc]
    have l8 : ss.length ≤ 8 := Nat.le_trans ls.length_le (by rw [List.length_take]; omega)
    simp only [capG, List.map_cons, List.map_nil, e0, e1, Option.join_some, Option.join_none]
    simp only [List.getElem?_cons_succ, List.getElem?_cons_zero, List.length_cons, List.length_nil, List.set_cons_succ, List.set_cons_zero, Nat.reduceAdd, W_bad, W_bind, W_ite, W_pure, eVar, gN, if_true]
    refine w_draw p9 (by omega) (by decide) (by decide) fun t h10 t0 t1 p10 => ?_
    simp only [W_pure, asB_bl, eq_ii]
    by_cases q : t = 1
    · rw [decide_eq_true q]
      simp only [Bool.not_false, Bool.true_bne, if_true]
      exact ⟨_, p10, by simp; omega, ss ++ [y], by simp, by rw [tk]; exact ls.append (List.Sublist.refl _), by omega⟩
    · rw [decide_eq_false q]
      simp only [Bool.false_bne, Bool.false_eq_true, if_false]
      exact ⟨_, p10, ss, rfl, by rw [tk]; exact ls.trans (List.sublist_append_left _ _), by omega⟩
  rintro h9 xs' k9 ⟨ss, rfl, ls, rfl⟩ p9
  rw [show (Src.lst (i + 3) (ns.map D.str)).items.length = ns.length by simp [Src.items]] at ls p9
  rw [List.take_length] at ls
  have l8 : ss.length ≤ 8 := Nat.le_trans ls.length_le hn
  refine W_of (sortS_h (ss := ss) (h := h9) (by rw [p9.get, show r.length + ([] : AH).length = r.length + 0 from rfl, at_E]; rfl) (by omega)) ?_
  have p11 := p9.app [.lst ((sortS ss).map .str)]
  rw [List.append_assoc] at p11
  rw [show h9.length = r.length + 1 + 3 by rw [p9.len]; simp]
  exact w_tupE (i := 1) p11 rfl ⟨_, _, p11, by simp only [refLt]; exact refs_strs _, fun h12 p12 => z (sortS ss) h12 (sub_mk hg hn ls) p12⟩
theorem machine_w {h : AH} {k : Int} {r : AH} {i most : Nat} {ns : List Str} (p : PS h k r) (hk : k < 700000) (hm0 : 1 ≤ most) (hm : most ≤ 40) (e : r[i]? = some (.lst (ns.map .str))) (hn : ns.length ≤ 8) (hg : NS ns) {Q : D → AH → Prop} (z : ∀ st mk h', MA st mk → st.length ≤ most → PS h' (k + 2000) r → Q (maD st mk) h') :
    W (m__law_machine [.ref 2, .ref (i + 3), .int most]) h Q := by
  refine W_cln p trivial ?_
  refine w_run ?_
  show W (b__law_machine [some (.ref 2), some (.ref (i + 3)), some (.int most), none, none, none, none, none]) h _
  unfold b__law_machine
  refine q_setJ (fun d h1 => ∃ m : Nat, 1 ≤ m ∧ m ≤ most ∧ d = .int m ∧ PS h1 (k + 1) r) ?_ ?_
  · simp only [List.getElem?_cons_succ, List.getElem?_cons_zero, List.length_cons, List.length_nil, Nat.reduceAdd, W_bad, W_bind, W_ite, W_pure, aCons, aNil, e2, eFn, eVar, if_true]
    refine w_draw p (by omega) (by omega) (by omega) fun d h1 d0 d1 p1 => ?_
    rw [add_ii, W_pure]
    exact ⟨(1 + d).toNat, by omega, by omega, by rw [Int.toNat_of_nonneg (by omega)], p1⟩
  rintro _ h1 ⟨m, m1, m2, rfl, p1⟩
  refine q_setJ (fun d h1 => ∃ t : Int, d = .int t ∧ PS h1 (k + 2) r) ?_ ?_
  · simp only [List.getElem?_cons_zero, List.length_cons, List.length_nil, List.set_cons_succ, List.set_cons_zero, Nat.reduceAdd, W_bad, W_bind, W_ite, W_pure, aCons, aNil, e2, eFn, eVar, if_true]
    refine w_draw p1 (by omega) (by decide) (by decide) fun d h1 d0 d1 p1 => ?_
    rw [add_ii, W_pure]
    exact ⟨_, rfl, p1.up (by omega)⟩
  rintro _ h3 ⟨dn, rfl, p3⟩
  refine q_setJ (fun d h1 => d = .ref (r.length + 3) ∧ PS h1 (k + 2) (r ++ [.lst (stsD [])])) ?_ ?_
  · simp only [W_bind, W_pure, aNil, eLst]
    exact w_newL p3 (by decide) fun h4 p4 => ⟨rfl, p4⟩
  rintro _ h4 ⟨rfl, p4⟩
  refine q_setJ (fun d h1 => d = .ref (r.length + 1 + 3) ∧ PS h1 (k + 2) (r ++ [.lst (stsD []), .lst (mksD [])])) ?_ ?_
  · simp only [W_bind, W_pure, aNil, eLst]
    exact w_newL p4 (by decide) fun h5 p5 => ⟨by simp, by rw [List.append_assoc] at p5; exact p5⟩
  rintro _ h5 ⟨rfl, p5⟩
  refine w_seq (fun γ h => ∃ st mk w, γ = [some (.ref 2), some (.ref (i + 3)), some (.int most), some (.int m), some (.int dn), some (.ref (r.length + 0 + 3)), some (.ref (r.length + 1 + 3)), w] ∧ PS h (k + 2000) (r ++ [.lst (stsD st), .lst (mksD mk)]) ∧ st.length = m ∧ mk.length = m ∧ AM st mk m) ?_ ?_
  · refine for_range (fun c γ h => ∃ st mk w, γ = [some (.ref 2), some (.ref (i + 3)), some (.int most), some (.int m), some (.int dn), some (.ref (r.length + 0 + 3)), some (.ref (r.length + 1 + 3)), w] ∧ PS h (k + 2 + 48 * c) (r ++ [.lst (stsD st), .lst (mksD mk)]) ∧ st.length = c ∧ mk.length = c ∧ AM st mk m) (fun _ _ => False) ?_
    simp only [List.getElem?_cons_succ, List.getElem?_cons_zero, List.set_cons_succ, List.set_cons_zero, W_pure, aCons, aNil, e2, eFn, eVar]
    refine ⟨m, rfl, by omega, ⟨[], [], _, rfl, p5.up (by omega), rfl, rfl, by simp, by simp, by simp⟩, ?_, ?_, fun _ _ q => q.elim⟩
    · rintro c γ h6 hc ⟨st, mk, w, rfl, p6, l1, l2, am⟩
      refine q_push (i := 0) rfl p6 rfl (by simp [stsD]; omega) (fun v k' => ∃ l : List Nat, v = .tup (stD l) ∧ l.Pairwise (· < ·) ∧ (∀ x ∈ l, x < m) ∧ k' = k + 2 + 48 * c + m) ?_ ?_
      · exact mach_steps p6 (by omega) (by omega) rfl rfl rfl fun l h' q1 q2 p7 => ⟨_, p7, l, rfl, q1, q2, rfl⟩
      rintro _ _ h7 ⟨l, rfl, q1, q2, rfl⟩ p7
      rw [List.set_cons_zero, show stsD st ++ [D.tup (stD l)] = stsD (st ++ [l]) by simp [stsD]] at p7
      refine q_push (i := 1) rfl p7 rfl (by simp [mksD]; omega) (fun v k' => ∃ ss : List Str, v = .tup (ss.map .str) ∧ MK ss ∧ k' = k + 2 + 48 * c + m + ns.length) ?_ ?_
      · exact mach_marks p7 (by omega) (at_app e) hn hg rfl rfl fun ss h' q1 p8 => ⟨_, p8, ss, rfl, q1, rfl⟩
      rintro _ _ h8 ⟨ss, rfl, q3, rfl⟩ p8
      rw [List.set_cons_succ, List.set_cons_zero, show mksD mk ++ [D.tup (ss.map .str)] = mksD (mk ++ [ss]) by simp [mksD]] at p8
      refine q_done ⟨_, _, _, rfl, p8.up (by omega), by simp [l1], by simp [l2], ?_, ?_, ?_⟩
      · intro l hl
        rcases List.mem_append.mp hl with q | q
        · exact am.1 l q
        · simp at q; subst q; exact q1
      · intro l hl
        rcases List.mem_append.mp hl with q | q
        · exact am.2.1 l q
        · simp at q; subst q; exact q2
      · intro l hl
        rcases List.mem_append.mp hl with q | q
        · exact am.2.2 l q
        · simp at q; subst q; exact q3
    · rintro γ h6 ⟨st, mk, w, rfl, p6, l1, l2, am⟩
      exact ⟨st, mk, w, rfl, p6.up (by omega), l1, l2, am⟩
  · rintro γ h6 ⟨st, mk, w, rfl, p6, l1, l2, am⟩
    refine q_retJ (fun d h1 => d = maD st mk ∧ h1 = h6) ?_ ?_
    · simp only [List.getElem?_cons_succ, List.getElem?_cons_zero, List.length_cons, List.length_nil, Nat.reduceAdd, W_bad, W_bind, W_ite, W_pure, aCons, aNil, eCall, eTup, eVar]
      refine w_tupE (i := 0) p6 rfl ?_
      refine w_tupE (i := 1) p6 rfl ?_
      rw [if_pos (by decide)]
      exact ⟨rfl, rfl⟩
    rintro _ _ ⟨rfl, rfl⟩
    refine ⟨_, _, p6, ?_, fun h2 q2 => z st mk h2 ⟨by omega, by omega, by omega, am.1, by rw [l1]; exact am.2.1, am.2.2⟩ (by omega) q2⟩
    unfold maD stsD mksD
    simp only [refLt, refLts, Bool.and_true, Bool.and_eq_true]
    exact ⟨refLts_map fun a => ref_st a, refLts_map fun a => by simp only [refLt]; exact refs_strs _⟩
end FT
namespace FT
open PySem PySem.Spec PyProof.Rows L2
end FT
set_option maxHeartbeats 4000000
namespace FT
open PySem PySem.Spec PyProof.Rows L2
theorem W_clnG {m : M D} {h : AH} {k : Int} {r : AH} {Q : D → AH → Prop} (p : PS h k r) (z : W m h fun d h1 => ∃ k' j i o, d = .ref (i + 3) ∧ PS h1 k' (r ++ j) ∧ r.length ≤ i ∧ (r ++ j)[i]? = some o ∧ refO 3 o = true ∧ ∀ h2, PS h2 k' (r ++ [o]) → Q (.ref (r.length + 3)) h2) : W (cln m) h Q := by
  obtain ⟨d, h1, e, k', j, i, o, rfl, p1, hi, ei, rd, f⟩ := z
  obtain ⟨c1, c2⟩ := cln_cond p trivial p1
  have l := p.len
  refine ⟨.ref (r.length + 3), h1.take h.length ++ [o], ?_, f _ (c2.app _)⟩
  unfold cln
  rw [e]
  dsimp only
  rw [if_pos c1, if_neg (by simp only [refLt, decide_eq_true_eq]; omega), p1.get, ei]
  dsimp only
  rw [if_pos (show refO h.length o = true from refO_up (by omega) rd), l]
theorem w_newK {h : AH} {k : Int} {r : AH} {Q : D → AH → Prop} (p : PS h k r) (z : ∀ h', PS h' k (r ++ [.dK []]) → Q (.ref (r.length + 3)) h') : W (newK []) h Q :=
  ⟨.ref (r.length + 3), h ++ [.dK []], by unfold newK; rw [if_pos (by simp), p.len], z _ (p.app _)⟩
theorem w_disp {h : AH} {k : Int} {r : AH} {γ : G} {Q : D → AH → Prop} (p : PS h k r) (z : ∀ h', PS h' k (r ++ [.dK [(.inr "a", .int 1)]]) → Q (.ref (r.length + 3)) h') : W (eDisp1 (fun _ => pure (.str "a")) (fun _ => pure (.int 1)) γ) h Q := by
  refine ⟨.ref (r.length + 3), h ++ [.dK [(.inr "a", .int 1)]], ?_, z _ (p.app _)⟩
  show putO h.length (.str "a") (.int 1) (h ++ [.dK []]) = _
  unfold putO
  rw [show keyD (.str "a") = some (.inr "a") from rfl]
  dsimp only
  rw [at_nw]
  dsimp only
  rw [set_nw, p.len]
def OdT (B : Nat) (r0 : Nat) (R : AH) (v : D) : Prop := (refLt 3 v = true ∧ Th [] B 2 100 v) ∨ ∃ i o, v = .ref (i + 3) ∧ r0 ≤ i ∧ R[i]? = some o ∧ refO 3 o = true ∧ ∀ r : AH, Th (r ++ [o]) B 2 100 (.ref (r.length + 3))
theorem odd_w {h : AH} {k : Int} {r : AH} {B : Nat} (p : PS h k r) (hk : k < 900000) (hB : 10 ^ 21 + 3 ≤ B) : W (m__law_odd [.ref 2]) h (fun d' h' => ∃ j, Th (r ++ j) B 2 100 d' ∧ PS h' (k + 1) (r ++ j)) := by
  have key : W (runF 2 b__law_odd [.ref 2]) h (fun v h' => ∃ j, OdT B r.length (r ++ j) v ∧ PS h' (k + 1) (r ++ j)) := by
    refine w_run ?_
    show W (b__law_odd [some (.ref 2), none]) h _
    unfold b__law_odd
    have pw : fPow (.int 10) (.int 21) = pure (.int 1000000000000000000000) := rfl
    rw [w_cons]; simp only [List.length_cons, List.length_nil, List.set_cons_succ, List.set_cons_zero, Nat.reduceAdd, W_bad, W_bind, W_ite, W_pure, aCons, aNil, add_ii, contW_nx, e2, eLst, eNeg, eTup, gN, pw, sAsg]
    rw [if_pos (by decide)]
    refine w_newL p (by decide) fun h1 p1 => ?_
    rw [if_pos (by decide)]
    refine w_newL p1 (by simp) fun h2 p2 => ?_
    refine w_newK p2 fun h3 p3 => ?_
    generalize hl1 : [D.non, D.bl true, D.bl false, D.str "a", D.str "", D.int (-1), D.int 40, D.int (1000000000000000000000 + 3), D.tup [], D.ref (r.length + 3), D.tup [D.int 0], D.ref ((r ++ [O.lst []]).length + 3), D.ref ((r ++ [O.lst []] ++ [O.lst [D.int 0]]).length + 3), D.str "Aa", D.str "no", D.str "abcdefghi"] = l1
    have n1 : l1.length = 16 := by rw [← hl1]; rfl
    refine w_newL p3 (by omega) fun h4 p4 => ?_
    rw [w_cons]; simp only [List.getElem?_cons_succ, List.getElem?_cons_zero, List.length_cons, List.length_nil, List.set_cons_succ, List.set_cons_zero, Nat.reduceAdd, W_bad, W_bind, W_ite, W_pure, aCons, aNil, contW_nx, e2, eLst, eTup, eVar, gN, sAsg]
    rw [if_pos (by decide), if_pos (by decide)]
    refine w_disp p4 fun h5 p5 => ?_
    generalize hl2 : [D.tup [D.str "a"], D.int 0, D.int 1, D.str "b c", D.tup [D.int 0, D.int 0], D.ref ((r ++ [O.lst []] ++ [O.lst [D.int 0]] ++ [O.dK []] ++ [O.lst l1]).length + 3), D.str "z"] = l2
    have n2 : l2.length = 7 := by rw [← hl2]; rfl
    refine w_newL p5 (by omega) fun h6 p6 => ?_
    rw [ad_ref, W_bind]
    have a4 : (r ++ [O.lst []] ++ [O.lst [D.int 0]] ++ [O.dK []] ++ [O.lst l1] ++ [O.dK [(.inr "a", .int 1)]] ++ [O.lst l2])[(r ++ [O.lst []] ++ [O.lst [D.int 0]] ++ [O.dK []]).length]? = some (.lst l1) := at_app (at_app at_new)
    refine w_getL p6 a4 ?_
    rw [W_bind]
    refine w_getL p6 at_new ?_
    refine w_newL p6 (by rw [List.length_append]; omega) fun h7 p7 => ?_
    rw [w_cons]; simp only [List.getElem?_cons_succ, List.getElem?_cons_zero, List.length_cons, List.length_nil, Nat.reduceAdd, W_bad, W_bind, W_ite, W_pure, aCons, aNil, contW_rt, e2, eFn, eVar, if_true, sRet]
    refine w_draw p7 (by omega) (by decide) (by decide) fun t h8 t0 t1 p8 => ?_
    obtain ⟨v, mv, ev⟩ := at_any (xs := l1 ++ l2) t0 (by rw [List.length_append, n1, n2]; omega)
    refine w_ixr p8 at_new ev ?_
    have fl : r ++ [O.lst []] ++ [O.lst [D.int 0]] ++ [O.dK []] ++ [O.lst l1] ++ [O.dK [(.inr "a", .int 1)]] ++ [O.lst l2] ++ [O.lst (l1 ++ l2)] = r ++ [O.lst [], O.lst [D.int 0], O.dK [], O.lst l1, O.dK [(.inr "a", .int 1)], O.lst l2, O.lst (l1 ++ l2)] := by simp
    rw [fl] at p8
    refine ⟨_, ?_, p8⟩
    have at_ : ∀ (R : AH) (i : Nat), (r ++ R)[r.length + i]? = R[i]? := fun R i => by rw [List.getElem?_append_right (by omega)]; congr 1; omega
    have si : ∀ i : Int, i.natAbs ≤ 10 ^ 21 + 3 → OdT B r.length (r ++ [O.lst [], O.lst [D.int 0], O.dK [], O.lst l1, O.dK [(.inr "a", .int 1)], O.lst l2, O.lst (l1 ++ l2)]) (.int i) := fun i hi => .inl ⟨rfl, by simp only [Th]; omega⟩
    have st : ∀ x : Str, (reprText x).length ≤ 100 → x.length ≤ 1000 → OdT B r.length (r ++ [O.lst [], O.lst [D.int 0], O.dK [], O.lst l1, O.dK [(.inr "a", .int 1)], O.lst l2, O.lst (l1 ++ l2)]) (.str x) := fun x h1 h2 => .inl ⟨rfl, by simp only [Th]; exact ⟨h1, h2⟩⟩
    have rf : ∀ (i : Nat) (o : O), [O.lst [], O.lst [D.int 0], O.dK [], O.lst l1, O.dK [(.inr "a", .int 1)], O.lst l2, O.lst (l1 ++ l2)][i]? = some o → refO 3 o = true → (∀ q : AH, Th (q ++ [o]) B 2 100 (.ref (q.length + 3))) → OdT B r.length (r ++ [O.lst [], O.lst [D.int 0], O.dK [], O.lst l1, O.dK [(.inr "a", .int 1)], O.lst l2, O.lst (l1 ++ l2)]) (.ref (r.length + i + 3)) := fun i o e c f => .inr ⟨r.length + i, o, rfl, by omega, by rw [at_]; exact e, c, f⟩
    have ti : ∀ i : Nat, i ≤ 40 → Th [] B 1 40 (.int (i : Nat)) := fun i hi => by simp only [Th]; omega
    have m1 : ∀ v ∈ l1, OdT B r.length (r ++ [O.lst [], O.lst [D.int 0], O.dK [], O.lst l1, O.dK [(.inr "a", .int 1)], O.lst l2, O.lst (l1 ++ l2)]) v := by
      rw [show l1 = _ from hl1.symm]
      simp only [List.forall_mem_cons]
      rw [hl1]
      refine ⟨.inl ⟨rfl, by simp [Th]⟩, .inl ⟨rfl, by simp [Th]⟩, .inl ⟨rfl, by simp [Th]⟩, st _ (by decide +kernel) (by decide +kernel), st _ (by decide +kernel) (by decide +kernel), si _ (by decide), si _ (by decide), si _ (by decide), .inl ⟨rfl, by simp only [Th]; exact ⟨0, trivial, by omega⟩⟩, rf 0 (.lst []) rfl rfl fun q => ?_, .inl ⟨rfl, by simp only [Th]; exact ⟨42, Ths.one (ti 0 (by omega)), by omega⟩⟩, ?_, ?_, st _ (by decide +kernel) (by decide +kernel), st _ (by decide +kernel) (by decide +kernel), st _ (by decide +kernel) (by decide +kernel), by simp⟩
      · simp only [Th]; exact ⟨q.length, rfl, .inl ⟨[], 0, at_new, trivial, by omega⟩⟩
      · rw [show (r ++ [O.lst []]).length = r.length + 1 by simp]
        exact rf 1 (.lst [.int 0]) rfl rfl fun q => by simp only [Th]; exact ⟨q.length, rfl, .inl ⟨[.int 0], 42, at_new, Ths.one (n := 40) (by simp only [Th]; omega), by omega⟩⟩
      · rw [show (r ++ [O.lst []] ++ [O.lst [D.int 0]]).length = r.length + 2 by simp]
        exact rf 2 (.dK []) rfl rfl fun q => by simp only [Th]; exact ⟨q.length, rfl, .inr ⟨.inl at_new, by omega⟩⟩
    have m2 : ∀ v ∈ l2, OdT B r.length (r ++ [O.lst [], O.lst [D.int 0], O.dK [], O.lst l1, O.dK [(.inr "a", .int 1)], O.lst l2, O.lst (l1 ++ l2)]) v := by
      rw [show l2 = _ from hl2.symm]
      simp only [List.forall_mem_cons]
      rw [hl2]
      refine ⟨.inl ⟨rfl, by simp only [Th]; exact ⟨42, Ths.one (n := 40) (by simp only [Th]; exact ⟨by decide +kernel, by decide +kernel⟩), by omega⟩⟩, si _ (by decide), si _ (by decide), st _ (by decide +kernel) (by decide +kernel), .inl ⟨rfl, by simp only [Th]; exact ⟨84, ⟨40, 42, ti 0 (by omega), Ths.one (ti 0 (by omega)), by omega⟩, by omega⟩⟩, ?_, st _ (by decide +kernel) (by decide +kernel), by simp⟩
      rw [show (r ++ [O.lst []] ++ [O.lst [D.int 0]] ++ [O.dK []] ++ [O.lst l1]).length = r.length + 4 by simp]
      exact rf 4 (.dK [(.inr "a", .int 1)]) rfl rfl fun q => by simp only [Th]; exact ⟨q.length, rfl, .inr ⟨.inr ⟨at_new, by omega⟩, by omega⟩⟩
    rcases List.mem_append.mp mv with q | q
    · exact m1 v q
    · exact m2 v q
  obtain ⟨v, h1, e, j, od, p1⟩ := key
  have nk : ∀ r : AH, Kp [] r := fun r n o e => by cases e
  rcases od with ⟨c, t⟩ | ⟨i, o, rfl, hi, ei, c, t⟩
  · exact W_cln p trivial ⟨v, h1, e, k + 1, j, p1, c, fun h2 p2 => ⟨[], by rw [List.append_nil]; exact Th.mono (nk r) (Nat.le_refl _) (Nat.le_refl _) (Nat.le_refl _) t, by rw [List.append_nil]; exact p2⟩⟩
  · exact W_clnG p ⟨_, h1, e, k + 1, j, i, o, rfl, p1, hi, ei, c, fun h2 p2 => ⟨[o], t r, p2⟩⟩
theorem Ths.split {P : Nat → D → Prop} : ∀ {n : Nat} {xs ys : List D}, Ths P n (xs ++ ys) → ∃ a b, a + b ≤ n ∧ Ths P a xs ∧ Ths P b ys
  | n, [], ys, t => ⟨0, n, by omega, trivial, t⟩
  | n, x :: xs, ys, ⟨a, b, h1, h2, h3⟩ => by
    obtain ⟨c, d, e, t1, t2⟩ := Ths.split h2
    exact ⟨a + c + 2, d, by omega, ⟨a, c, h1, t1, by omega⟩, t2⟩
theorem w_isiT {h : AH} {k : Int} {r : AH} {d : D} {B m n : Nat} {T : String} {Q : D → AH → Prop} (v : Th r B m n d) (p : PS h k r) (q : Q (.bl (isOf T d)) h) (h1 : subT "list" T = false := by decide) (h2 : subT "dict" T = false := by decide) : W (fIsi T d) h Q := W.of (th_isi v h1 h2 p (Kp.refl _)) q
theorem Th.items {r : AH} {B m n : Nat} {xs : List D} (v : Th r B m n (.tup xs)) : ∃ m' a, m = m' + 1 ∧ Ths (Th r B m') a xs ∧ a + 4 ≤ n := by
  cases m with
  | zero => simp only [Th] at v
  | succ m => simp only [Th] at v; obtain ⟨a, h1, h2⟩ := v; exact ⟨m, a, rfl, h1, h2⟩
theorem Th.tuple {r : AH} {B m a n : Nat} {xs : List D} (v : Ths (Th r B m) a xs) (h : a + 4 ≤ n) : Th r B (m + 1) n (.tup xs) := by simp only [Th]; exact ⟨a, v, h⟩
theorem Th.num {r : AH} {B m n : Nat} {i : Int} (h : i.natAbs ≤ B) (hm : 1 ≤ m) (hn : 40 ≤ n) : Th r B m n (.int i) := by
  cases m with
  | zero => omega
  | succ m => simp only [Th]; exact ⟨h, hn⟩
theorem Th.numI {r : AH} {B m n : Nat} {i : Int} (v : Th r B m n (.int i)) : i.natAbs ≤ B ∧ 1 ≤ m ∧ 40 ≤ n := by
  cases m with
  | zero => simp only [Th] at v
  | succ m => simp only [Th] at v; omega
theorem bent_w : ∀ (f deep : Nat) {h : AH} {k : Int} {r : AH} {d : D} {B m n : Nat}, PS h k r → k + 10 * f < 800000 → Th r B m n d → 10 ^ 21 + 3 ≤ B → n ≤ 100000 → deep < f →
    W (m__law_bent f [.ref 2, d, .int deep]) h (fun d' h' => ∃ j, Th (r ++ j) (B + 2) (max m (deep + 3)) (2 * n + 110) d' ∧ PS h' (k + 10 * f) (r ++ j))
  | 0, deep, h, k, r, d, B, m, n, p, hk, v, hB, hn, hd => by omega
  | f + 1, deep, h, k, r, d, B, m, n, p, hk, v, hB, hn, hd => by
    refine w_run ?_
    show W (b__law_bent (m__law_bent f) [some (.ref 2), some d, some (.int deep), none, none, none]) h _
    unfold b__law_bent
    have rest : ∀ (h1 : AH) (k1 : Int), PS h1 k1 r → k1 ≤ k + 1 → W ((bCons (sAsg (eFn 2 m__law_draw (aCons (eVar 0) (aCons (fun _ => pure (.int 3)) aNil))) (gN 4)) (bCons (sIf (cAnd (cVal (eIsi "tuple" (eVar 1))) (fun γ => do let d ← e2 fGt (eVar 4) (fun _ => pure (.int 0)) γ; asB d)) (bCons (sAsg (eFn 2 m__law_draw (aCons (eVar 0) (aCons (fun _ => pure (.int 6)) aNil))) (gN 5)) (bCons (sIf (fun γ => do let d ← e2 (fEq false) (eVar 5) (fun _ => pure (.int 0)) γ; asB d) (bCons (sRet (eCall fList (aCons (eVar 1) aNil))) bNil) bNil) (bCons (sIf (fun γ => do let d ← e2 (fEq false) (eVar 5) (fun _ => pure (.int 1)) γ; asB d) (bCons (sRet (e2 fAdd (eVar 1) (eTup (aCons (eFn 1 m__law_odd (aCons (eVar 0) aNil)) aNil)))) bNil) bNil) (bCons (sRet (e2 fIx (eLst (aCons (eSlice (eVar 1) oNone (oSome (eNeg (fun _ => pure (.int 1))))) (aCons (eRev (eVar 1) (eNeg (fun _ => pure (.int 1)))) (aCons (e2 fAdd (eVar 1) (eSlice (eVar 1) (oSome (eNeg (fun _ => pure (.int 1)))) oNone)) (aCons (eSlice (eVar 1) (oSome (fun _ => pure (.int 1))) oNone) aNil))))) (e2 fSub (eVar 5) (fun _ => pure (.int 2))))) bNil)))) bNil) (bCons (sIf (cAnd (cVal (eIsi "int" (eVar 1))) (cAnd (cNot (cVal (eIsi "bool" (eVar 1)))) (fun γ => do let d ← e2 fGt (eVar 4) (fun _ => pure (.int 0)) γ; asB d))) (bCons (sRet (e2 fAdd (eVar 1) (e2 fIx (eLst (aCons (fun _ => pure (.int 1)) (aCons (eNeg (fun _ => pure (.int 1))) (aCons (fun _ => pure (.int 2)) (aCons (e2 fSub (fun _ => pure (.int 0)) (eVar 1)) aNil))))) (eFn 2 m__law_draw (aCons (eVar 0) (aCons (fun _ => pure (.int 4)) aNil)))))) bNil) bNil) (bCons (sRet (eFn 1 m__law_odd (aCons (eVar 0) aNil))) bNil)))) [some (.ref 2), some d, some (.int deep), none, none, none]) h1 (runW fun d' h' => ∃ j, Th (r ++ j) (B + 2) (max m (deep + 3)) (2 * n + 110) d' ∧ PS h' (k + 10 * ((f + 1 : Nat) : Int)) (r ++ j)) := by
      intro h1 k1 p1 hk1
      rw [w_cons]; simp only [List.getElem?_cons_zero, List.length_cons, List.length_nil, List.set_cons_succ, List.set_cons_zero, Nat.reduceAdd, W_bad, W_bind, W_ite, W_pure, aCons, aNil, contW_nx, e2, eFn, eVar, gN, if_true, sAsg]
      refine w_draw p1 (by omega) (by decide) (by decide) fun way h2 w0 w1 p2 => ?_
      rw [w_cons]; simp only [Bool.false_eq_true, List.getElem?_cons_succ, List.getElem?_cons_zero, W_bind, W_ite, W_pure, asB_bl, cAnd, cVal, contW_nx, eIsi, eVar, gt_ii, if_false, sIf, w_nil]
      have odd : ∀ (h3 : AH) (k3 : Int), PS h3 k3 r → k3 ≤ k + 5 → W (m__law_odd [.ref 2]) h3 (fun d' h' => ∃ j, Th (r ++ j) (B + 2) (max m (deep + 3)) (2 * n + 110) d' ∧ PS h' (k + 10 * ((f + 1 : Nat) : Int)) (r ++ j)) := fun h3 k3 p3 hk3 =>
        (odd_w (B := B) p3 (by omega) hB).mono fun d' h' ⟨j, v', p'⟩ => ⟨j, Th.mono (Kp.refl _) (by omega) (by omega) (by omega) v', p'.up (by omega)⟩
      refine w_isiT v p2 ?_
      rw [isTup_is]
      cases ht : tupB d with
      | false =>
        simp only [Bool.false_eq_true, W_pure, if_false, truD_bl]
        rw [w_cons]; simp only [Bool.false_eq_true, List.getElem?_cons_succ, List.getElem?_cons_zero, W_bind, W_ite, W_pure, asB_bl, cAnd, cNot, cVal, contW_nx, eIsi, eVar, gt_ii, if_false, sIf, w_nil]
        refine w_isiT v p2 ?_
        have ni := isNum_is d
        cases hi : isOf "int" d with
        | false =>
          simp only [Bool.false_eq_true, W_pure, if_false, truD_bl]
          rw [w_cons]; simp only [List.getElem?_cons_zero, List.length_cons, List.length_nil, Nat.reduceAdd, W_bad, W_bind, W_ite, W_pure, aCons, aNil, contW_rt, eFn, eVar, if_true, sRet]
          exact odd _ _ p2 (by omega)
        | true =>
          simp only [W_pure, if_true, truD_bl]
          refine w_isiT v p2 ?_
          cases hb : isOf "bool" d with
          | true =>
            simp only [Bool.false_eq_true, Bool.not_true, W_pure, if_false, truD_bl]
            rw [w_cons]; simp only [List.getElem?_cons_zero, List.length_cons, List.length_nil, Nat.reduceAdd, W_bad, W_bind, W_ite, W_pure, aCons, aNil, contW_rt, eFn, eVar, if_true, sRet]
            exact odd _ _ p2 (by omega)
          | false =>
            simp only [Bool.not_false, W_pure, if_true, truD_bl]
            rw [hi, hb] at ni
            cases d <;> first | (cases ni; done) | skip
            rename_i i
            obtain ⟨v1, v2, v3⟩ := v.numI
            split
            · rw [w_cons]; simp only [List.getElem?_cons_succ, List.getElem?_cons_zero, List.length_cons, List.length_nil, Nat.reduceAdd, W_bad, W_bind, W_ite, W_pure, aCons, aNil, contW_rt, e2, eFn, eLst, eNeg, eVar, if_true, sRet, sub_ii]
              refine w_newL p2 (by simp) fun h3 p3 => ?_
              refine w_draw p3 (by omega) (by decide) (by decide) fun t h4 t0 t1 p4 => ?_
              obtain ⟨x, hx, ex⟩ := at_any (xs := [D.int 1, D.int (-1), D.int 2, D.int (0 - i)]) t0 (by simpa using t1)
              refine w_ixr p4 at_new ex ?_
              obtain ⟨y, rfl, hy⟩ : ∃ y, x = .int y ∧ (i + y).natAbs ≤ B + 2 := by
                simp only [List.mem_cons, List.not_mem_nil, or_false] at hx
                rcases hx with rfl | rfl | rfl | rfl <;> exact ⟨_, rfl, by omega⟩
              rw [add_ii, W_pure]
              exact ⟨_, Th.num hy (by omega) (by omega), p4.up (by omega)⟩
            · rw [w_cons]; simp only [List.getElem?_cons_zero, List.length_cons, List.length_nil, Nat.reduceAdd, W_bad, W_bind, W_ite, W_pure, aCons, aNil, contW_rt, eFn, eVar, if_true, sRet]
              exact odd _ _ p2 (by omega)
      | true =>
        obtain ⟨xs, rfl⟩ : ∃ xs, d = .tup xs := by
          cases d <;> first | (cases ht; done) | skip
          exact ⟨_, rfl⟩
        have sl : ∀ lo hi, fSl (.tup xs) lo hi = pure (.tup (cutD xs lo hi)) := fun _ _ => rfl
        have rv : fRev (.tup xs) = pure (.tup xs.reverse) := rfl
        obtain ⟨m', a, rfl, va, ha⟩ := v.items
        have ls := va.len
        have up : ∀ {j : AH} {ys : List D} {b : Nat}, Ths (Th r B m') b ys → b + 4 ≤ 2 * n + 110 → Th (r ++ j) (B + 2) (max (m' + 1) (deep + 3)) (2 * n + 110) (.tup ys) := fun {j ys b} t hb =>
          Th.mono (B := B) (m := m' + 1) (Kp.app _ _) (by omega) (by omega) (Nat.le_refl _) (Th.tuple t hb)
        have s9 : subT "tuple" "int" = false := by decide
        simp only [W_pure, if_true, truD_bl]
        split
        · rw [w_cons]; simp only [List.getElem?_cons_zero, List.length_cons, List.length_nil, List.set_cons_succ, List.set_cons_zero, Nat.reduceAdd, W_bad, W_bind, W_ite, W_pure, aCons, aNil, contW_nx, eFn, eVar, gN, if_true, sAsg]
          refine w_draw p2 (by omega) (by decide) (by decide) fun t h3 t0 t1 p3 => ?_
          rw [w_cons]; simp only [List.getElem?_cons_succ, List.getElem?_cons_zero, W_bind, W_ite, W_pure, asB_bl, contW_nx, eq_ii, sIf, w_nil]
          by_cases c0 : t = 0
          · rw [decide_eq_true c0]
            simp only [Bool.not_false, Bool.true_bne, if_true]
            rw [w_cons]; simp only [List.getElem?_cons_succ, List.getElem?_cons_zero, W_bind, W_pure, aCons, aNil, contW_rt, eCall, eVar, fl_tup, sRet]
            refine w_newL p3 (by omega) fun h4 p4 => ?_
            have z : Th (r ++ [.lst xs]) B (m' + 1) n (.ref (r.length + 3)) := by
              simp only [Th]
              exact ⟨r.length, rfl, .inl ⟨xs, a, at_new, va.imp fun b d t => Th.mono (Kp.app _ _) (Nat.le_refl _) (Nat.le_refl _) (Nat.le_refl _) t, ha⟩⟩
            exact ⟨[.lst xs], Th.mono (Kp.refl _) (by omega) (by omega) (by omega) z, p4.up (by omega)⟩
          · rw [decide_eq_false c0]
            simp only [Bool.false_bne, Bool.false_eq_true, if_false]
            rw [w_cons]; simp only [List.getElem?_cons_succ, List.getElem?_cons_zero, W_bind, W_ite, W_pure, asB_bl, contW_nx, eq_ii, sIf, w_nil]
            by_cases c1 : t = 1
            · rw [decide_eq_true c1]
              simp only [Bool.not_false, Bool.true_bne, if_true]
              rw [w_cons]; simp only [List.getElem?_cons_succ, List.getElem?_cons_zero, List.length_cons, List.length_nil, Nat.reduceAdd, W_bad, W_bind, W_ite, W_pure, aCons, aNil, contW_rt, e2, eFn, eTup, eVar, if_true, sRet]
              refine (odd_w (B := B) p3 (by omega) hB).mono fun y h4 ⟨j, v4, p4⟩ => ?_
              rw [if_pos (by decide), add_tt (by simp; omega), W_pure]
              refine ⟨j, ?_, p4.up (by omega)⟩
              have t1 : Ths (Th (r ++ j) (B + 2) (max m' 2)) a xs := va.imp fun b d t => Th.mono (Kp.app _ _) (by omega) (by omega) (Nat.le_refl _) t
              have t2 : Ths (Th (r ++ j) (B + 2) (max m' 2)) 102 [y] := Ths.one (Th.mono (Kp.refl _) (by omega) (by omega) (Nat.le_refl _) v4)
              exact Th.mono (Kp.refl _) (Nat.le_refl _) (by omega) (Nat.le_refl _) (Th.tuple (t1.app t2) (by omega))
            · rw [decide_eq_false c1]
              simp only [Bool.false_bne, Bool.false_eq_true, if_false]
              have cl := cut_len xs (some (-1)) none
              rw [w_cons]; simp only [List.getElem?_cons_succ, List.getElem?_cons_zero, W_bind, W_pure, aCons, aNil, add_tt (x := xs) (y := cutD xs (some (-1)) none) (by omega), contW_rt, e2, eLst, eNeg, eRev, eSlice, eVar, if_true, oNone, oSome, rv, sRet, sl, sub_ii]
              refine w_newL p3 (by simp) fun h4 p4 => ?_
              obtain ⟨x, hx, ex⟩ := at_any (xs := [D.tup (cutD xs none (some (-1))), D.tup xs.reverse, D.tup (xs ++ cutD xs (some (-1)) none), D.tup (cutD xs (some 1) none)]) (i := t - 2) (by omega) (by simp; omega)
              refine w_ixr p4 at_new ex ?_
              refine ⟨_, ?_, p4.up (by omega)⟩
              simp only [List.mem_cons, List.not_mem_nil, or_false] at hx
              rcases hx with rfl | rfl | rfl | rfl
              · exact up (va.sub (cut_sub _ _ _)) (by omega)
              · exact up va.rev (by omega)
              · exact up (va.app (va.sub (cut_sub _ _ _))) (by omega)
              · exact up (va.sub (cut_sub _ _ _)) (by omega)
        · rw [w_cons]; simp only [Bool.false_eq_true, List.getElem?_cons_succ, List.getElem?_cons_zero, W_bind, W_ite, W_pure, asB_bl, cAnd, cNot, cVal, contW_nx, eIsi, eVar, gt_ii, if_false, isi_tup, s9, sIf, truD_bl, w_nil]
          rw [w_cons]; simp only [List.getElem?_cons_zero, List.length_cons, List.length_nil, Nat.reduceAdd, W_bad, W_bind, W_ite, W_pure, aCons, aNil, contW_rt, eFn, eVar, if_true, sRet]
          exact odd _ _ p2 (by omega)
    rw [w_cons]; simp only [Bool.false_eq_true, List.getElem?_cons_succ, List.getElem?_cons_zero, List.length_cons, List.length_nil, Nat.reduceAdd, W_bad, W_bind, W_ite, W_pure, aCons, aNil, asB_bl, cAnd, cVal, contW_nx, e2, eCall, eFn, eIsi, eVar, gt_ii, if_false, if_true, sIf, w_nil]
    refine w_isiT v p ?_
    rw [isTup_is]
    cases ht : tupB d with
    | false =>
      simp only [Bool.false_eq_true, W_pure, if_false, truD_bl]
      exact rest h k p (by omega)
    | true =>
      obtain ⟨xs, rfl⟩ : ∃ xs, d = .tup xs := by
        cases d <;> first | (cases ht; done) | skip
        exact ⟨_, rfl⟩
      obtain ⟨m', a, rfl, va, ha⟩ := v.items
      have ls := va.len
      simp only [W_pure, asB_bl, gt_ii, if_true, len_tup, truD_bl]
      split
      · rename_i c0
        have l0 : 0 < xs.length := by have := of_decide_eq_true c0; omega
        split
        · rename_i c1
          have d0 : 0 < deep := by have := of_decide_eq_true c1; omega
          refine w_draw p (by omega) (by decide) (by decide) fun t h1 t0 t1 p1 => ?_
          simp only [W_pure, asB_bl, gt_ii]
          split
          · rw [w_cons]; simp only [List.getElem?_cons_succ, List.getElem?_cons_zero, List.length_cons, List.length_nil, List.set_cons_succ, List.set_cons_zero, Nat.reduceAdd, W_bad, W_bind, W_ite, W_pure, aCons, aNil, contW_nx, eCall, eFn, eVar, gN, if_true, len_tup, sAsg]
            refine w_draw p1 (by omega) (by omega) (by omega) fun c h2 a0 a1 p2 => ?_
            obtain ⟨c, rfl⟩ := Int.eq_ofNat_of_zero_le a0
            have hc : c < xs.length := by omega
            have ex : atI xs (c : Int) = some xs[c] := atI_nat (List.getElem?_eq_getElem hc)
            have sl : ∀ lo hi, fSl (.tup xs) lo hi = pure (.tup (cutD xs lo hi)) := fun _ _ => rfl
            have cut : xs.take c ++ (xs[c] :: xs.drop (c + 1)) = xs := by rw [List.getElem_cons_drop, List.take_append_drop]
            rw [← cut] at va
            obtain ⟨b1, b2, hb, t1, x1, b3, tx, t3, hb3⟩ := va.split
            rw [w_cons]; simp only [List.getElem?_cons_succ, List.getElem?_cons_zero, List.length_cons, List.length_nil, Nat.reduceAdd, W_bad, W_bind, W_ite, W_pure, aCons, aNil, add_ii, contW_rt, e2, eFn, eSlice, eTup, eVar, if_true, ix_tup ex, oNone, oSome, sRet, sl, sub_ii]
            rw [show (deep : Int) - 1 = ((deep - 1 : Nat) : Int) by omega]
            refine (bent_w f (deep - 1) p2 (by omega) tx hB (by omega) (by omega)).mono fun y h3 ⟨j, v3, p3⟩ => ?_
            have e1 : cutD xs none (some (c : Int)) = xs.take c := cut_hi _ _
            have e2' : cutD xs (some ((c : Int) + 1)) none = xs.drop (c + 1) := by rw [show (c : Int) + 1 = ((c + 1 : Nat) : Int) by omega]; exact cut_lo _ _
            rw [if_pos (by decide), e1, e2', add_tt (by simp; omega), W_pure, add_tt (by simp; omega), W_pure]
            refine ⟨j, ?_, p3.up (by omega)⟩
            have mm : ∀ {ys : List D} {b : Nat}, Ths (Th r B m') b ys → Ths (Th (r ++ j) (B + 2) (max m' (deep + 2))) b ys := fun {ys b} t => t.imp fun b d t => Th.mono (Kp.app _ _) (by omega) (by omega) (Nat.le_refl _) t
            have ty : Ths (Th (r ++ j) (B + 2) (max m' (deep + 2))) (2 * x1 + 110 + 2) [y] := Ths.one (Th.mono (Kp.refl _) (Nat.le_refl _) (by omega) (Nat.le_refl _) v3)
            exact Th.mono (Kp.refl _) (Nat.le_refl _) (by omega) (Nat.le_refl _) (Th.tuple (((mm t1).app ty).app (mm t3)) (n := 2 * n + 110) (by omega))
          · exact rest _ _ p1 (by omega)
        · exact rest _ _ p (by omega)
      · exact rest _ _ p (by omega)
end FT
namespace FT
open PySem PySem.Spec PyProof.Rows L2
def TA (h : AH) (d : D) : Prop := ∀ (j : AH) (T : String), (T = "int" ∨ T = "bool" ∨ T = "tuple") → fIsi T d (h ++ j) = .ok (.bl (isOf T d)) (h ++ j)
def TB : Nat → AH → D → Prop
  | 0, h, d => TA h d
  | n + 1, h, d => TA h d ∧ ∀ xs, d = .tup xs → ∀ x ∈ xs, TB n h x
theorem TB.ta {h : AH} {d : D} : ∀ {n : Nat}, TB n h d → TA h d
  | 0, t => t
  | n + 1, t => t.1
theorem th_ta {r : AH} {B m n : Nat} {d : D} {h : AH} {k : Int} (v : Th r B m n d) (p : PS h k r) : TA h d := fun j T hT => by
  have p' := p.app j
  rcases hT with rfl | rfl | rfl
  · exact th_isi v (by decide) (by decide) p' (Kp.app _ _)
  · exact th_isi v (by decide) (by decide) p' (Kp.app _ _)
  · exact th_isi v (by decide) (by decide) p' (Kp.app _ _)
theorem th_tb {r : AH} {B : Nat} {h : AH} {k : Int} (p : PS h k r) : ∀ (c : Nat) {m n : Nat} {d : D}, Th r B m n d → TB c h d
  | 0, m, n, d, v => th_ta v p
  | c + 1, m, n, d, v => ⟨th_ta v p, fun xs e x hx => by
    subst e
    obtain ⟨m', a, rfl, va, ha⟩ := v.items
    obtain ⟨b, hb, tx⟩ := va.mem hx
    exact th_tb p c tx⟩
theorem cln_hh {m : M D} {h : AH} {d : D} (e : m h = .ok d h) (c : refLt 0 d = true) : cln m h = .ok d h := by
  exact cln_of (j := []) (by rw [e, List.append_nil]) (refLt_up (Nat.zero_le h.length) c)
theorem isnum_h {h : AH} {d : D} (t : TA h d) (j : AH) : m_is_number [d] (h ++ j) = .ok (.bl (numB d)) (h ++ j) := by
  refine cln_hh (run_h ?_) rfl
  show W (b_is_number [some d]) (h ++ j) _
  unfold b_is_number
  rw [← isNum_is]
  rw [w_cons]; simp only [List.getElem?_cons_zero, W_bind, W_ite, W_pure, contW_rt, eAnd, eIsi, eNot, eVar, sRet]
  refine W.of (t j "int" (.inl rfl)) ?_
  cases e1 : isOf "int" d with
  | false => simp only [Bool.false_eq_true, W_pure, asB_bl, if_false]; exact ⟨rfl, rfl⟩
  | true =>
    simp only [W_pure, asB_bl, if_true]
    refine W.of (t j "bool" (.inr (.inl rfl))) ?_
    cases e2 : isOf "bool" d <;> (simp only [Bool.not_false, Bool.not_true, W_pure, asB_bl]; exact ⟨rfl, rfl⟩)
def natB (n : Int) : D → Bool
  | .int i => decide (0 ≤ i) && decide (i < n)
  | _ => false
theorem e3_h {f g : D → D → M D} {ma mb mc : G → M D} {γ : G} {h : AH} {x y z : D} {b c : Bool} (e1 : ma γ h = .ok x h) (e2' : mb γ h = .ok y h) (e3' : mc γ h = .ok z h) (f1 : f x y h = .ok (.bl b) h) (f2 : g y z h = .ok (.bl c) h) : e3 f g ma mb mc γ h = .ok (.bl (b && c)) h := by
  unfold e3
  rw [M.bind_ok e1, M.bind_ok e2', M.bind_ok f1]
  cases b with
  | false => rfl
  | true =>
    rw [asB_bl]
    show (mc γ >>= fun z => g y z) h = _
    rw [M.bind_ok e3', f2, Bool.true_and]
theorem eand_h {ma mb : G → M D} {γ : G} {h : AH} {b c : Bool} (e1 : ma γ h = .ok (.bl b) h) (e2' : b = true → mb γ h = .ok (.bl c) h) : eAnd ma mb γ h = .ok (.bl (b && c)) h := by
  unfold eAnd
  rw [M.bind_ok e1, asB_bl]
  cases b with
  | false => rfl
  | true => exact e2' rfl
theorem enot_h {ma : G → M D} {γ : G} {h : AH} {b : Bool} (e1 : ma γ h = .ok (.bl b) h) : eNot ma γ h = .ok (.bl (!b)) h := by
  unfold eNot
  rw [M.bind_ok e1, asB_bl]
  rfl
theorem eisi_h {ma : G → M D} {γ : G} {h : AH} {d : D} {T : String} {b : Bool} (e1 : ma γ h = .ok d h) (e2' : fIsi T d h = .ok (.bl b) h) : eIsi T ma γ h = .ok (.bl b) h := by
  unfold eIsi
  rw [M.bind_ok e1, e2']
theorem le_h {a b : Int} {h : AH} : fLe (.int a) (.int b) h = .ok (.bl (decide (a ≤ b))) h := by rw [le_ii]; rfl
theorem lt_h {a b : Int} {h : AH} : fLt (.int a) (.int b) h = .ok (.bl (decide (a < b))) h := by rw [lt_ii]; rfl
theorem corb_h {ka kb : G → M Bool} {γ : G} {h : AH} {a b : Bool} (e1 : ka γ h = .ok a h) (e2' : kb γ h = .ok b h) : cOr ka kb γ h = .ok (a || b) h := by
  unfold cOr
  rw [M.bind_ok e1]
  cases a with
  | false => rw [Bool.false_or]; exact e2'
  | true => rfl
theorem num_int {d : D} (h : numB d = true) : ∃ i, d = .int i := by cases d <;> first | (cases h; done) | exact ⟨_, rfl⟩
theorem nat_num {n : Int} {d : D} (h : numB d = false) : natB n d = false := by cases d <;> first | rfl | cases h
theorem from_h {h : AH} {d : D} (t : TA h d) (j : AH) : m_is_number_from [d, .int 0, .int 39] (h ++ j) = .ok (.bl (natB 40 d)) (h ++ j) := by
  refine cln_hh (run_h ?_) rfl
  show W (b_is_number_from [some d, some (.int 0), some (.int 39)]) (h ++ j) _
  unfold b_is_number_from
  have e1 : eFn 1 m_is_number (aCons (eVar 0) aNil) [some d, some (.int 0), some (.int 39)] (h ++ j) = .ok (.bl (numB d)) (h ++ j) := fn_h (ds := [d]) (ac_h (var_h rfl) rfl) rfl (isnum_h t j)
  cases hn : numB d with
  | false =>
    rw [hn] at e1
    refine q_reth (.bl false) (eand_h (c := false) e1 fun q => nomatch q) ⟨by rw [nat_num hn], rfl⟩
  | true =>
    rw [hn] at e1
    obtain ⟨i, rfl⟩ := num_int hn
    refine q_reth _ (eand_h e1 fun _ => e3_h (var_h rfl) (var_h rfl) (var_h rfl) le_h le_h) ⟨?_, rfl⟩
    show D.bl (true && (decide (0 ≤ i) && decide (i ≤ 39))) = D.bl (decide (0 ≤ i) && decide (i < 40))
    rw [Bool.true_and]
    congr 2
    rw [decide_eq_decide]; omega
theorem lnum_h {h : AH} {d : D} {n : Nat} (t : TA h d) : m__law_number [d, .int 0, .int n] h = .ok (.bl (natB n d)) h := by
  have t0 : ∀ T, (T = "int" ∨ T = "bool" ∨ T = "tuple") → fIsi T d h = .ok (.bl (isOf T d)) h := fun T hT => by have := t [] T hT; rwa [List.append_nil] at this
  refine cln_hh (run_h ?_) rfl
  show W (b__law_number [some d, some (.int 0), some (.int n)]) h _
  unfold b__law_number
  have ni := isNum_is d
  cases hi : isOf "int" d with
  | false =>
    rw [hi] at ni
    exact q_reth (.bl false) (eand_h (b := false) (c := false) (by rw [← hi]; exact eisi_h (var_h rfl) (t0 "int" (.inl rfl))) fun q => nomatch q) ⟨by rw [nat_num (by rw [← ni]; rfl)], rfl⟩
  | true =>
    have e1 : eIsi "int" (eVar 0) [some d, some (.int 0), some (.int n)] h = .ok (.bl true) h := by rw [← hi]; exact eisi_h (var_h rfl) (t0 "int" (.inl rfl))
    have e2' : eNot (eIsi "bool" (eVar 0)) [some d, some (.int 0), some (.int n)] h = .ok (.bl (numB d)) h := by
      rw [← ni, hi, Bool.true_and]
      exact enot_h (eisi_h (var_h rfl) (t0 "bool" (.inr (.inl rfl))))
    cases hn : numB d with
    | false =>
      rw [hn] at e2'
      exact q_reth (.bl false) (eand_h e1 fun _ => eand_h (c := false) e2' fun q => nomatch q) ⟨by rw [nat_num hn], rfl⟩
    | true =>
      rw [hn] at e2'
      obtain ⟨i, rfl⟩ := num_int hn
      refine q_reth _ (eand_h e1 fun _ => eand_h e2' fun _ => e3_h (var_h rfl) (var_h rfl) (var_h rfl) le_h lt_h) ⟨?_, rfl⟩
      simp only [Bool.true_and]
      rfl
theorem istup_h {h : AH} {d : D} (t : TA h d) : m_is_tuple [d] h = .ok (.bl (tupB d)) h := by
  have t0 : ∀ T, (T = "int" ∨ T = "bool" ∨ T = "tuple") → fIsi T d h = .ok (.bl (isOf T d)) h := fun T hT => by have := t [] T hT; rwa [List.append_nil] at this
  refine cln_hh (run_h ?_) rfl
  show W (b_is_tuple [some d]) h _
  unfold b_is_tuple
  exact q_reth _ (eisi_h (var_h rfl) (t0 "tuple" (.inr (.inr rfl)))) ⟨by rw [isTup_is], rfl⟩
def lenB (a b : Int) : D → Bool
  | .tup xs => decide (a ≤ xs.length) && decide ((xs.length : Int) ≤ b)
  | _ => false
theorem tup_of {d : D} (h : tupB d = true) : ∃ xs, d = .tup xs := by cases d <;> first | (cases h; done) | exact ⟨_, rfl⟩
theorem len_nt {a b : Int} {d : D} (h : tupB d = false) : lenB a b d = false := by cases d <;> first | rfl | cases h
theorem lenT_h {xs : List D} {h : AH} : fLen [.tup xs] h = .ok (.int xs.length) h := by rw [len_tup]; rfl
theorem tupof_h {h : AH} {d : D} {a b : Int} (t : TA h d) : m_is_tuple_of [d, .int a, .int b] h = .ok (.bl (lenB a b d)) h := by
  refine cln_hh (run_h ?_) rfl
  show W (b_is_tuple_of [some d, some (.int a), some (.int b)]) h _
  unfold b_is_tuple_of
  have e1 : eFn 1 m_is_tuple (aCons (eVar 0) aNil) [some d, some (.int a), some (.int b)] h = .ok (.bl (tupB d)) h := fn_h (ds := [d]) (ac_h (var_h rfl) rfl) rfl (istup_h t)
  cases ht : tupB d with
  | false =>
    rw [ht] at e1
    exact q_reth (.bl false) (eand_h (c := false) e1 fun q => nomatch q) ⟨by rw [len_nt ht], rfl⟩
  | true =>
    rw [ht] at e1
    obtain ⟨xs, rfl⟩ := tup_of ht
    refine q_reth _ (eand_h e1 fun _ => e3_h (var_h rfl) (call1_h (var_h rfl) lenT_h) (var_h rfl) le_h le_h) ⟨?_, rfl⟩
    rw [Bool.true_and]
    rfl
theorem ltup_h {h : AH} {d : D} {a b : Int} (t : TA h d) : m__law_tuple [d, .int a, .int b] h = .ok (.bl (lenB a b d)) h := by
  have t0 : ∀ T, (T = "int" ∨ T = "bool" ∨ T = "tuple") → fIsi T d h = .ok (.bl (isOf T d)) h := fun T hT => by have := t [] T hT; rwa [List.append_nil] at this
  refine cln_hh (run_h ?_) rfl
  show W (b__law_tuple [some d, some (.int a), some (.int b)]) h _
  unfold b__law_tuple
  have e1 : eIsi "tuple" (eVar 0) [some d, some (.int a), some (.int b)] h = .ok (.bl (tupB d)) h := by rw [← isTup_is]; exact eisi_h (var_h rfl) (t0 "tuple" (.inr (.inr rfl)))
  cases ht : tupB d with
  | false =>
    rw [ht] at e1
    exact q_reth (.bl false) (eand_h (c := false) e1 fun q => nomatch q) ⟨by rw [len_nt ht], rfl⟩
  | true =>
    rw [ht] at e1
    obtain ⟨xs, rfl⟩ := tup_of ht
    refine q_reth _ (eand_h e1 fun _ => e3_h (var_h rfl) (call1_h (var_h rfl) lenT_h) (var_h rfl) le_h le_h) ⟨?_, rfl⟩
    rw [Bool.true_and]
    rfl
def toldB (n : Int) : D → Bool
  | .tup [.tup p, .tup q] => decide (1 ≤ q.length) && decide (p.length + q.length ≤ 400) && (p ++ q).all (natB n)
  | _ => false
theorem two_of {d : D} (h : lenB 2 2 d = true) : ∃ x y, d = .tup [x, y] := by
  cases d with
  | tup xs =>
    have h : (decide ((2 : Int) ≤ xs.length) && decide ((xs.length : Int) ≤ 2)) = true := h
    rw [Bool.and_eq_true, decide_eq_true_eq, decide_eq_true_eq] at h
    have l : xs.length = 2 := by omega
    match xs, l with
    | [x, y], _ => exact ⟨x, y, rfl⟩
  | _ => cases h
theorem told_no {n : Int} {d : D} (h : lenB 2 2 d = false) : toldB n d = false := by
  unfold toldB
  split
  · exact absurd h (by simp [lenB])
  · rfl
theorem told_n1 {n : Int} {x y : D} (h : tupB x = false) : toldB n (.tup [x, y]) = false := by
  cases x <;> first | (cases h; done) | rfl
theorem told_n2 {n : Int} {x y : D} (h : tupB y = false) : toldB n (.tup [x, y]) = false := by
  cases y <;> first | (cases h; done) | (cases x <;> rfl)
theorem addT_h {p q : List D} {h : AH} (l : p.length + q.length ≤ 1000000) : fAdd (.tup p) (.tup q) h = .ok (.tup (p ++ q)) h := by rw [add_tt l]; rfl
theorem all_id {f : D → Bool} (xs : List D) : (xs.map f).all id = xs.all f := by simp [List.all_map, Function.comp_def]
theorem told_h {h : AH} {d : D} (t : TB 2 h d) : m_is_told [d] h = .ok (.bl (toldB 40 d)) h := by
  refine cln_hh (run_h ?_) rfl
  show W (b_is_told [some d, none, none]) h _
  unfold b_is_told
  refine q_ifh (!lenB 2 2 d) (cn_h (cv_h (fn_h (ds := [d, .int 2, .int 2]) (ac_h (var_h rfl) rfl) rfl (tupof_h t.1)))) ?_
  cases hl : lenB 2 2 d with
  | false =>
    rw [if_pos (by rfl)]
    exact q_blk (q_reth (.bl false) rfl ⟨by rw [told_no hl], rfl⟩)
  | true =>
    rw [if_neg (by decide)]
    obtain ⟨x, y, rfl⟩ := two_of hl
    have tx : TB 1 h x := t.2 _ rfl x (by simp)
    have ty : TB 1 h y := t.2 _ rfl y (by simp)
    refine q_nil (q_seth (.tup [x, y]) [some (.tup [x, y]), some x, some y] (var_h rfl) (by simp only [List.length_cons, List.length_nil, List.set_cons_succ, List.set_cons_zero, Nat.reduceAdd, bindP, gConss, gN, gNils, gT, if_true]) ?_)
    refine q_ifh (!tupB x || !tupB y) ?_ ?_
    · have e1 : cNot (cVal (eFn 1 m_is_tuple (aCons (eVar 1) aNil))) [some (.tup [x, y]), some x, some y] h = .ok (!tupB x) h := cn_h (cv_h (fn_h (ds := [x]) (ac_h (var_h rfl) rfl) rfl (istup_h tx.1)))
      have e2' : cNot (cVal (eFn 1 m_is_tuple (aCons (eVar 2) aNil))) [some (.tup [x, y]), some x, some y] h = .ok (!tupB y) h := cn_h (cv_h (fn_h (ds := [y]) (ac_h (var_h rfl) rfl) rfl (istup_h ty.1)))
      exact corb_h e1 e2'
    cases hx : tupB x with
    | false =>
      rw [if_pos (by rfl)]
      exact q_blk (q_reth (.bl false) rfl ⟨by rw [told_n1 hx], rfl⟩)
    | true =>
      cases hy : tupB y with
      | false =>
        rw [if_pos (by rfl)]
        exact q_blk (q_reth (.bl false) rfl ⟨by rw [told_n2 hy], rfl⟩)
      | true =>
        rw [if_neg (by decide)]
        obtain ⟨p, rfl⟩ := tup_of hx
        obtain ⟨q, rfl⟩ := tup_of hy
        refine q_nil (q_ifh (decide (q.length = 0) || decide (400 < p.length + q.length)) ?_ ?_)
        · refine corb_h ((cb_h (e2_h (call1_h (var_h rfl) lenT_h) (y := .int 0) rfl (by rw [eq_ii]; rfl))).trans ?_) ((cb_h (e2_h (e2_h (call1_h (var_h rfl) lenT_h) (call1_h (var_h rfl) lenT_h) (by rw [add_ii]; rfl)) (y := .int 400) rfl (by rw [gt_ii]; rfl))).trans ?_)
          · congr 1; rw [Bool.bne_false, decide_eq_decide]; omega
          · congr 1; rw [decide_eq_decide]; omega
        by_cases c : q.length = 0 ∨ 400 < p.length + q.length
        · rw [if_pos (by simpa using c)]
          refine q_blk (q_reth (.bl false) rfl ⟨?_, rfl⟩)
          have : toldB 40 (.tup [.tup p, .tup q]) = false := by
            show (decide (1 ≤ q.length) && decide (p.length + q.length ≤ 400) && _) = false
            rcases c with c | c
            · rw [decide_eq_false (show ¬ 1 ≤ q.length by omega), Bool.false_and, Bool.false_and]
            · rw [decide_eq_false (show ¬ p.length + q.length ≤ 400 by omega), Bool.and_false, Bool.false_and]
          rw [this]
        · rw [if_neg (by simpa using c)]
          have cc := comp_px (cap := [none]) (mi := iSeqT (e2 fAdd (eVar 1) (eVar 2))) (g := gN 0) (k := fun _ => pure true) (me := eFn 3 m_is_number_from (aCons (eVar 0) (aCons (fun _ => pure (.int 0)) (aCons (e2 fSub (fun _ => pure c_MOST) (fun _ => pure (.int 1))) aNil)))) (γ := [some (.tup [.tup p, .tup q]), some (.tup p), some (.tup q)]) (h := h) (src := .con (p ++ q)) (fun _ => true) (fun d => .bl (natB 40 d)) (seqT_h (e2_h (var_h rfl) (var_h rfl) (addT_h (by omega)))) (fun _ => trivial) (by show (p ++ q).length ≤ _; rw [List.length_append]; omega) fun d hd => ⟨[some d], fun _ => rfl, fun _ => rfl, fun _ j => fn_h (ds := [d, .int 0, .int 39]) rfl rfl (from_h (by
            rcases List.mem_append.mp hd with z | z
            · exact tx.2 _ rfl d z
            · exact ty.2 _ rfl d z) j)⟩
          rw [show (Src.con (p ++ q)).items = p ++ q from rfl, List.filter_eq_self.mpr (fun _ _ => rfl), show List.map (fun d => D.bl (natB 40 d)) (p ++ q) = ((p ++ q).map (natB 40)).map .bl by rw [List.map_map]; rfl] at cc
          refine q_nil (q_reth _ (all_h cc) ⟨?_, rfl⟩)
          rw [all_id]
          show _ = D.bl (decide (1 ≤ q.length) && decide (p.length + q.length ≤ 400) && (p ++ q).all (natB 40))
          rw [decide_eq_true (show 1 ≤ q.length by omega), decide_eq_true (show p.length + q.length ≤ 400 by omega)]
          rfl
theorem nat_of {n : Nat} {d : D} (h : natB n d = true) : ∃ x : Nat, d = .int x ∧ x < n := by
  obtain ⟨i, rfl⟩ : ∃ i, d = .int i := by cases d <;> first | (cases h; done) | exact ⟨_, rfl⟩
  have h : (decide (0 ≤ i) && decide (i < n)) = true := h
  rw [Bool.and_eq_true, decide_eq_true_eq, decide_eq_true_eq] at h
  obtain ⟨x, rfl⟩ := Int.eq_ofNat_of_zero_le h.1
  exact ⟨x, rfl, by omega⟩
theorem nats_of {n : Nat} : ∀ {xs : List D}, xs.all (natB n) = true → ∃ l : List Nat, xs = stD l ∧ ∀ x ∈ l, x < n
  | [], _ => ⟨[], rfl, by simp⟩
  | d :: xs, h => by
    rw [List.all_cons, Bool.and_eq_true] at h
    obtain ⟨x, rfl, hx⟩ := nat_of h.1
    obtain ⟨l, rfl, hl⟩ := nats_of h.2
    exact ⟨x :: l, rfl, by simpa using ⟨hx, hl⟩⟩
structure RT (n : Nat) (p q : List Nat) : Prop where
  ne : 0 < q.length
  l : p.length + q.length ≤ 400
  lt : ∀ x ∈ p ++ q, x < n
theorem told_run {n : Nat} {d : D} (h : toldB n d = true) : ∃ p q, d = rnD p q ∧ RT n p q := by
  unfold toldB at h
  split at h
  · rename_i p q
    rw [Bool.and_eq_true, Bool.and_eq_true, decide_eq_true_eq, decide_eq_true_eq, List.all_append, Bool.and_eq_true] at h
    obtain ⟨⟨h1, h2⟩, h3, h4⟩ := h
    obtain ⟨l, rfl, hl⟩ := nats_of h3
    obtain ⟨m, rfl, hm⟩ := nats_of h4
    rw [st_len] at h1
    rw [st_len, st_len] at h2
    exact ⟨l, m, rfl, h1, h2, fun x hx => (List.mem_append.mp hx).elim (hl x) (hm x)⟩
  · cases h
theorem nats_all {n : Nat} (l : List Nat) : (stD l).all (natB n) = l.all fun x => decide (x < n) := by
  induction l with
  | nil => rfl
  | cons x l ih =>
    show (natB n (.int x) && (stD l).all (natB n)) = _
    rw [ih, List.all_cons]
    congr 1
    show (decide ((0 : Int) ≤ x) && decide ((x : Int) < n)) = _
    rw [decide_eq_true (show (0 : Int) ≤ x by omega), Bool.true_and, decide_eq_decide]
    omega
theorem told_rn {n : Nat} {p q : List Nat} (h0 : 0 < q.length) (h1 : p.length + q.length ≤ 400) : toldB n (rnD p q) = (p ++ q).all fun x => decide (x < n) := by
  show (decide (1 ≤ (stD q).length) && decide ((stD p).length + (stD q).length ≤ 400) && (stD p ++ stD q).all (natB n)) = _
  rw [st_len, st_len, decide_eq_true (show 1 ≤ q.length by omega), decide_eq_true h1, st_app, nats_all]
  rfl
theorem pair_h {h : AH} {d : D} {n : Nat} (t : TB 2 h d) : m__law_pair [d, .int n] h = .ok (.bl (toldB n d)) h := by
  refine cln_hh (run_h ?_) rfl
  show W (b__law_pair [some d, some (.int n), none]) h _
  unfold b__law_pair
  have e1 : cNot (cVal (eFn 3 m__law_tuple (aCons (eVar 0) (aCons (fun _ => pure (.int 2)) (aCons (fun _ => pure (.int 2)) aNil))))) [some d, some (.int n), none] h = .ok (!lenB 2 2 d) h := cn_h (cv_h (fn_h (ds := [d, .int 2, .int 2]) (ac_h (var_h rfl) rfl) rfl (ltup_h t.1)))
  cases hl : lenB 2 2 d with
  | false =>
    rw [hl] at e1
    refine q_ifh true (by unfold cOr; rw [M.bind_ok e1]; rfl) ?_
    rw [if_pos rfl]
    exact q_blk (q_reth (.bl false) rfl ⟨by rw [told_no hl], rfl⟩)
  | true =>
    rw [hl] at e1
    obtain ⟨x, y, rfl⟩ := two_of hl
    have tx : TB 1 h x := t.2 _ rfl x (by simp)
    have ty : TB 1 h y := t.2 _ rfl y (by simp)
    have i0 : ∀ (γ : G) (h : AH), γ[0]? = some (some (.tup [x, y])) → e2 fIx (eVar 0) (fun _ => pure (.int 0)) γ h = .ok x h := fun γ h e => e2_h (var_h e) (y := .int 0) rfl rfl
    have i1 : ∀ (γ : G) (h : AH), γ[0]? = some (some (.tup [x, y])) → e2 fIx (eVar 0) (fun _ => pure (.int 1)) γ h = .ok y h := fun γ h e => e2_h (var_h e) (y := .int 1) rfl rfl
    have e2' : cNot (cVal (eFn 3 m__law_tuple (aCons (e2 fIx (eVar 0) (fun _ => pure (.int 0))) (aCons (fun _ => pure (.int 0)) (aCons (fun _ => pure (.int 400)) aNil))))) [some (.tup [x, y]), some (.int n), none] h = .ok (!lenB 0 400 x) h := cn_h (cv_h (fn_h (ds := [x, .int 0, .int 400]) (ac_h (i0 _ _ rfl) rfl) rfl (ltup_h tx.1)))
    have e3' : cNot (cVal (eFn 3 m__law_tuple (aCons (e2 fIx (eVar 0) (fun _ => pure (.int 1))) (aCons (fun _ => pure (.int 1)) (aCons (fun _ => pure (.int 400)) aNil))))) [some (.tup [x, y]), some (.int n), none] h = .ok (!lenB 1 400 y) h := cn_h (cv_h (fn_h (ds := [y, .int 1, .int 400]) (ac_h (i1 _ _ rfl) rfl) rfl (ltup_h ty.1)))
    refine q_ifh (!lenB 0 400 x || !lenB 1 400 y) (cor_h e1 (corb_h e2' e3')) ?_
    by_cases c : lenB 0 400 x = true ∧ lenB 1 400 y = true
    · rw [c.1, c.2, if_neg (by decide)]
      obtain ⟨p, rfl⟩ : ∃ p, x = .tup p := by have := c.1; cases x <;> first | (cases this; done) | exact ⟨_, rfl⟩
      obtain ⟨q, rfl⟩ : ∃ p, y = .tup p := by have := c.2; cases y <;> first | (cases this; done) | exact ⟨_, rfl⟩
      have c1 : (decide ((1 : Int) ≤ q.length) && decide ((q.length : Int) ≤ 400)) = true := c.2
      rw [Bool.and_eq_true, decide_eq_true_eq, decide_eq_true_eq] at c1
      have c2 : (decide ((0 : Int) ≤ p.length) && decide ((p.length : Int) ≤ 400)) = true := c.1
      rw [Bool.and_eq_true, decide_eq_true_eq, decide_eq_true_eq] at c2
      refine q_nil (q_ifh (decide (400 < p.length + q.length)) ((cb_h (e2_h (e2_h (call1_h (i0 _ _ rfl) lenT_h) (call1_h (i1 _ _ rfl) lenT_h) (by rw [add_ii]; rfl)) (y := .int 400) rfl (by rw [gt_ii]; rfl))).trans (by congr 1; rw [decide_eq_decide]; omega)) ?_)
      by_cases cl : 400 < p.length + q.length
      · rw [decide_eq_true cl, if_pos rfl]
        refine q_blk (q_reth (.bl false) rfl ⟨?_, rfl⟩)
        show _ = D.bl (decide (1 ≤ q.length) && decide (p.length + q.length ≤ 400) && _)
        rw [decide_eq_false (show ¬ p.length + q.length ≤ 400 by omega), Bool.and_false, Bool.false_and]
      · rw [decide_eq_false cl, if_neg (by decide)]
        have tv : toldB n (.tup [.tup p, .tup q]) = (p ++ q).all (natB n) := by
          show (decide (1 ≤ q.length) && decide (p.length + q.length ≤ 400) && _) = _
          rw [decide_eq_true (show 1 ≤ q.length by omega), decide_eq_true (show p.length + q.length ≤ 400 by omega)]
          rfl
        refine q_nil ?_
        rw [w_cons]
        refine for_src (fun c γ h' => ∃ x, γ = [some (.tup [.tup p, .tup q]), some (.int n), x] ∧ h' = h ∧ ∀ (i : Nat) d, i < c → (p ++ q)[i]? = some d → natB n d = true) (fun d h' => d = .bl false ∧ h' = h ∧ (p ++ q).all (natB n) = false) ?_
        refine W_of (seqT_h (e2_h (i0 _ _ rfl) (i1 _ _ rfl) (addT_h (by omega)))) ⟨⟨none, rfl, rfl, fun i d hi => by omega⟩, fun _ _ _ _ => trivial, ?_, ?_, ?_⟩
        · rintro c d _ h1 ed ⟨x, rfl, rfl, hall⟩
          have ed : (p ++ q)[c]? = some d := ed
          have td : TA h1 d := by
            rcases List.mem_append.mp (List.mem_of_getElem? ed) with z | z
            · exact tx.2 _ rfl d z
            · exact ty.2 _ rfl d z
          refine W_eq (v := [some (.tup [.tup p, .tup q]), some (.int n), some d]) (by simp only [List.set_cons_succ, List.set_cons_zero, gN]) ?_
          refine q_ifh (!natB n d) (cn_h (cv_h (fn_h (ds := [d, .int 0, .int n]) rfl rfl (lnum_h td)))) ?_
          cases hn : natB n d with
          | true =>
            rw [if_neg (by decide)]
            refine q_nil (q_done ⟨_, rfl, rfl, fun i d' hi e' => ?_⟩)
            by_cases z : i = c
            · subst z; rw [ed] at e'; cases e'; exact hn
            · exact hall i d' (by omega) e'
          | false =>
            rw [if_pos (by rfl)]
            exact q_blk (q_reth (.bl false) rfl ⟨rfl, rfl, by rw [List.all_eq_false]; exact ⟨d, List.mem_of_getElem? ed, by rw [hn]; decide⟩⟩)
        · rintro _ _ ⟨x, rfl, rfl, hall⟩
          refine q_reth (.bl true) rfl ⟨?_, rfl⟩
          rw [tv, List.all_eq_true.mpr]
          intro d hd
          obtain ⟨i, hi, e⟩ := List.getElem_of_mem hd
          exact hall i d hi (by rw [List.getElem?_eq_getElem hi, e])
        · rintro _ _ ⟨rfl, rfl, ha⟩
          exact ⟨by rw [tv, ha], rfl⟩
    · have : (!lenB 0 400 x || !lenB 1 400 y) = true := by
        cases e : lenB 0 400 x with
        | false => rfl
        | true => rw [e] at c; cases e' : lenB 1 400 y with
          | false => rfl
          | true => exact absurd ⟨rfl, e'⟩ c
      rw [this, if_pos rfl]
      refine q_blk (q_reth (.bl false) rfl ⟨?_, rfl⟩)
      have : toldB n (.tup [x, y]) = false := by
        refine Bool.eq_false_iff.mpr fun z => c ?_
        obtain ⟨p, q, e, rt⟩ := told_run z
        have ne := rt.ne
        have l := rt.l
        unfold rnD at e
        cases e
        refine ⟨?_, ?_⟩
        · show (decide ((0 : Int) ≤ (stD p).length) && decide (((stD p).length : Int) ≤ 400)) = true
          rw [st_len, decide_eq_true (by omega), decide_eq_true (by omega)]; rfl
        · show (decide ((1 : Int) ≤ (stD q).length) && decide (((stD q).length : Int) ≤ 400)) = true
          rw [st_len, decide_eq_true (by omega), decide_eq_true (by omega)]; rfl
      rw [this]
end FT
namespace FT
open PySem PySem.Spec PyProof.Rows L2
theorem ta_int {h : AH} (i : Int) : TA h (.int i) := fun j T hT => by rcases hT with rfl | rfl | rfl <;> rfl
theorem ta_tup {h : AH} (xs : List D) : TA h (.tup xs) := fun j T hT => by rcases hT with rfl | rfl | rfl <;> rfl
theorem tb_rn {h : AH} (p q : List Nat) : TB 2 h (rnD p q) := by
  have ts : ∀ l : List Nat, TB 1 h (.tup (stD l)) := fun l => ⟨ta_tup _, fun xs e x hx => by
    cases e
    obtain ⟨i, _, rfl⟩ := List.mem_map.mp hx
    exact ta_int _⟩
  refine ⟨ta_tup _, fun xs e x hx => ?_⟩
  unfold rnD at e
  cases e
  simp only [List.mem_cons, List.not_mem_nil, or_false] at hx
  rcases hx with rfl | rfl
  · exact ts p
  · exact ts q
theorem RT.all {n : Nat} {p q : List Nat} (g : RT n p q) : ((p ++ q).all fun x => decide (x < n)) = true := by
  rw [List.all_eq_true]
  intro x hx
  exact decide_eq_true (g.lt x hx)
theorem told_q {p q : List Nat} {n : Nat} (g : RT n p q) (hn : n ≤ 40) : m_is_told [rnD p q] = pure (.bl true) := funext fun h => by
  rw [told_h (tb_rn p q), show (40 : Int) = ((40 : Nat) : Int) from rfl, told_rn g.ne g.l, RT.all ⟨g.ne, g.l, fun x hx => by have := g.lt x hx; omega⟩]
  rfl
theorem pair_q {p q : List Nat} {n : Nat} (g : RT n p q) : m__law_pair [rnD p q, .int n] = pure (.bl true) := funext fun h => by
  rw [pair_h (tb_rn p q), told_rn g.ne g.l, g.all]
  rfl
theorem max_q {l : List Nat} (h0 : 0 < l.length) : ∃ m : Int, fMaxT [.tup (stD l)] = pure (.int m) ∧ (∃ x ∈ l, m = (x : Int)) ∧ ∀ x ∈ l, (x : Int) ≤ m := by
  have l0 : 0 < (zN l).length := by unfold zN; simpa using h0
  refine ⟨maxI (zN l), ?_, ?_, ?_⟩
  · unfold fMaxT
    dsimp only
    rw [nums_stD]
    dsimp only
    rw [if_pos l0]
  · obtain ⟨x, hx, e⟩ := List.mem_map.mp (show maxI (zN l) ∈ l.map fun (x : Nat) => (x : Int) from maxI_mem l0)
    exact ⟨x, hx, e.symm⟩
  · intro x hx
    exact maxI_le (List.mem_map.mpr ⟨x, hx, rfl⟩)
theorem acons_q {ma : G → M D} {mr : G → M (List D)} {γ : G} {x : D} {xs : List D} (e : ma γ = pure x) (e' : mr γ = pure xs) : aCons ma mr γ = pure (x :: xs) := by
  unfold aCons; rw [e, bindP, e', bindP]
theorem cat_q {ma mb : G → M D} {γ : G} {p r : List Nat} (h : p.length + r.length ≤ 1000) (ea : ma γ = pure (.tup (stD p))) (eb : mb γ = pure (.tup (stD r))) : e2 fAdd ma mb γ = pure (.tup (stD (p ++ r))) := by
  simp only [bindP, bindB, bCons, bNil, sAsg, sExpr, sRet, sIf, FT.e2, FT.e3, eVar, gN, gT, gConss, gNils, eFn, aCons, aNil, eCall, eTup, eNeg, asB_bl, truD_bl, cVal, cNot, cAnd, cOr, eAnd, eOr, eNot, eIf, oSome, oNone, eSlice, eIsi, isi_bl, isi_int, isi_str, isi_tup, capG, List.map_cons, List.map_nil, Option.join_some, Option.join_none, List.getElem?_cons_succ, List.getElem?_cons_zero, List.set_cons_succ, List.set_cons_zero, List.length_cons, List.length_nil, Nat.reduceAdd, Nat.reduceLeDiff, if_true, if_false, Bool.not_true, Bool.not_false, ite_true, ite_false, reduceIte, Bool.false_eq_true, reduceCtorEq, add_ii, sub_ii, gt_ii, ge_ii, lt_ii, le_ii, eq_ii, size2, size3, len_tup, ix0, ix1, ix2, ixl2, ixl3, eq_ss, Bool.true_bne, Bool.false_bne, Bool.bne_false, Bool.bne_true, bne_self_eq_false, decide_true, decide_false, ea, eb, add_tt (x := stD p) (y := stD r) (by rw [st_len, st_len]; omega), st_app]
def prD (st : List (List Nat)) : D → Bool
  | .tup [.int x, .int y] => decide (y.toNat ∈ nx st x.toNat)
  | _ => false
def stepsB (st : List (List Nat)) (p q : List Nat) : Bool := (List.range (p.length + q.length)).all fun k => decide (((p ++ q) ++ q.take 1).getD (k + 1) 0 ∈ nx st (((p ++ q) ++ q.take 1).getD k 0))
theorem steps_zip {st : List (List Nat)} {p q : List Nat} (h0 : 0 < q.length) : (zipD (stD (p ++ q)) (stD ((p ++ q).drop 1 ++ q.take 1))).all (prD st) = stepsB st p q := by
  obtain ⟨row, hr⟩ : ∃ row, row = p ++ q := ⟨_, rfl⟩
  have rl : row.length = p.length + q.length := by rw [hr, List.length_append]
  have dl : row.drop 1 ++ q.take 1 = (row ++ q.take 1).drop 1 := by rw [List.drop_append_of_le_length (by omega)]
  have tl : (row ++ q.take 1).length = row.length + 1 := by rw [List.length_append, List.length_take]; omega
  unfold stepsB
  rw [← hr, dl, ← rl]
  have g1 : ∀ k, k < row.length → row[k]? = some ((row ++ q.take 1).getD k 0) := fun k hk => by
    rw [List.getD_eq_getElem?_getD, List.getElem?_append_left hk, List.getElem?_eq_getElem hk]; rfl
  have g2 : ∀ k, k < row.length → ((row ++ q.take 1).drop 1)[k]? = some ((row ++ q.take 1).getD (k + 1) 0) := fun k hk => by
    rw [List.getElem?_drop, Nat.add_comm, List.getD_eq_getElem?_getD, List.getElem?_eq_getElem (by omega)]; rfl
  rw [Bool.eq_iff_iff, List.all_eq_true, List.all_eq_true]
  constructor
  · intro z k hk
    have hk := List.mem_range.mp hk
    have m : D.tup [.int ((row ++ q.take 1).getD k 0 : Nat), .int ((row ++ q.take 1).getD (k + 1) 0 : Nat)] ∈ zipD (stD row) (stD ((row ++ q.take 1).drop 1)) := by
      refine List.mem_of_getElem? (i := k) ?_
      unfold zipD stD
      rw [List.getElem?_zipWith, List.getElem?_map, List.getElem?_map, g1 k hk, g2 k hk]
      rfl
    have := z _ m
    simpa [prD] using this
  · intro z d hd
    obtain ⟨i, hi, ei⟩ := List.getElem_of_mem hd
    obtain ⟨x, y, ex, ey, rfl⟩ := zip_at (i := i) (by rw [List.getElem?_eq_getElem hi, ei])
    obtain ⟨a, rfl, ea⟩ := st_get ex
    obtain ⟨b, rfl, eb⟩ := st_get ey
    have hk : i < row.length := (List.getElem?_eq_some_iff.mp ea).1
    have := z i (List.mem_range.mpr hk)
    rw [g1 i hk] at ea
    rw [g2 i hk] at eb
    cases ea; cases eb
    simpa [prD] using this
section
variable {st : List (List Nat)} {mk : List (List Str)} {p r : List Nat}
theorem right_q (g : RT st.length p r) (hs : st.length ≤ 40) : m_right_run [maD st mk, rnD p r] = pure (.bl (stepsB st p r)) := by
  have ne := g.ne
  have l := g.l
  obtain ⟨m, em, ⟨x, hx, rfl⟩, _⟩ := max_q (l := p ++ r) (by rw [List.length_append]; omega)
  have hm := g.lt x hx
  have e : clE (eCall (fAll false) (aCons (eComp [some 0, none, none] (iZip (eVar 4) (e2 fAdd (eSlice (eVar 4) (oSome (fun _ => pure (.int 1))) oNone) (eSlice (eVar 3) oNone (oSome (fun _ => pure (.int 1)))))) (gT 2 (gConss (gN 1) (gConss (gN 2) gNils))) (fun _ => pure true) (e2 (fIn false) (eVar 2) (e2 fIx (e2 fIx (eVar 0) (fun _ => pure (.int 0))) (eVar 1)))) aNil)) [some (maD st mk), some (rnD p r), some (.tup (stD p)), some (.tup (stD r)), some (.tup (stD (p ++ r)))] = _ := cl_allc (γ := [some (maD st mk), some (rnD p r), some (.tup (stD p)), some (.tup (stD r)), some (.tup (stD (p ++ r)))]) (cap := [some 0, none, none]) (mi := iZip (eVar 4) (e2 fAdd (eSlice (eVar 4) (oSome (fun _ => pure (.int 1))) oNone) (eSlice (eVar 3) oNone (oSome (fun _ => pure (.int 1)))))) (g := gT 2 (gConss (gN 1) (gConss (gN 2) gNils))) (k := fun _ => pure true) (me := e2 (fIn false) (eVar 2) (e2 fIx (e2 fIx (eVar 0) (fun _ => pure (.int 0))) (eVar 1))) (items := zipD (stD (p ++ r)) (stD ((p ++ r).drop 1 ++ r.take 1))) false (fun _ => true) (prD st) ?_ ?_ fun d hd => ?_
  · rw [filter_tt, if_neg (by decide), steps_zip ne] at e
    unfold m_right_run
    rw [runF_rt, cln_pure]
    show b_right_run [some (maD st mk), some (rnD p r), none, none, none] = _
    unfold b_right_run
    refine (p_if false ?_).trans ?_
    · simp only [Bool.not_true, List.getElem?_cons_succ, List.getElem?_cons_zero, List.length_cons, List.length_nil, Nat.reduceAdd, aCons, aNil, bindP, cNot, cVal, eFn, eVar, if_true, told_q g hs, truD_bl]
    rw [if_neg (by decide), p_nil, p_set (rnD p r) [some (maD st mk), some (rnD p r), some (.tup (stD p)), some (.tup (stD r)), none] rfl rfl, p_set (.tup (stD (p ++ r))) [some (maD st mk), some (rnD p r), some (.tup (stD p)), some (.tup (stD r)), some (.tup (stD (p ++ r)))] (cat_q (by omega) rfl rfl) rfl]
    refine (p_if false ?_).trans ?_
    · simp only [List.getElem?_cons_succ, List.getElem?_cons_zero, aCons, aNil, asB_bl, bindP, decide_eq_false (show ¬(st.length : Int) ≤ (x : Int) by omega), e2, eCall, eVar, em, ge_ii, ix_ma0, len_tup, sts_len]
    rw [if_neg (by decide), p_nil]
    exact p_ret _ e
  · have e1 : eSlice (eVar 4) (oSome (fun _ => pure (.int 1))) oNone [some (maD st mk), some (rnD p r), some (.tup (stD p)), some (.tup (stD r)), some (.tup (stD (p ++ r)))] = pure (.tup (stD ((p ++ r).drop 1))) := by
      simp only [List.getElem?_cons_succ, List.getElem?_cons_zero, bindP, eSlice, eVar, oNone, oSome]
      rw [sl_tup, show (some (1 : Int)) = some ((1 : Nat) : Int) from rfl, cut_lo]
      unfold stD
      rw [List.map_drop]
    have e2 : eSlice (eVar 3) oNone (oSome (fun _ => pure (.int 1))) [some (maD st mk), some (rnD p r), some (.tup (stD p)), some (.tup (stD r)), some (.tup (stD (p ++ r)))] = pure (.tup (stD (r.take 1))) := by
      simp only [List.getElem?_cons_succ, List.getElem?_cons_zero, bindP, eSlice, eVar, oNone, oSome]
      rw [sl_tup, show (some (1 : Int)) = some ((1 : Nat) : Int) from rfl, cut_hi]
      unfold stD
      rw [List.map_take]
    have e3 := cat_q (p := (p ++ r).drop 1) (r := r.take 1) (by rw [List.length_drop, List.length_take, List.length_append]; omega) e1 e2
    unfold iZip
    rw [acons_q rfl (acons_q e3 rfl), bindP]
  · unfold zipD
    rw [List.length_zipWith, st_len, List.length_append]
    omega
  · obtain ⟨i, hi, ei⟩ := List.getElem_of_mem hd
    obtain ⟨x, y, ex, ey, rfl⟩ := zip_at (i := i) (by rw [List.getElem?_eq_getElem hi, ei])
    obtain ⟨a, rfl, ea⟩ := st_get ex
    obtain ⟨b, rfl, eb⟩ := st_get ey
    have ha := g.lt a (List.mem_of_getElem? ea)
    refine ⟨[some (maD st mk), some (.int (a : Nat)), some (.int (b : Nat))], by simp only [List.getElem?_cons_zero, List.length_cons, List.length_nil, List.map_cons, List.map_nil, List.set_cons_succ, List.set_cons_zero, Nat.reduceAdd, Option.join_some, bindP, capG, gConss, gN, gNils, gT, if_true], rfl, fun _ => ?_⟩
    simp only [Bool.bne_false, List.getElem?_cons_succ, List.getElem?_cons_zero, bindP, e2, eVar, in_st, ix_ma0, ix_row ha]
    simp [prD]
theorem good_q (g : RT st.length p r) : m__law_run_good [maD st mk, rnD p r] = pure (.bl (stepsB st p r)) := by
  have ne := g.ne
  have l := g.l
  obtain ⟨tl, htl⟩ : ∃ tl, tl = (p ++ r) ++ r.take 1 := ⟨_, rfl⟩
  have tle : tl.length = p.length + r.length + 1 := by rw [htl, List.length_append, List.length_append, List.length_take]; omega
  have tn : ∀ x ∈ tl, x < st.length := fun x hx => by
    rw [htl] at hx
    rcases List.mem_append.mp hx with z | z
    · exact g.lt x z
    · exact g.lt x (List.mem_append_right _ (List.mem_of_mem_take z))
  unfold stepsB
  rw [← htl, show p.length + r.length = tl.length - 1 by omega]
  unfold m__law_run_good
  refine cln_W rfl fun h => ?_
  refine w_run ?_
  show W (b__law_run_good [some (maD st mk), some (rnD p r), none, none]) h _
  unfold b__law_run_good
  refine q_if false ?_ ?_
  · simp only [Bool.not_true, List.getElem?_cons_succ, List.getElem?_cons_zero, List.length_cons, List.length_nil, Nat.reduceAdd, aCons, aNil, bindP, cNot, cVal, e2, eCall, eFn, eVar, if_true, ix_ma0, len_tup, pair_q g, sts_len, truD_bl]
  rw [if_neg (by decide)]
  refine q_nil ?_
  refine q_set (.tup (stD tl)) [some (maD st mk), some (rnD p r), some (.tup (stD tl)), none] ?_ rfl ?_
  · rw [htl]
    refine cat_q (by rw [List.length_append, List.length_take]; omega) (cat_q (by omega) (by unfold rnD; simp only [List.getElem?_cons_succ, List.getElem?_cons_zero, bindP, e2, eVar, ix0]) (by unfold rnD; simp only [List.getElem?_cons_succ, List.getElem?_cons_zero, bindP, e2, eVar, ix1])) ?_
    unfold rnD
    simp only [List.getElem?_cons_succ, List.getElem?_cons_zero, bindP, e2, eSlice, eVar, ix1, oNone, oSome]
    rw [sl_tup, show (some (1 : Int)) = some ((1 : Nat) : Int) from rfl, cut_hi]
    unfold stD
    rw [List.map_take]
  rw [w_cons]
  refine for_range (fun c γ h' => ∃ x, γ = [some (maD st mk), some (rnD p r), some (.tup (stD tl)), x] ∧ h' = h ∧ ∀ k, k < c → tl.getD (k + 1) 0 ∈ nx st (tl.getD k 0)) (fun d h' => d = .bl false ∧ h' = h ∧ ∃ k, k < tl.length - 1 ∧ tl.getD (k + 1) 0 ∉ nx st (tl.getD k 0)) ?_
  refine W_eq (v := .int ((tl.length - 1 : Nat) : Int)) ?_ ⟨tl.length - 1, rfl, by omega, ⟨none, rfl, rfl, fun k hk => by omega⟩, ?_, ?_, ?_⟩
  · simp only [List.getElem?_cons_succ, List.getElem?_cons_zero, aCons, aNil, bindP, e2, eCall, eVar, len_tup, st_len, sub_ii]
    rw [show (tl.length : Int) - 1 = ((tl.length - 1 : Nat) : Int) by omega]
  · rintro c _ _ hc ⟨x, rfl, rfl, hk⟩
    have g1 : tl[c]? = some (tl.getD c 0) := by rw [List.getD_eq_getElem?_getD, List.getElem?_eq_getElem (by omega)]; rfl
    have g2 : tl[c + 1]? = some (tl.getD (c + 1) 0) := by rw [List.getD_eq_getElem?_getD, List.getElem?_eq_getElem (by omega)]; rfl
    show W (bCons _ _ [some (maD st mk), some (rnD p r), some (.tup (stD tl)), some (.int (c : Nat))]) _ _
    refine q_if (decide (tl.getD (c + 1) 0 ∈ nx st (tl.getD c 0)) != true) ?_ ?_
    · have i1 : fIx (.tup (stD tl)) (.int ((c : Int) + 1)) = pure (.int (tl.getD (c + 1) 0 : Nat)) := by
        rw [show (c : Int) + 1 = ((c + 1 : Nat) : Int) by omega]
        exact ix_tup (atI_nat (by unfold stD; rw [List.getElem?_map, g2]; rfl))
      have i2 : fIx (.tup (stD tl)) (.int (c : Nat)) = pure (.int (tl.getD c 0 : Nat)) := ix_tup (atI_nat (by unfold stD; rw [List.getElem?_map, g1]; rfl))
      simp only [Bool.bne_true, List.getElem?_cons_succ, List.getElem?_cons_zero, add_ii, asB_bl, bindP, e2, eVar, i1, i2, in_st, ix_ma0, ix_row (tn _ (List.mem_of_getElem? g1))]
    · by_cases hin : tl.getD (c + 1) 0 ∈ nx st (tl.getD c 0)
      · rw [decide_eq_true hin, if_neg (by decide)]
        refine q_nil (q_done ⟨_, rfl, rfl, fun k hk' => ?_⟩)
        by_cases e : k = c
        · rw [e]; exact hin
        · exact hk k (by omega)
      · rw [decide_eq_false hin, if_pos (by decide)]
        refine q_blk ?_
        exact q_reth (.bl false) rfl ⟨rfl, rfl, c, hc, hin⟩
  · rintro _ _ ⟨x, rfl, rfl, hk⟩
    refine q_reth (.bl true) rfl ⟨?_, [], by simp⟩
    rw [List.all_eq_true.mpr]
    intro k hk'
    rw [List.mem_range] at hk'
    exact decide_eq_true (hk k hk')
  · rintro _ _ ⟨rfl, rfl, k, hk, hn⟩
    refine ⟨?_, [], by simp⟩
    congr 1
    symm
    rw [List.all_eq_false]
    exact ⟨k, List.mem_range.mpr hk, by simpa using hn⟩
theorem good_no {h : AH} {d : D} (t : TB 2 h d) (e : toldB st.length d = false) : m__law_run_good [maD st mk, d] h = .ok (.bl false) h := by
  refine cln_hh (run_h ?_) rfl
  show W (b__law_run_good [some (maD st mk), some d, none, none]) h _
  unfold b__law_run_good
  refine q_ifh true ((cn_h (cv_h (fn_h (ds := [d, .int st.length]) (ac_h (var_h rfl) (ac_h (call1_h (e2_h (var_h rfl) (y := .int 0) rfl (by rw [ix_ma0]; rfl)) (by rw [len_tup, sts_len]; rfl)) rfl)) rfl (pair_h t)))).trans (by rw [e]; rfl)) ?_
  rw [if_pos rfl]
  exact q_blk (q_reth (.bl false) rfl ⟨rfl, rfl⟩)
theorem right_no {h : AH} {d : D} (t : TB 2 h d) (hs : st.length ≤ 40) (e : toldB st.length d = false) : m_right_run [maD st mk, d] h = .ok (.bl false) h := by
  refine cln_hh (run_h ?_) rfl
  show W (b_right_run [some (maD st mk), some d, none, none, none]) h _
  unfold b_right_run
  refine q_ifh (!toldB 40 d) (cn_h (cv_h (fn_h (ds := [d]) (ac_h (var_h rfl) rfl) rfl (told_h t)))) ?_
  cases e4 : toldB 40 d with
  | false =>
    rw [if_pos (by rfl)]
    exact q_blk (q_reth (.bl false) rfl ⟨rfl, rfl⟩)
  | true =>
    rw [if_neg (by decide)]
    obtain ⟨p, r, rfl, g⟩ := told_run (n := 40) e4
    have ne := g.ne
    have l := g.l
    rw [told_rn ne l, List.all_eq_false] at e
    obtain ⟨y, hy, ny⟩ := e
    obtain ⟨m, em, _, hm⟩ := max_q (l := p ++ r) (by rw [List.length_append]; omega)
    have := hm y hy
    have ny : ¬ y < st.length := by simpa using ny
    refine q_nil (q_set (rnD p r) [some (maD st mk), some (rnD p r), some (.tup (stD p)), some (.tup (stD r)), none] rfl rfl (q_set (.tup (stD (p ++ r))) [some (maD st mk), some (rnD p r), some (.tup (stD p)), some (.tup (stD r)), some (.tup (stD (p ++ r)))] (cat_q (by omega) rfl rfl) rfl ?_))
    refine q_if true ?_ ?_
    · simp only [List.getElem?_cons_succ, List.getElem?_cons_zero, aCons, aNil, asB_bl, bindP, decide_eq_true (show (st.length : Int) ≤ m by omega), e2, eCall, eVar, em, ge_ii, ix_ma0, len_tup, sts_len]
    rw [if_pos rfl]
    exact q_blk (q_reth (.bl false) rfl ⟨rfl, rfl⟩)
theorem both_h {h : AH} {d : D} (t : TB 2 h d) (hs : st.length ≤ 40) : ∃ b, m_right_run [maD st mk, d] h = .ok (.bl b) h ∧ m__law_run_good [maD st mk, d] h = .ok (.bl b) h := by
  cases e : toldB st.length d with
  | false => exact ⟨false, right_no t hs e, good_no t e⟩
  | true =>
    obtain ⟨p, r, rfl, g⟩ := told_run e
    exact ⟨stepsB st p r, by rw [right_q g hs]; rfl, by rw [good_q g]; rfl⟩
end
end FT
namespace FT
open PySem PySem.Spec PyProof.Rows L2
theorem lst1_h {ma : G → M D} {γ : G} {h h1 : AH} {x : D} (e : ma γ h = .ok x h1) : eLst (aCons ma aNil) γ h = .ok (.ref h1.length) (h1 ++ [.lst [x]]) := by
  have e1 : aCons ma aNil γ h = .ok [x] h1 := ac_h e rfl
  unfold eLst
  rw [M.bind_ok e1]
  exact new_h (by simp)
structure Tr (n one len : Nat) (T : List Nat) : Prop where
  hd : T.head? = some one
  l : T.length ≤ len
  lt : ∀ x ∈ T, x < n
theorem Tr.ne {n one len : Nat} {T : List Nat} (g : Tr n one len T) : 0 < T.length := by
  cases T with
  | nil => cases g.hd
  | cons a T => simp
theorem last_at {T : List Nat} (h : 0 < T.length) : atI (stD T) (-1) = some (.int ((T.getLastD 0 : Nat) : Int)) := by
  unfold atI ixN
  rw [st_len]
  have e : ((-1 : Int) + T.length).toNat = T.length - 1 := by omega
  rw [if_neg (by omega), if_pos (by omega)]
  show (stD T)[((-1 : Int) + T.length).toNat]? = _
  rw [e]
  unfold stD
  rw [List.getElem?_map, List.getElem?_eq_getElem (by omega)]
  show some (D.int ((T[T.length - 1] : Nat) : Int)) = _
  congr 2
  rw [List.getLastD_eq_getLast?, List.getLast?_eq_getElem?, List.getElem?_eq_getElem (by omega)]
  rfl
theorem last_mem {T : List Nat} (h : 0 < T.length) : T.getLastD 0 ∈ T := by
  rw [List.getLastD_eq_getLast?, List.getLast?_eq_getElem?, List.getElem?_eq_getElem (by omega)]
  exact List.getElem_mem _
theorem walk_w {st : List (List Nat)} {mk : List (List Str)} {one many : Nat} {h : AH} {k : Int} {r : AH} {Q : D → AH → Prop} (p : PS h k r) (hk : k < 900000) (ma : MA st mk) (ho : one < st.length) (hm : many ≤ 11)
    (z : ∀ T h', Tr st.length one (many + 1) T → PS h' (k + many) (r ++ [.lst (stD T)]) → Q (.ref (r.length + 3)) h') : W (m__law_walk [.ref 2, maD st mk, .int (one : Nat), .int (many : Nat)]) h Q := by
  have l2 := ma.l2
  refine W_clnL p trivial ?_
  refine w_run ?_
  show W (b__law_walk [some (.ref 2), some (maD st mk), some (.int (one : Nat)), some (.int (many : Nat)), none, none, none]) h _
  unfold b__law_walk
  have hl : h.length = r.length + 3 := p.len
  refine q_seth (.ref (r.length + 3)) [some (.ref 2), some (maD st mk), some (.int (one : Nat)), some (.int (many : Nat)), some (.ref (r.length + 3)), none, none] (by rw [← hl]; exact lst1_h (var_h rfl)) rfl ?_
  rw [w_cons]
  refine for_range (fun c γ h' => ∃ (T : List Nat) (x y : Option D) (k' : Int), γ = [some (.ref 2), some (maD st mk), some (.int (one : Nat)), some (.int (many : Nat)), some (.ref (r.length + 3)), x, y] ∧ PS h' k' (r ++ [.lst (stD T)]) ∧ k' ≤ k + c ∧ Tr st.length one (c + 1) T) (fun _ _ => False) ?_
  refine W_of (v := .int (many : Nat)) rfl ⟨many, rfl, by omega, ⟨[one], none, none, k, rfl, p.app _, by omega, ⟨rfl, by simp, by simpa using ho⟩⟩, ?_, ?_, fun _ _ q => q.elim⟩
  · rintro c _ h1 hc ⟨T, x, y, k', rfl, p1, hk', tr⟩
    have g1 : h1[r.length + 3]? = some (.lst (stD T)) := by rw [p1.get]; exact at_nw
    have ne := tr.ne
    have lm := tr.lt _ (last_mem ne)
    have tl := tr.l
    show W (bCons _ _ [some (.ref 2), some (maD st mk), some (.int (one : Nat)), some (.int (many : Nat)), some (.ref (r.length + 3)), some (.int (c : Nat)), y]) h1 _
    refine q_seth (.tup (stD (nx st (T.getLastD 0)))) [some (.ref 2), some (maD st mk), some (.int (one : Nat)), some (.int (many : Nat)), some (.ref (r.length + 3)), some (.int (c : Nat)), some (.tup (stD (nx st (T.getLastD 0))))] (e2_h (e2_h (var_h rfl) (y := .int 0) rfl (by rw [ix_ma0]; rfl)) (e2_h (var_h rfl) (y := .int (-1)) rfl (ix_h g1 (last_at ne))) (by rw [ix_row lm]; rfl)) rfl ?_
    obtain ⟨N, hN⟩ : ∃ N, N = nx st (T.getLastD 0) := ⟨_, rfl⟩
    have nl : ∀ x ∈ N, x < st.length := by rw [hN]; exact fun x hx => ma.s2 _ (List.mem_of_getElem? (nx_get lm)) x hx
    have nlen : N.length ≤ 40 := by
      have := nodup_len (rise_nd (ma.s1 _ (List.mem_of_getElem? (nx_get lm)))) (ma.s2 _ (List.mem_of_getElem? (nx_get lm)))
      rw [hN]; omega
    rw [← hN]
    refine q_ifh (decide (0 < N.length)) ((cb_h (e2_h (call1_h (d := .tup (stD N)) (var_h rfl) (by rw [len_tup, st_len]; rfl)) (y := .int 0) rfl (by rw [gt_ii]; rfl))).trans (by congr 1; rw [decide_eq_decide]; omega)) ?_
    by_cases h0 : 0 < N.length
    · rw [decide_eq_true h0, if_pos rfl]
      refine q_blk ?_
      obtain ⟨t, h2, e2', t0, t1, p2⟩ := draw p1 (by omega) (show 0 < (N.length : Int) by omega) (by omega)
      obtain ⟨t, rfl⟩ := Int.eq_ofNat_of_zero_le t0
      have g2 : h2[r.length + 3]? = some (.lst (stD T)) := by rw [p2.get]; exact at_nw
      refine q_appG (i := r.length + 3) (xs := stD T) rfl g1 (e2_h (x := .tup (stD N)) (var_h rfl) (fn_h (ds := [.ref 2, .int (N.length : Nat)]) (ac_h (var_h rfl) (ac_h (call1_h (d := .tup (stD N)) (var_h rfl) (by rw [len_tup, st_len]; rfl)) rfl)) rfl e2') (by rw [ix_tup (st_at (show t < N.length by omega))]; rfl)) g2 (by rw [st_len]; omega) ?_
      refine q_nil (q_done ⟨T ++ [(N[t]?).getD 0], _, _, k' + 1, rfl, ?_, by omega, ?_, ?_, ?_⟩)
      · have := p2.set r.length (.lst (stD T ++ [.int (((N[t]?).getD 0 : Nat) : Int)]))
        rw [set_nw, st_snoc] at this
        rw [st_snoc]
        exact this
      · have := tr.hd
        cases T with
        | nil => cases this
        | cons a T => exact this
      · rw [List.length_append, List.length_singleton]; omega
      · intro x hx
        rcases List.mem_append.mp hx with q | q
        · exact tr.lt x q
        · simp at q
          subst q
          rw [List.getElem?_eq_getElem (by omega)]
          exact nl _ (List.getElem_mem _)
    · rw [decide_eq_false h0, if_neg (by decide)]
      exact q_nil (q_done ⟨T, _, _, k', rfl, p1, by omega, tr.hd, by omega, tr.lt⟩)
  · rintro _ h1 ⟨T, x, y, k', rfl, p1, hk', tr⟩
    exact q_reth _ (var_h rfl) ⟨k + many, [.lst (stD T)], r.length, stD T, rfl, p1.up hk', Nat.le_refl _, at_nw, refs_st T, fun h2 p2 => z T h2 tr p2⟩
theorem slR_h {h : AH} {i : Nat} {xs : List D} {lo hi : Option Int} (e : h[i]? = some (.lst xs)) (hl : (cutD xs lo hi).length ≤ 1000) : fSl (.ref i) lo hi h = .ok (.ref h.length) (h ++ [.lst (cutD xs lo hi)]) := by
  have g : getL i h = .ok xs h := by unfold getL; rw [e]
  show (getL i >>= fun xs => newL (cutD xs lo hi)) h = _
  rw [M.bind_ok g]
  exact new_h (by omega)
theorem oSome_h {mb : G → M D} {γ : G} {h h1 : AH} {c : Int} (e : mb γ h = .ok (.int c) h1) : oSome mb γ h = .ok (some c) h1 := by
  unfold oSome
  rw [M.bind_ok e]
  rfl
theorem hi_h {ma mb : G → M D} {γ : G} {h : AH} {i : Nat} {xs : List D} {c : Nat} (e1 : ma γ h = .ok (.ref i) h) (e2' : mb γ h = .ok (.int (c : Nat)) h) (e : h[i]? = some (.lst xs)) (hl : xs.length ≤ 1000) : eSlice ma oNone (oSome mb) γ h = .ok (.ref h.length) (h ++ [.lst (xs.take c)]) := by
  unfold eSlice
  rw [M.bind_ok e1, M.bind_ok (show oNone γ h = .ok none h from rfl), M.bind_ok (oSome_h e2'), slR_h e (by rw [cut_hi]; exact Nat.le_trans (by rw [List.length_take]; omega) hl), cut_hi]
theorem lo_h {ma mb : G → M D} {γ : G} {h : AH} {i : Nat} {xs : List D} {c : Nat} (e1 : ma γ h = .ok (.ref i) h) (e2' : mb γ h = .ok (.int (c : Nat)) h) (e : h[i]? = some (.lst xs)) (hl : xs.length ≤ 1000) : eSlice ma (oSome mb) oNone γ h = .ok (.ref h.length) (h ++ [.lst (xs.drop c)]) := by
  unfold eSlice
  rw [M.bind_ok e1, M.bind_ok (oSome_h e2'), M.bind_ok (show oNone γ h = .ok none h from rfl), slR_h e (by rw [cut_lo]; exact Nat.le_trans (by rw [List.length_drop]; omega) hl), cut_lo]
theorem closed_w {st : List (List Nat)} {mk : List (List Str)} {one many : Nat} {h : AH} {k : Int} {r : AH} {Q : D → AH → Prop} (p : PS h k r) (hk : k < 800000) (ma : MA st mk) (ho : one < st.length) (hm : many ≤ 11)
    (z : ∀ pa ri h', RT st.length pa ri → pa.length + ri.length ≤ 12 → PS h' (k + 15) r → Q (rnD pa ri) h') : W (m__law_closed [.ref 2, maD st mk, .int (one : Nat), .int (many : Nat)]) h Q := by
  refine W_cln p trivial ?_
  refine w_run ?_
  show W (b__law_closed [some (.ref 2), some (maD st mk), some (.int (one : Nat)), some (.int (many : Nat)), none, none, none]) h _
  unfold b__law_closed sComp'
  refine q_setJ (fun d h1 => ∃ T, d = .ref (r.length + 3) ∧ Tr st.length one (many + 1) T ∧ PS h1 (k + many) (r ++ [.lst (stD T)])) ?_ ?_
  · simp only [List.getElem?_cons_succ, List.getElem?_cons_zero, List.length_cons, List.length_nil, Nat.reduceAdd, W_bad, W_bind, W_ite, W_pure, aCons, aNil, eFn, eVar, if_true]
    exact walk_w p (by omega) ma ho hm fun T h' tr p' => ⟨T, rfl, tr, p'⟩
  rintro _ h1 ⟨T, rfl, tr, p1⟩
  have ne := tr.ne
  have tl := tr.l
  have lm := tr.lt _ (last_mem ne)
  have g1 : h1[r.length + 3]? = some (.lst (stD T)) := by rw [p1.get]; exact at_nw
  have hl1 : h1.length = r.length + 1 + 3 := by rw [p1.len, List.length_append]; rfl
  show W (bCons _ _ [some (.ref 2), some (maD st mk), some (.int (one : Nat)), some (.int (many : Nat)), some (.ref (r.length + 3)), none, none]) h1 _
  have cc := comp_st (cap := [some 4, some 1, none]) (mi := iRange (eCall fLen (aCons (eVar 4) aNil))) (g := gN 2) (kb := fun γ => do let d ← e2 (fIn false) (e2 fIx (eVar 0) (eVar 2)) (e2 fIx (e2 fIx (eVar 1) (fun _ => pure (.int 0))) (e2 fIx (eVar 0) (eNeg (fun _ => pure (.int 1))))) γ; asB d) (me := eVar 2) (γ := [some (.ref 2), some (maD st mk), some (.int (one : Nat)), some (.int (many : Nat)), some (.ref (r.length + 3)), none, none]) (h := h1) (src := .con (intsD T.length)) (l := List.range T.length) (fun x => decide ((T[x]?).getD 0 ∈ nx st (T.getLastD 0))) (fun x => .int x) (range_src (call1_h (var_h rfl) (by rw [len_h g1, st_len])) (by omega)) rfl (fun _ => trivial) (by simp; omega) fun x hx => ⟨[some (.ref (r.length + 3)), some (maD st mk), some (.int x)], fun _ => rfl, fun j => (cb_h (e2_h (e2_h (var_h rfl) (var_h rfl) (ix_h (at_app g1) (st_at (by simpa using hx)))) (e2_h (e2_h (var_h rfl) (y := .int 0) rfl (by rw [ix_ma0]; rfl)) (e2_h (var_h rfl) (y := .int (-1)) rfl (ix_h (at_app g1) (last_at ne))) (by rw [ix_row lm]; rfl)) (by rw [in_st]; rfl))).trans (by simp), fun _ _ => rfl⟩
  obtain ⟨P, hP⟩ : ∃ P, P = (List.range T.length).filter fun x => decide ((T[x]?).getD 0 ∈ nx st (T.getLastD 0)) := ⟨_, rfl⟩
  have Pl : ∀ x ∈ P, x < T.length := fun x hx => by rw [hP] at hx; simpa using (List.mem_filter.mp hx).1
  have Pn : P.length ≤ 12 := by
    have := List.length_filter_le (fun x => decide ((T[x]?).getD 0 ∈ nx st (T.getLastD 0))) (List.range T.length)
    rw [← hP, List.length_range] at this
    omega
  rw [← hP] at cc
  have cc : _ = Res.ok (D.ref h1.length) (h1 ++ [O.lst (stD P)]) := cc
  refine q_seth (.ref h1.length) [some (.ref 2), some (maD st mk), some (.int (one : Nat)), some (.int (many : Nat)), some (.ref (r.length + 3)), some (.ref h1.length), none] cc rfl ?_
  have p2 := p1.app [.lst (stD P)]
  have g2 : (h1 ++ [O.lst (stD P)])[h1.length]? = some (.lst (stD P)) := at_nw
  have g3 : (h1 ++ [O.lst (stD P)])[r.length + 3]? = some (.lst (stD T)) := at_app g1
  refine w_seq (fun γ h' => ∃ (P' : List Nat) (i : Nat) (j : AH), γ = [some (.ref 2), some (maD st mk), some (.int (one : Nat)), some (.int (many : Nat)), some (.ref (r.length + 3)), some (.ref i), none] ∧ PS h' (k + many + 1) (r ++ j) ∧ h'[i]? = some (.lst (stD P')) ∧ (∃ i', i = i' + 3 ∧ (r ++ j)[i']? = some (.lst (stD P'))) ∧ (r ++ j)[r.length]? = some (.lst (stD T)) ∧ 0 < P'.length ∧ P'.length ≤ 12 ∧ ∀ x ∈ P', x < T.length) ?_ ?_
  · refine (w_if).mpr ?_
    refine W_of (v := decide (P.length = 0)) (h1 := h1 ++ [O.lst (stD P)]) ((cb_h (e2_h (call1_h (var_h rfl) (len_h g2)) (y := .int 0) rfl (by rw [eq_ii]; rfl))).trans ?_) ?_
    · congr 1
      rw [st_len, Bool.bne_false, decide_eq_decide]
      omega
    by_cases p0 : P.length = 0
    · rw [decide_eq_true p0, if_pos rfl]
      obtain ⟨t, h2, e2', t0, t1, p3⟩ := draw p2 (by omega) (show 0 < (T.length : Int) by omega) (by omega)
      obtain ⟨t, rfl⟩ := Int.eq_ofNat_of_zero_le t0
      refine q_seth (.ref h2.length) [some (.ref 2), some (maD st mk), some (.int (one : Nat)), some (.int (many : Nat)), some (.ref (r.length + 3)), some (.ref h2.length), none] (lst1_h (fn_h (ds := [.ref 2, .int (T.length : Nat)]) (ac_h (var_h rfl) (ac_h (call1_h (var_h rfl) (by rw [len_h g3, st_len])) rfl)) rfl e2')) rfl ?_
      have p4 := p3.app [.lst [.int (t : Nat)]]
      have hl2 := p3.len
      rw [List.append_assoc, List.append_assoc] at p4
      refine q_done ⟨[t], h2.length, _, rfl, p4, at_nw, ⟨(r ++ [O.lst (stD T)] ++ [O.lst (stD P)]).length, by rw [hl2], ?_⟩, ?_, by simp, by simp, by simpa using (show t < T.length by omega)⟩
      · rw [← List.append_assoc, ← List.append_assoc]
        exact at_nw
      · rw [List.getElem?_append_right (Nat.le_refl _), Nat.sub_self]
        rfl
    · rw [decide_eq_false p0, if_neg (by decide)]
      refine q_done ⟨P, h1.length, [.lst (stD T)] ++ [.lst (stD P)], rfl, ?_, g2, ⟨r.length + 1, by rw [hl1], ?_⟩, ?_, by omega, Pn, Pl⟩
      · rw [← List.append_assoc]
        exact p2.up (by omega)
      · rw [← List.append_assoc, show r.length + 1 = (r ++ [O.lst (stD T)]).length by simp]
        exact at_nw
      · rw [List.getElem?_append_right (Nat.le_refl _), Nat.sub_self]
        rfl
  rintro _ h3 ⟨P', i, j, rfl, p3, g5, ⟨i', ei, gi⟩, g4, n0, n1, nT⟩
  have g6 : h3[r.length + 3]? = some (.lst (stD T)) := by rw [p3.get]; exact g4
  obtain ⟨t, h4, e4, t0, t1, p4⟩ := draw p3 (by omega) (show 0 < (P'.length : Int) by omega) (by omega)
  obtain ⟨t, rfl⟩ := Int.eq_ofNat_of_zero_le t0
  have g7 : h4[i]? = some (.lst (stD P')) := by rw [ei, p4.get]; exact gi
  have g8 : h4[r.length + 3]? = some (.lst (stD T)) := by rw [p4.get]; exact g4
  obtain ⟨c, hc⟩ : ∃ c, c = (P'[t]?).getD 0 := ⟨_, rfl⟩
  have cT : c < T.length := by
    rw [hc, List.getElem?_eq_getElem (by omega)]
    exact nT _ (List.getElem_mem _)
  refine q_seth (.int (c : Nat)) [some (.ref 2), some (maD st mk), some (.int (one : Nat)), some (.int (many : Nat)), some (.ref (r.length + 3)), some (.ref i), some (.int (c : Nat))] (e2_h (var_h rfl) (fn_h (ds := [.ref 2, .int (P'.length : Nat)]) (ac_h (var_h rfl) (ac_h (call1_h (var_h rfl) (by rw [len_h g5, st_len])) rfl)) rfl e4) (by rw [hc]; exact ix_h g7 (st_at (by omega)))) rfl ?_
  have s1 := hi_h (γ := [some (.ref 2), some (maD st mk), some (.int (one : Nat)), some (.int (many : Nat)), some (.ref (r.length + 3)), some (.ref i), some (.int (c : Nat))]) (ma := eVar 4) (mb := eVar 6) (var_h rfl) (var_h rfl) g8 (by rw [st_len]; omega)
  rw [show (stD T).take c = stD (T.take c) by unfold stD; rw [List.map_take]] at s1
  have s2 := lo_h (γ := [some (.ref 2), some (maD st mk), some (.int (one : Nat)), some (.int (many : Nat)), some (.ref (r.length + 3)), some (.ref i), some (.int (c : Nat))]) (ma := eVar 4) (mb := eVar 6) (h := h4 ++ [.lst (stD (T.take c))]) (var_h rfl) (var_h rfl) (at_app g8) (by rw [st_len]; omega)
  rw [show (stD T).drop c = stD (T.drop c) by unfold stD; rw [List.map_drop]] at s2
  refine q_reth (rnD (T.take c) (T.drop c)) (tup2_h (call1_h s1 (tup_h at_nw)) (call1_h s2 (tup_h at_nw))) ⟨k + 15, j ++ [.lst (stD (T.take c)), .lst (stD (T.drop c))], ?_, ref_rn _ _, fun h5 p5 => z _ _ h5 ⟨?_, ?_, ?_⟩ ?_ p5⟩
  · have := (p4.app [.lst (stD (T.take c)), .lst (stD (T.drop c))]).up (k' := k + 15) (by omega)
    rw [List.append_assoc] at this
    simpa using this
  · rw [List.length_drop]; omega
  · rw [List.length_take, List.length_drop]; omega
  · rw [List.take_append_drop]; exact tr.lt
  · rw [List.length_take, List.length_drop]; omega
end FT
namespace FT
open PySem PySem.Spec PyProof.Rows L2
theorem rn0 {p q : List Nat} : fIx (rnD p q) (.int 0) = pure (.tup (stD p)) := ix0
theorem rn1 {p q : List Nat} : fIx (rnD p q) (.int 1) = pure (.tup (stD q)) := ix1
theorem size1 : ((1 : Nat) ≤ sizeLine) = True := by simp [sizeLine]
theorem tup2_q {ma mb : G → M D} {γ : G} {x y : D} (e1 : ma γ = pure x) (e2' : mb γ = pure y) : eTup (aCons ma (aCons mb aNil)) γ = pure (.tup [x, y]) := by
  unfold eTup
  rw [acons_q e1 (acons_q e2' rfl), bindP]
  exact if_pos (show (2 : Nat) ≤ sizeLine by decide)
def putR (l : List Nat) (t o : Nat) : List Nat := l.take t ++ [o] ++ l.drop (t + 1)
theorem putR_len {l : List Nat} {t o : Nat} (h : t < l.length) : (putR l t o).length = l.length := by
  unfold putR
  simp
  omega
theorem putR_lt {l : List Nat} {t o n : Nat} (h : ∀ x ∈ l, x < n) (ho : o < n) : ∀ x ∈ putR l t o, x < n := fun x hx => by
  unfold putR at hx
  simp only [List.mem_append, List.mem_singleton] at hx
  rcases hx with (q | q) | q
  · exact h x (List.mem_of_mem_take q)
  · omega
  · exact h x (List.mem_of_mem_drop q)
theorem put_eq {l : List Nat} {t o : Nat} (h : t < l.length) (hl : l.length ≤ 1000) {ma mt mo : G → M D} {γ : G} (ea : ma γ = pure (.tup (stD l))) (et : mt γ = pure (.int (t : Nat))) (eo : mo γ = pure (.int (o : Nat))) :
    e2 fAdd (e2 fAdd (eSlice ma oNone (oSome mt)) (eTup (aCons mo aNil))) (eSlice ma (oSome (e2 fAdd mt (fun _ => pure (.int 1)))) oNone) γ = pure (.tup (stD (putR l t o))) := by
  have tk : (stD l).take t = stD (l.take t) := by unfold stD; rw [List.map_take]
  have dr : (stD l).drop (t + 1) = stD (l.drop (t + 1)) := by unfold stD; rw [List.map_drop]
  have e1 : (t : Int) + 1 = ((t + 1 : Nat) : Int) := by omega
  simp only [List.length_cons, List.length_nil, Nat.reduceAdd, aCons, aNil, add_ii, bindP, cut_hi, cut_lo, dr, e1, e2, eSlice, eTup, ea, eo, et, if_true, oNone, oSome, size1, sl_tup, tk]
  have o1 : ([D.int (o : Nat)] : List D) = stD [o] := rfl
  rw [o1, add_tt (by rw [st_len, st_len, List.length_take]; simp; omega), bindP, st_app, add_tt (by rw [st_len, st_len, List.length_append, List.length_take, List.length_drop]; simp; omega), st_app]
  rfl
theorem other_w {p q : List Nat} {n : Nat} {h : AH} {k : Int} {r : AH} {Q : D → AH → Prop} (ps : PS h k r) (hk : k < 900000) (g : RT n p q) (hn : 0 < n) (hn2 : n ≤ 40)
    (z : ∀ p' q' h', p'.length + q'.length = p.length + q.length → (∀ x ∈ p' ++ q', x < n) → PS h' (k + 2) r → Q (rnD p' q') h') : W (m__law_other [.ref 2, rnD p q, .int n]) h Q := by
  have ne := g.ne
  have l := g.l
  refine W_cln ps trivial ?_
  refine w_run ?_
  show W (b__law_other [some (.ref 2), some (rnD p q), some (.int n), none, none]) h _
  unfold b__law_other
  refine q_setJ (fun d h1 => ∃ t : Nat, d = .int (t : Nat) ∧ t < p.length + q.length ∧ PS h1 (k + 1) r) ?_ ?_
  · simp only [List.getElem?_cons_succ, List.getElem?_cons_zero, List.length_cons, List.length_nil, Nat.reduceAdd, W_bad, W_bind, W_ite, W_pure, aCons, aNil, add_ii, e2, eCall, eFn, eVar, if_true, len_tup, rn0, rn1, st_len]
    rw [show (p.length : Int) + (q.length : Int) = ((p.length + q.length : Nat) : Int) by omega]
    refine w_draw ps (by omega) (by omega) (by omega) fun t h1 t0 t1 p1 => ?_
    obtain ⟨t, rfl⟩ := Int.eq_ofNat_of_zero_le t0
    exact ⟨t, rfl, by omega, p1⟩
  rintro _ h1 ⟨t, rfl, ht, p1⟩
  refine q_setJ (fun d h1 => ∃ o : Nat, d = .int (o : Nat) ∧ o < n ∧ PS h1 (k + 2) r) ?_ ?_
  · simp only [List.getElem?_cons_succ, List.getElem?_cons_zero, List.length_cons, List.length_nil, List.set_cons_succ, List.set_cons_zero, Nat.reduceAdd, W_bad, W_bind, W_ite, W_pure, aCons, aNil, eFn, eVar, if_true]
    refine w_draw p1 (by omega) (by omega) (by omega) fun o h1 t0 t1 p1 => ?_
    obtain ⟨o, rfl⟩ := Int.eq_ofNat_of_zero_le t0
    exact ⟨o, rfl, by omega, p1.up (by omega)⟩
  rintro _ h2 ⟨o, rfl, ho, p2⟩
  have lp : ∀ x ∈ p, x < n := fun x hx => g.lt x (List.mem_append_left _ hx)
  have lq : ∀ x ∈ q, x < n := fun x hx => g.lt x (List.mem_append_right _ hx)
  refine q_if (decide (t < p.length)) ?_ ?_
  · simp only [List.getElem?_cons_succ, List.getElem?_cons_zero, List.set_cons_succ, List.set_cons_zero, aCons, aNil, asB_bl, bindP, e2, eCall, eVar, len_tup, lt_ii, rn0, st_len]
    congr 1
    rw [decide_eq_decide]
    omega
  by_cases c : t < p.length
  · rw [decide_eq_true c, if_pos rfl]
    refine q_blk (q_ret (rnD (putR p t o) q) ?_ ⟨_, [], by simpa using p2, ref_rn _ _, fun h2 p2 => z _ _ h2 (by rw [putR_len c]) (fun x hx => ?_) p2⟩)
    · have e := put_eq (o := o) (γ := [some (.ref 2), some (rnD p q), some (.int n), some (.int (t : Nat)), some (.int (o : Nat))]) (ma := e2 fIx (eVar 1) (fun _ => pure (.int 0))) (mt := eVar 3) (mo := eVar 4) c (by omega) (by simp only [List.getElem?_cons_succ, List.getElem?_cons_zero, bindP, e2, eVar, rn0]) rfl rfl
      exact tup2_q e (by simp only [List.getElem?_cons_succ, List.getElem?_cons_zero, List.set_cons_succ, List.set_cons_zero, bindP, e2, eVar, rn1])
    · rcases List.mem_append.mp hx with w | w
      · exact putR_lt lp ho x w
      · exact lq x w
  · rw [decide_eq_false c, if_neg (by decide)]
    refine q_nil ?_
    obtain ⟨s, hs⟩ : ∃ s, t = p.length + s := ⟨t - p.length, by omega⟩
    refine q_set (.int (s : Nat)) [some (.ref 2), some (rnD p q), some (.int n), some (.int (s : Nat)), some (.int (o : Nat))] ?_ rfl ?_
    · simp only [List.getElem?_cons_succ, List.getElem?_cons_zero, List.set_cons_succ, List.set_cons_zero, aCons, aNil, bindP, e2, eCall, eVar, len_tup, rn0, st_len, sub_ii]
      congr 2
      omega
    refine q_ret (rnD p (putR q s o)) ?_ ⟨_, [], by simpa using p2, ref_rn _ _, fun h2 p2 => z _ _ h2 (by rw [putR_len (by omega)]) (fun x hx => ?_) p2⟩
    · have e := put_eq (l := q) (t := s) (o := o) (γ := [some (.ref 2), some (rnD p q), some (.int n), some (.int (s : Nat)), some (.int (o : Nat))]) (ma := e2 fIx (eVar 1) (fun _ => pure (.int 1))) (mt := eVar 3) (mo := eVar 4) (by omega) (by omega) (by simp only [List.getElem?_cons_succ, List.getElem?_cons_zero, bindP, e2, eVar, rn1]) rfl rfl
      exact tup2_q (by simp only [List.getElem?_cons_succ, List.getElem?_cons_zero, bindP, e2, eVar, rn0]) e
    · rcases List.mem_append.mp hx with w | w
      · exact lp x w
      · exact putR_lt lq ho x w
theorem long_w {p q : List Nat} {n : Nat} {h : AH} {k : Int} {r : AH} {Q : D → AH → Prop} (ps : PS h k r) (hk : k < 900000) (g : RT n p q) (hl : p.length + q.length ≤ 100)
    (z : ∀ p' q' h', p'.length + q'.length ≤ 600 → (∀ x ∈ p' ++ q', x < n) → PS h' (k + 3) r → Q (rnD p' q') h') : W (m__law_long [.ref 2, rnD p q]) h Q := by
  have ne := g.ne
  refine W_cln ps trivial ?_
  refine w_run ?_
  show W (b__law_long [some (.ref 2), some (rnD p q), none]) h _
  unfold b__law_long
  refine q_setJ (fun d h1 => ∃ m : Nat, d = .int (m : Nat) ∧ m ≤ 401 ∧ PS h1 (k + 1) r) ?_ ?_
  · simp only [List.getElem?_cons_succ, List.getElem?_cons_zero, List.length_cons, List.length_nil, Nat.reduceAdd, W_bad, W_bind, W_ite, W_pure, aCons, aNil, e2, eCall, eFn, eVar, if_true, len_tup, rn0, rn1, st_len, sub_ii]
    refine w_draw ps (by omega) (by omega) (by omega) fun t h1 t0 t1 p1 => ?_
    simp only [W_pure, add_ii]
    exact ⟨400 - p.length - q.length + t.toNat, by congr 1; omega, by omega, p1⟩
  rintro _ h1 ⟨m, rfl, hm, p1⟩
  refine w_seq (fun γ h' => γ = [some (.ref 2), some (rnD p q), some (.int (m : Nat))] ∧ PS h' (k + 2) r) ?_ ?_
  · rw [w_if]
    simp only [List.getElem?_cons_zero, List.length_cons, List.length_nil, List.set_cons_succ, List.set_cons_zero, Nat.reduceAdd, W_bad, W_bind, W_ite, W_pure, aCons, aNil, e2, eFn, eVar, if_true, w_nil]
    refine w_draw p1 (by omega) (by omega) (by omega) fun t h2 t0 t1 p2 => ?_
    simp only [W_pure, asB_bl, eq_ii]
    split
    · refine q_ret (rnD (unP p q m) (unR q 1 m)) ?_ ⟨_, [], by simpa using p2, ref_rn _ _, fun h3 p3 => z _ _ h3 ?_ ?_ (p3.up (by omega))⟩
      · have := unrolled_eq (p := p) (r := q) (laps := 1) (m := m) ne hl (by omega) (by omega)
        simp only [List.getElem?_cons_succ, List.getElem?_cons_zero, List.length_cons, List.length_nil, Nat.reduceAdd, aCons, aNil, bindP, eFn, eVar, if_true]
        exact this
      · rw [unP_len ne]
        unfold unR
        rw [rp_len, rot_len ne]
        omega
      · intro x hx
        rcases List.mem_append.mp hx with w | w
        · unfold unP at w
          rcases List.mem_append.mp w with w | w
          · exact g.lt x (List.mem_append_left _ w)
          · exact g.lt x (List.mem_append_right _ ((mem_rp (Nat.succ_pos _)).mp (List.mem_of_mem_take w)))
        · exact g.lt x (List.mem_append_right _ ((mem_unR (by omega)).mp w))
    · exact ⟨rfl, p2.up (by omega)⟩
  · rintro _ h2 ⟨rfl, p2⟩
    refine q_retJ (fun d h' => ∃ c : Nat, d = rnD p (rp c q) ∧ c * q.length ≤ 500 ∧ 0 ≤ c ∧ PS h' (k + 3) r) ?_ ?_
    · have dv : ((400 : Int) - (p.length : Int)) / (q.length : Int) = (((400 - p.length) / q.length : Nat) : Int) := by
        rw [show (400 : Int) - (p.length : Int) = ((400 - p.length : Nat) : Int) by omega, Int.natCast_ediv]
      have dv2 : fDiv (.int ((400 : Int) - (p.length : Int))) (.int (q.length : Nat)) = pure (.int (((400 - p.length) / q.length : Nat) : Int)) := by
        rw [show (400 : Int) - (p.length : Int) = ((400 - p.length : Nat) : Int) by omega]
        exact div_nn ne (by omega)
      have c1 : (400 - p.length) / q.length * q.length ≤ 400 := Nat.le_trans (Nat.div_mul_le_self _ _) (by omega)
      have c2 : (400 - p.length) / q.length ≤ 400 := Nat.le_trans (Nat.div_le_self _ _) (by omega)
      simp only [List.getElem?_cons_succ, List.getElem?_cons_zero, List.length_cons, List.length_nil, Nat.reduceAdd, W_bad, W_bind, W_ite, W_pure, aCons, aNil, dv2, e2, eCall, eFn, eTup, eVar, if_true, len_tup, rn0, rn1, st_len, sub_ii]
      refine w_draw p2 (by omega) (by omega) (by omega) fun t h3 t0 t1 p3 => ?_
      simp only [W_pure, add_ii]
      have ec : (((400 - p.length) / q.length : Nat) : Int) + t = (((400 - p.length) / q.length + t.toNat : Nat) : Int) := by rw [Int.natCast_add, Int.toNat_of_nonneg t0]
      have c3 : ((400 - p.length) / q.length + t.toNat) * q.length ≤ 500 := by
        rw [Nat.add_mul]
        have : t.toNat * q.length ≤ 1 * q.length := Nat.mul_le_mul_right _ (by omega)
        omega
      rw [ec, mul_tn (x := stD q) (by rw [st_len]; omega) (Nat.le_trans (Nat.add_le_add c2 (show t.toNat ≤ 1 by omega)) (by decide)), W_pure, rep_st, if_pos (by decide)]
      exact ⟨_, rfl, c3, Nat.zero_le _, p3.up (by omega)⟩
    · rintro _ h3 ⟨c, rfl, hc, _, p3⟩
      refine ⟨_, [], by simpa using p3, ref_rn _ _, fun h4 p4 => z _ _ h4 (by rw [rp_len]; omega) (fun x hx => ?_) p4⟩
      rcases List.mem_append.mp hx with w | w
      · exact g.lt x (List.mem_append_left _ w)
      · by_cases c0 : 0 < c
        · exact g.lt x (List.mem_append_right _ ((mem_rp c0).mp w))
        · rw [show c = 0 by omega] at w
          unfold rp at w
          simp at w
end FT
set_option maxHeartbeats 2000000
namespace FT
open PySem PySem.Spec PyProof.Rows L2
def stepR (b0 b1 : Int) (m : Nat) : List Nat := (List.range m).filter fun (i : Nat) => decide (Builtin.bitAnd ((if (i : Int) / 20 = 0 then b0 else b1) / 2 ^ ((i : Int) % 20).toNat) 1 = 1)
theorem bits_h {γ : G} {m z : Nat} {b0 b1 : Int} {h : AH} (e2' : γ[2]? = some (some (.int m))) (e7 : γ[7]? = some (some (.ref z))) (hz : h[z]? = some (.lst [.int b0, .int b1])) (hm : m ≤ 40) :
    clE (eCall fTuple (aCons (eComp [some 7, none] (iRange (eVar 2)) (gN 1) (fun γ => do let d ← e2 (fEq false) (e2 fAnd (e2 fShr (e2 fIx (eVar 0) (e2 fDiv (eVar 1) (fun _ => pure (.int 20)))) (e2 fMod (eVar 1) (fun _ => pure (.int 20)))) (fun _ => pure (.int 1))) (fun _ => pure (.int 1)) γ; asB d) (eVar 1)) aNil)) γ h = .ok (.tup (stD (stepR b0 b1 m))) h := by
  refine clTup_h ?_ (refs_st _)
  refine (comp_px (src := .con (intsD m)) (fun d => match d with | .int t => decide (Builtin.bitAnd ((if t / 20 = 0 then b0 else b1) / 2 ^ (t % 20).toNat) 1 = 1) | _ => false) (fun d => d) (range_src (by unfold eVar; rw [e2']; rfl) (by omega)) (fun _ => trivial) (by simp [Src.items, intsD]; omega) fun d hd => ?_).trans ?_
  · obtain ⟨t, ht, et⟩ := List.getElem_of_mem hd
    obtain ⟨e5, e6⟩ := intsD_get (show (intsD m)[t]? = some d by rw [← et]; exact List.getElem?_eq_getElem ht)
    subst e5
    refine ⟨[some (.ref z), some (.int t)], fun h => by simp only [capG, List.map_cons, List.map_nil, e7, Option.join_some]; rfl, fun j => ?_, fun _ j => rfl⟩
    have q2 : atI [D.int b0, D.int b1] ((t : Int) / 20) = some (.int (if (t : Int) / 20 = 0 then b0 else b1)) := by
      have : (t : Int) / 20 = 0 ∨ (t : Int) / 20 = 1 := by omega
      rcases this with q | q
      · rw [q]; rfl
      · rw [q]; rfl
    have q1 : fIx (.ref z) (.int ((t : Int) / 20)) (h ++ j) = .ok (.int (if (t : Int) / 20 = 0 then b0 else b1)) (h ++ j) := ix_h (by rw [List.getElem?_append_left (List.getElem?_eq_some_iff.mp hz).1]; exact hz) q2
    have q3 : fDiv (.int t) (.int 20) = pure (.int ((t : Int) / 20)) := rfl
    have q4 : fMod (.int t) (.int 20) = pure (.int ((t : Int) % 20)) := rfl
    have q5 : ∀ x : Int, fShr (.int x) (.int ((t : Int) % 20)) = pure (.int (x / 2 ^ ((t : Int) % 20).toNat)) := fun x => shr_ii (by omega)
    have an : ∀ x y : Int, fAnd (.int x) (.int y) = pure (.int (Builtin.bitAnd x y)) := fun _ _ => rfl
    simp only [FT.e2, eVar, List.getElem?_cons_zero, List.getElem?_cons_succ, bindM, pureM, q3, q1, q4, q5, an, eq_ii, asB_bl]
    simp
  · rw [show (Src.con (intsD m)).items = intsD m from rfl, ints_filter]
    rfl
theorem worn_h {γ : G} {i : Nat} {ns : List Str} {wo : Int} {h : AH} (e1 : γ[1]? = some (some (.ref i))) (e8 : γ[8]? = some (some (.int wo))) (hi : h[i]? = some (.lst (ns.map .str))) (hn : ns.length ≤ 8) :
    clE (eCall fTuple (aCons (eCall fSorted (aCons (eComp [some 1, some 8, none] (iRange (eCall fLen (aCons (eVar 1) aNil))) (gN 2) (fun γ => do let d ← e2 (fEq false) (e2 fAnd (e2 fShr (eVar 1) (eVar 2)) (fun _ => pure (.int 1))) (fun _ => pure (.int 1)) γ; asB d) (e2 fIx (eVar 0) (eVar 2))) aNil)) aNil)) γ h = .ok (.tup ((sortS (pick ns fun t => decide (Builtin.bitAnd (wo / 2 ^ t) 1 = 1))).map .str)) h := by
  have pe : (((intsD ns.length).filter fun d => match d with | .int t => decide (Builtin.bitAnd (wo / 2 ^ t.toNat) 1 = 1) | _ => false).map fun d => match d with | .int t => D.str ((ns[t.toNat]?).getD "") | _ => .non) = (pick ns fun t => decide (Builtin.bitAnd (wo / 2 ^ t) 1 = 1)).map .str := by
    rw [ints_filter]
    unfold pick
    rw [List.map_map]
    rfl
  have lp := pick_len ns fun t => decide (Builtin.bitAnd (wo / 2 ^ t) 1 = 1)
  have c1 : eComp [some 1, some 8, none] (iRange (eCall fLen (aCons (eVar 1) aNil))) (gN 2) (fun γ => do let d ← e2 (fEq false) (e2 fAnd (e2 fShr (eVar 1) (eVar 2)) (fun _ => pure (.int 1))) (fun _ => pure (.int 1)) γ; asB d) (e2 fIx (eVar 0) (eVar 2)) γ h = .ok (.ref h.length) (h ++ [.lst ((pick ns fun t => decide (Builtin.bitAnd (wo / 2 ^ t) 1 = 1)).map .str)]) := by
    refine (comp_px (src := .con (intsD ns.length)) (fun d => match d with | .int t => decide (Builtin.bitAnd (wo / 2 ^ t.toNat) 1 = 1) | _ => false) (fun d => match d with | .int t => .str ((ns[t.toNat]?).getD "") | _ => .non) (range_src ?_ (by omega)) (fun _ => trivial) (by simp [Src.items, intsD]; omega) fun d hd => ?_).trans ?_
    · refine call1_h (d := .ref i) (h1 := h) (by unfold eVar; rw [e1]; rfl) ?_
      rw [len_h hi, List.length_map]
    · obtain ⟨t, ht, et⟩ := List.getElem_of_mem hd
      obtain ⟨e5, e6⟩ := intsD_get (show (intsD ns.length)[t]? = some d by rw [← et]; exact List.getElem?_eq_getElem ht)
      subst e5
      refine ⟨[some (.ref i), some (.int wo), some (.int t)], fun h => by simp only [capG, List.map_cons, List.map_nil, e1, e8, Option.join_some]; rfl, fun j => ?_, fun _ j => ?_⟩
      · have q5 : fShr (.int wo) (.int t) = pure (.int (wo / 2 ^ (t : Int).toNat)) := shr_ii (by omega)
        have an : ∀ x y : Int, fAnd (.int x) (.int y) = pure (.int (Builtin.bitAnd x y)) := fun _ _ => rfl
        simp only [FT.e2, eVar, List.getElem?_cons_zero, List.getElem?_cons_succ, bindM, pureM, q5, an, eq_ii, asB_bl]
        simp
      · have q2 : atI (ns.map D.str) (t : Int) = some (.str ((ns[t]?).getD "")) := by
          refine atI_nat ?_
          rw [List.getElem?_map, List.getElem?_eq_getElem e6]
          rfl
        exact ix_h (by rw [List.getElem?_append_left (List.getElem?_eq_some_iff.mp hi).1]; exact hi) q2
    · rw [show (Src.con (intsD ns.length)).items = intsD ns.length from rfl, pe]
  refine cln_of (j := [.lst ((pick ns fun t => decide (Builtin.bitAnd (wo / 2 ^ t) 1 = 1)).map .str), .lst ((sortS (pick ns fun t => decide (Builtin.bitAnd (wo / 2 ^ t) 1 = 1))).map .str)]) ?_ (by simp only [refLt]; exact refs_strs _)
  refine call1_h (call1_h c1 (sortS_h (ss := pick ns fun t => decide (Builtin.bitAnd (wo / 2 ^ t) 1 = 1)) (by simp) (by omega))) ?_
  rw [List.append_assoc]
  exact tup_h (by simp)
theorem law_machine {h : AH} {k : Int} {r : AH} {i : Nat} {ns : List Str} (p : PS h k r) (hk : k < 700000) (e : r[i]? = some (.lst (ns.map .str))) (hn : ns.length ≤ 8) (hg : NS ns) {Q : D → AH → Prop} (z : ∀ st mk h', MA st mk → PS h' (k + 203) r → Q (maD st mk) h') :
    W (m__law_great_machine [.ref 2, .ref (i + 3)]) h Q := by
  refine W_cln p trivial ?_
  refine w_run ?_
  show W (b__law_great_machine [some (.ref 2), some (.ref (i + 3)), none, none, none, none, none, none, none]) h _
  unfold b__law_great_machine
  have i3 : i < r.length := lt_of_at e
  refine q_setJ (fun d h1 => ∃ t : Int, 0 ≤ t ∧ t < 40 ∧ d = .int (1 + t) ∧ PS h1 (k + 1) r) ?_ ?_
  · simp only [List.getElem?_cons_zero, List.length_cons, List.length_nil, Nat.reduceAdd, W_bad, W_bind, W_ite, W_pure, aCons, aNil, e2, eFn, eVar, if_true]
    refine w_draw p (by omega) (by decide) (by decide) fun d h1 d0 d1 p1 => ?_
    rw [add_ii, W_pure]
    exact ⟨d, d0, d1, rfl, p1⟩
  rintro _ h1 ⟨t, t0, t1, rfl, p1⟩
  refine w_seq (fun γ h => ∃ m : Nat, 1 ≤ m ∧ m ≤ 40 ∧ γ = [some (.ref 2), some (.ref (i + 3)), some (.int m), none, none, none, none, none, none] ∧ PS h (k + 2) r) ?_ ?_
  · simp only [List.getElem?_cons_zero, List.length_cons, List.length_nil, List.set_cons_succ, List.set_cons_zero, Nat.reduceAdd, W_bad, W_bind, W_ite, W_pure, aCons, aNil, e2, eFn, eVar, if_true, sIf, w_nil]
    refine w_draw p1 (by omega) (by decide) (by decide) fun d' h2 d0' d1' p2 => ?_
    rw [eq_ii, W_pure, asB_bl, W_pure]
    split
    · rw [w_cons]; simp only [List.set_cons_succ, List.set_cons_zero, W_bind, W_pure, contW_nx, gN, sAsg, w_nil]
      exact ⟨40, by omega, by omega, rfl, p2.up (by omega)⟩
    · exact ⟨(1 + t).toNat, by omega, by omega, by rw [Int.toNat_of_nonneg (by omega)], p2.up (by omega)⟩
  rintro γ h2 ⟨m, m1, m2, rfl, p2⟩
  refine q_setJ (fun d h1 => ∃ t : Int, d = .int t ∧ PS h1 (k + 3) r) ?_ ?_
  · simp only [List.getElem?_cons_zero, List.length_cons, List.length_nil, Nat.reduceAdd, W_bad, W_bind, W_ite, W_pure, aCons, aNil, eFn, eVar, if_true]
    refine w_draw p2 (by omega) (by decide) (by decide) fun d h1 d0 d1 p1 => ?_
    exact ⟨d, rfl, p1.up (by omega)⟩
  rintro _ h3 ⟨dn, rfl, p3⟩
  refine q_setJ (fun d h1 => d = .ref (r.length + 3) ∧ PS h1 (k + 3) (r ++ [.lst (stsD [])])) ?_ ?_
  · simp only [W_bind, W_pure, aNil, eLst]
    exact w_newL p3 (by decide) fun h4 p4 => ⟨rfl, p4⟩
  rintro _ h4 ⟨rfl, p4⟩
  refine q_setJ (fun d h1 => d = .ref (r.length + 1 + 3) ∧ PS h1 (k + 3) (r ++ [.lst (stsD []), .lst (mksD [])])) ?_ ?_
  · simp only [W_bind, W_pure, aNil, eLst]
    exact w_newL p4 (by decide) fun h5 p5 => ⟨by simp, by rw [List.append_assoc] at p5; exact p5⟩
  rintro _ h5 ⟨rfl, p5⟩
  refine w_seq (fun γ h => ∃ st mk w w7 w8 j, γ = [some (.ref 2), some (.ref (i + 3)), some (.int m), some (.int dn), some (.ref (r.length + 0 + 3)), some (.ref (r.length + 1 + 3)), w, w7, w8] ∧ PS h (k + 203) (r ++ (.lst (stsD st) :: .lst (mksD mk) :: j)) ∧ st.length = m ∧ mk.length = m ∧ AM st mk m) ?_ ?_
  · refine for_range (fun c γ h => ∃ st mk w w7 w8 j, γ = [some (.ref 2), some (.ref (i + 3)), some (.int m), some (.int dn), some (.ref (r.length + 0 + 3)), some (.ref (r.length + 1 + 3)), w, w7, w8] ∧ PS h (k + 3 + 5 * c) (r ++ (.lst (stsD st) :: .lst (mksD mk) :: j)) ∧ st.length = c ∧ mk.length = c ∧ AM st mk m) (fun _ _ => False) ?_
    simp only [List.getElem?_cons_succ, List.getElem?_cons_zero, List.set_cons_succ, List.set_cons_zero, W_pure, e2, eVar]
    refine ⟨m, rfl, by omega, ⟨[], [], _, _, _, [], rfl, p5.up (by omega), rfl, rfl, by simp, by simp, by simp⟩, ?_, ?_, fun _ _ q => q.elim⟩
    · rintro c γ h6 hc ⟨st, mk, w, w7, w8, j, rfl, p6, l1, l2, am⟩
      refine q_setJ (fun d h1 => ∃ b0 b1 : Int, d = .ref (r.length + (j.length + 2) + 3) ∧ PS h1 (k + 3 + 5 * c + 2) (r ++ (.lst (stsD st) :: .lst (mksD mk) :: (j ++ [.lst [.int b0, .int b1]])))) ?_ ?_
      · simp only [List.getElem?_cons_zero, List.length_cons, List.length_nil, List.set_cons_succ, List.set_cons_zero, Nat.reduceAdd, W_bad, W_bind, W_ite, W_pure, aCons, aNil, eFn, eLst, eVar, if_true]
        refine w_draw p6 (by omega) (by decide) (by decide) fun b0 h7 b00 b01 p7 => ?_
        refine w_draw p7 (by omega) (by decide) (by decide) fun b1 h8 b10 b11 p8 => ?_
        exact w_newL p8 (by simp) fun h9 p9 => ⟨b0, b1, by simp only [List.length_append, List.length_cons], by rw [List.append_assoc] at p9; exact p9.up (by omega)⟩
      rintro _ h9 ⟨b0, b1, rfl, p9⟩
      refine w_seq (fun γ h => ∃ b0 b1 z j', γ = [some (.ref 2), some (.ref (i + 3)), some (.int m), some (.int dn), some (.ref (r.length + 0 + 3)), some (.ref (r.length + 1 + 3)), some (.int c), some (.ref (z + 3)), w8] ∧ PS h (k + 3 + 5 * c + 4) (r ++ (.lst (stsD st) :: .lst (mksD mk) :: j')) ∧ (∀ st', (r ++ (.lst st' :: .lst (mksD mk) :: j'))[z]? = some (.lst [.int b0, .int b1]))) ?_ ?_
      · have eb : ∀ b0 b1 : Int, ∀ o1 o2 : O, ∀ j : AH, (r ++ (o1 :: o2 :: (j ++ [.lst [.int b0, .int b1]])))[r.length + (j.length + 2)]? = some (.lst [.int b0, .int b1]) := fun b0 b1 o1 o2 j => by
          rw [List.getElem?_append_right (by omega), show r.length + (j.length + 2) - r.length = j.length + 2 by omega]
          simp
        simp only [List.getElem?_cons_succ, List.getElem?_cons_zero, List.set_cons_succ, List.set_cons_zero, W_bind, W_ite, W_pure, asB_bl, gt_ii, sIf, w_nil]
        split
        · rw [w_cons]; simp only [List.getElem?_cons_succ, List.getElem?_cons_zero, List.length_cons, List.length_nil, List.set_cons_succ, List.set_cons_zero, Nat.reduceAdd, W_bad, W_bind, W_ite, W_pure, aCons, aNil, contW_nx, e2, eFn, eLst, eVar, gN, if_true, sAsg, w_nil]
          refine w_ixr p9 (eb _ _ _ _ _) (show atI [D.int b0, D.int b1] 0 = some (.int b0) from rfl) ?_
          refine w_draw p9 (by omega) (by decide) (by decide) fun b2 h10 _ _ p10 => ?_
          have an : ∀ x y : Int, fAnd (.int x) (.int y) = pure (.int (Builtin.bitAnd x y)) := fun _ _ => rfl
          rw [an, W_pure]
          refine w_ixr p10 (eb _ _ _ _ _) (show atI [D.int b0, D.int b1] 1 = some (.int b1) from rfl) ?_
          refine w_draw p10 (by omega) (by decide) (by decide) fun b3 h11 _ _ p11 => ?_
          rw [an, W_pure]
          refine w_newL p11 (by simp) fun h12 p12 => ?_
          refine ⟨_, _, r.length + ((j ++ [O.lst [D.int b0, D.int b1]]).length + 2), (j ++ [O.lst [D.int b0, D.int b1]]) ++ [.lst [.int (Builtin.bitAnd b0 b2), .int (Builtin.bitAnd b1 b3)]], by simp, ?_, fun st' => eb _ _ _ _ _⟩
          have := p12.up (k' := k + 3 + 5 * c + 4) (by omega)
          simpa using this
        · exact ⟨b0, b1, _, _, rfl, p9.up (by omega), fun st' => eb _ _ _ _ _⟩
      rintro γ h10 ⟨b0, b1, z, j', rfl, p10, f4⟩
      refine q_push (i := 0) rfl p10 rfl (by simp [stsD]; omega) (fun v k' => v = .tup (stD (stepR b0 b1 m)) ∧ k' = k + 3 + 5 * c + 4) ?_ ?_
      · exact W_of (bits_h rfl rfl (by rw [p10.get]; exact f4 _) m2) ⟨_, p10, rfl, rfl⟩
      rintro _ _ h11 ⟨rfl, rfl⟩ p11
      rw [List.set_cons_zero, show stsD st ++ [D.tup (stD (stepR b0 b1 m))] = stsD (st ++ [stepR b0 b1 m]) by simp [stsD]] at p11
      refine q_setJ (fun d h1 => ∃ t : Int, d = .int t ∧ PS h1 (k + 3 + 5 * c + 5) (r ++ (.lst (stsD (st ++ [stepR b0 b1 m])) :: .lst (mksD mk) :: j'))) ?_ ?_
      · simp only [List.getElem?_cons_zero, List.length_cons, List.length_nil, Nat.reduceAdd, W_bad, W_bind, W_ite, W_pure, aCons, aNil, eFn, eVar, if_true]
        refine w_draw p11 (by omega) (by decide) (by decide) fun wo h12 wo0 wo1 p12 => ?_
        exact ⟨wo, rfl, p12.up (by omega)⟩
      rintro _ h12 ⟨wo, rfl, p12⟩
      refine q_push (i := 1) rfl p12 rfl (by simp [mksD]; omega) (fun v k' => v = .tup ((sortS (pick ns fun t => decide (Builtin.bitAnd (wo / 2 ^ t) 1 = 1))).map .str) ∧ k' = k + 3 + 5 * c + 5) ?_ ?_
      · exact W_of (worn_h rfl rfl (by rw [p12.get]; exact at_app e) hn) ⟨_, p12, rfl, rfl⟩
      rintro _ _ h13 ⟨rfl, rfl⟩ p13
      have mp : MK (sortS (pick ns fun t => decide (Builtin.bitAnd (wo / 2 ^ t) 1 = 1))) := pick_mk hg hn _
      rw [List.set_cons_succ, List.set_cons_zero] at p13
      generalize sortS (pick ns fun t => decide (Builtin.bitAnd (wo / 2 ^ t) 1 = 1)) = pk at p13 mp
      rw [show mksD mk ++ [D.tup (pk.map .str)] = mksD (mk ++ [pk]) by simp [mksD]] at p13
      refine q_done ⟨_, _, _, _, _, _, rfl, p13.up (by omega), by simp [l1], by simp [l2], ?_, ?_, ?_⟩
      · intro l hl
        rcases List.mem_append.mp hl with q | q
        · exact am.1 l q
        · simp at q; subst q; exact List.Pairwise.filter _ List.pairwise_lt_range
      · intro l hl
        rcases List.mem_append.mp hl with q | q
        · exact am.2.1 l q
        · simp at q; subst q
          intro x hx
          simpa using (List.mem_filter.mp hx).1
      · intro l hl
        rcases List.mem_append.mp hl with q | q
        · exact am.2.2 l q
        · simp at q; subst q; exact mp
    · rintro γ h6 ⟨st, mk, w, w7, w8, j, rfl, p6, l1, l2, am⟩
      exact ⟨st, mk, w, w7, w8, j, rfl, p6.up (by omega), l1, l2, am⟩
  · rintro γ h6 ⟨st, mk, w, w7, w8, j, rfl, p6, l1, l2, am⟩
    refine q_retJ (fun d h1 => d = maD st mk ∧ h1 = h6) ?_ ?_
    · simp only [List.getElem?_cons_succ, List.getElem?_cons_zero, List.length_cons, List.length_nil, Nat.reduceAdd, W_bad, W_bind, W_ite, W_pure, aCons, aNil, eCall, eTup, eVar]
      refine w_tupE (i := 0) p6 rfl ?_
      refine w_tupE (i := 1) p6 rfl ?_
      rw [if_pos (by decide)]
      exact ⟨rfl, rfl⟩
    rintro _ _ ⟨rfl, rfl⟩
    refine ⟨_, _, p6, ?_, fun h2 q2 => z st mk h2 ⟨by omega, by omega, by omega, am.1, by rw [l1]; exact am.2.1, am.2.2⟩ q2⟩
    unfold maD stsD mksD
    simp only [refLt, refLts, Bool.and_true, Bool.and_eq_true]
    exact ⟨refLts_map fun a => ref_st a, refLts_map fun a => by simp only [refLt]; exact refs_strs _⟩
end FT
set_option maxHeartbeats 4000000
namespace FT
open PySem PySem.Spec PyProof.Rows L2
theorem th_st {r : AH} {B : Nat} (hB : 40 ≤ B) {m : Nat} {l : List Nat} (h : ∀ x ∈ l, x < 40) : Th r B (m + 2) (l.length * 42 + 4) (.tup (stD l)) := by
  refine Th.tuple (a := l.length * 42) ?_ (by omega)
  have := Ths.of (P := Th r B (m + 1)) (c := 40) (xs := stD l) fun d hd => by
    obtain ⟨x, hx, rfl⟩ := st_mem hd
    have := h x hx
    exact Th.num (by omega) (by omega) (by omega)
  rw [st_len] at this
  exact this
theorem th_rn {r : AH} {B N : Nat} (hB : 40 ≤ B) {p q : List Nat} (h : ∀ x ∈ p ++ q, x < 40) (hl : p.length + q.length ≤ N) : Th r B 3 (42 * N + 20) (rnD p q) := by
  have h1 := th_st (r := r) (m := 0) hB fun x hx => h x (List.mem_append_left q hx)
  have h2 := th_st (r := r) (m := 0) hB fun x hx => h x (List.mem_append_right p hx)
  have a2 : Ths (Th r B 2) (q.length * 42 + 4 + 2) [.tup (stD q)] := Ths.one h2
  unfold rnD
  exact Th.tuple (a := 42 * N + 16) (m := 2) ⟨_, _, h1, a2, by omega⟩ (by omega)
theorem repr_h {r : AH} {B m n : Nat} {d : D} {h : AH} {k : Int} (v : Th r B m n d) (hB : B < 10 ^ 30) (hm : m ≤ 30) (hn : n ≤ 1000000) (p : PS h k r) : ∃ x, fRepr [d] h = .ok (.str x) h := by
  obtain ⟨pd, e, e1, e2, e3⟩ := th_pd hB p (Kp.refl _) (Th.mono (Kp.refl _) (Nat.le_refl _) hm (Nat.le_refl _) v)
  refine ⟨pd.shown, ?_⟩
  unfold fRepr
  dsimp only
  rw [e]
  dsimp only
  rw [if_pos ⟨e1, Nat.le_trans e2 (Nat.le_trans hn (by decide)), by omega⟩]
theorem truth_h {ma mb : G → M D} {γ : G} {h : AH} {b : Bool} (e1 : ma γ h = .ok (.bl b) h) (e2' : mb γ h = .ok (.bl b) h) : eFn 2 m__law_truth (aCons ma (aCons mb aNil)) γ h = .ok (.bl true) h :=
  fn_h (ds := [.bl b, .bl b]) (ac_h e1 (ac_h e2' rfl)) rfl (by rw [truth_eq, beq_self_eq_true]; rfl)
theorem math0 {ns : List Int} (hn : ns.length ≤ 63) : W (m_law [.fl (ns.map .int)]) [] (fun d _ => d = .bl true) := by
  refine w_run ?_
  show W (b_law [some (.fl (ns.map .int)), none, none, none, none, none, none]) [] _
  unfold b_law
  refine q_setJ _ (by simp only [List.getElem?_cons_zero, List.length_cons, List.length_nil, Nat.reduceAdd, aCons, aNil, bindP, eFn, eVar, if_true]; exact law_pool hn) ?_
  rintro d h1 ⟨rfl, p1⟩
  refine q_setJ (fun d h => ∃ t : Int, d = .int t ∧ PS h 1 []) ?_ ?_
  · simp only [List.getElem?_cons_succ, List.getElem?_cons_zero, List.length_cons, List.length_nil, List.set_cons_succ, List.set_cons_zero, Nat.reduceAdd, W_bad, W_bind, W_ite, W_pure, aCons, aNil, eFn, eVar, if_true]
    exact w_draw p1 (by omega) (by omega) (by omega) fun t h2 t0 t1 p2 => ⟨t, rfl, p2⟩
  rintro _ h2 ⟨t, rfl, p2⟩
  have nsn : NS [] := ⟨List.Pairwise.nil, fun x hx => by cases hx⟩
  refine q_setJ (fun d h => ∃ st mk, d = maD st mk ∧ MA st mk ∧ PS h 3000 [.lst []]) ?_ ?_
  · simp only [List.getElem?_cons_succ, List.getElem?_cons_zero, List.length_cons, List.length_nil, List.set_cons_succ, List.set_cons_zero, Nat.reduceAdd, W_bad, W_bind, W_ite, W_pure, aCons, aNil, eFn, eLst, eVar, if_true]
    refine w_newL p2 (by simp) fun h3 p3 => ?_
    exact machine_w (i := 0) (most := 7) (ns := []) p3 (by omega) (by omega) (by omega) rfl (by simp) nsn fun st mk h4 ma _ p4 => ⟨st, mk, rfl, ma, p4.up (by omega)⟩
  rintro _ h3 ⟨st0, mk0, rfl, ma0, p3⟩
  refine w_seq (fun γ h' => ∃ st mk j, γ = [some (.fl (ns.map .int)), some (.ref 2), some (.int t), some (maD st mk), none, none, none] ∧ MA st mk ∧ PS h' 5000 j) ?_ ?_
  · rw [w_if]; simp only [List.getElem?_cons_succ, List.getElem?_cons_zero, List.set_cons_succ, List.set_cons_zero, W_bind, W_pure, asB_bl, e2, eVar, eq_ii, w_nil]
    split
    · refine q_setJ (fun d h => ∃ st mk, d = maD st mk ∧ MA st mk ∧ PS h 5000 [.lst [], .lst []]) ?_ ?_
      · simp only [List.getElem?_cons_succ, List.getElem?_cons_zero, List.length_cons, List.length_nil, Nat.reduceAdd, W_bad, W_bind, W_ite, W_pure, aCons, aNil, eFn, eLst, eVar, if_true]
        refine w_newL p3 (by simp) fun h3 p3 => ?_
        exact law_machine (i := 1) (ns := []) p3 (by omega) rfl (by simp) nsn fun st mk h4 ma p4 => ⟨st, mk, rfl, ma, p4.up (by omega)⟩
      rintro _ h4 ⟨st, mk, rfl, ma, p4⟩
      exact q_done ⟨st, mk, _, rfl, ma, p4⟩
    · exact ⟨st0, mk0, _, rfl, ma0, p3.up (by omega)⟩
  rintro _ h4 ⟨st, mk, j, rfl, ma, p4⟩
  have hs := ma.l2
  have h0 := ma.l1
  refine q_setJ (fun d h => ∃ p q, d = rnD p q ∧ RT st.length p q ∧ p.length + q.length ≤ 12 ∧ PS h 6000 j) ?_ ?_
  · simp only [List.getElem?_cons_succ, List.getElem?_cons_zero, List.length_cons, List.length_nil, Nat.reduceAdd, W_bad, W_bind, W_ite, W_pure, aCons, aNil, e2, eCall, eFn, eVar, if_true, ix_ma0, len_tup, sts_len]
    refine w_draw p4 (by omega) (by omega) (by omega) fun t1 h5 t10 t11 p5 => ?_
    refine w_draw p5 (by omega) (by omega) (by omega) fun t2 h6 t20 t21 p6 => ?_
    obtain ⟨t1, rfl⟩ := Int.eq_ofNat_of_zero_le t10
    obtain ⟨t2, rfl⟩ := Int.eq_ofNat_of_zero_le t20
    exact closed_w p6 (by omega) ma (by omega) (by omega) fun pa ri h7 g l p7 => ⟨pa, ri, rfl, g, l, p7.up (by omega)⟩
  rintro _ h5 ⟨p, q, rfl, g, l, p5⟩
  have g40 : ∀ x ∈ p ++ q, x < 40 := fun x hx => by have := g.lt x hx; omega
  refine q_set (rnD p q) [some (.fl (ns.map .int)), some (.ref 2), some (.int t), some (maD st mk), some (rnD p q), some (rnD p q), none] rfl rfl ?_
  have lift : ∀ {p' q' : List Nat} {N : Nat} {j : AH}, p'.length + q'.length ≤ N → (∀ x ∈ p' ++ q', x < st.length) → Th j (10 ^ 21 + 3) 3 (42 * N + 20) (rnD p' q') := fun {p' q' N j} hl hx => th_rn (by decide) (fun x hx' => by have := hx x hx'; omega) hl
  refine w_seq (fun γ h' => ∃ d j', γ = [some (.fl (ns.map .int)), some (.ref 2), some (.int t), some (maD st mk), some (rnD p q), some d, none] ∧ PS h' 6100 (j ++ j') ∧ (Th (j ++ j') (10 ^ 21 + 3) 3 600 d ∨ t ≠ 5 ∧ Th (j ++ j') (10 ^ 21 + 3) 3 30000 d)) ?_ ?_
  · rw [w_if]; simp only [List.getElem?_cons_succ, List.getElem?_cons_zero, W_bind, W_pure, asB_bl, e2, eVar, eq_ii, w_nil]
    by_cases c1 : t = 1
    · rw [if_pos (by simp [c1])]
      refine q_setJ (fun d h => ∃ p' q', d = rnD p' q' ∧ p'.length + q'.length ≤ 12 ∧ (∀ x ∈ p' ++ q', x < st.length) ∧ PS h 6100 j) ?_ ?_
      · simp only [List.getElem?_cons_succ, List.getElem?_cons_zero, List.length_cons, List.length_nil, Nat.reduceAdd, W_bad, W_bind, W_ite, W_pure, aCons, aNil, e2, eCall, eFn, eVar, if_true, ix_ma0, len_tup, sts_len]
        exact other_w p5 (by omega) g (by omega) hs fun p' q' h6 hl hx p6 => ⟨p', q', rfl, by omega, hx, p6.up (by omega)⟩
      rintro _ h6 ⟨p', q', rfl, hl, hx, p6⟩
      exact q_done ⟨_, [], rfl, by rw [List.append_nil]; exact p6, .inl (Th.mono (Kp.refl _) (Nat.le_refl _) (Nat.le_refl _) (by omega) (lift hl hx))⟩
    · rw [if_neg (by simp [c1])]
      exact ⟨_, [], rfl, by rw [List.append_nil]; exact p5.up (by omega), .inl (Th.mono (Kp.refl _) (Nat.le_refl _) (Nat.le_refl _) (by omega) (lift l g.lt))⟩
  rintro _ h6 ⟨d6, j6, rfl, p6, v6⟩
  refine w_seq (fun γ h' => ∃ d j', γ = [some (.fl (ns.map .int)), some (.ref 2), some (.int t), some (maD st mk), some (rnD p q), some d, none] ∧ PS h' 6200 (j ++ j') ∧ (Th (j ++ j') (10 ^ 21 + 3) 3 600 d ∨ t ≠ 5 ∧ Th (j ++ j') (10 ^ 21 + 3) 3 30000 d)) ?_ ?_
  · rw [w_if]; simp only [List.getElem?_cons_succ, List.getElem?_cons_zero, W_bind, W_pure, asB_bl, e2, eVar, eq_ii, w_nil]
    by_cases c2 : t = 2
    · rw [if_pos (by simp [c2])]
      refine q_setJ (fun d h => ∃ p' q', d = rnD p' q' ∧ p'.length + q'.length ≤ 600 ∧ (∀ x ∈ p' ++ q', x < st.length) ∧ PS h 6200 (j ++ j6)) ?_ ?_
      · simp only [List.getElem?_cons_succ, List.getElem?_cons_zero, List.length_cons, List.length_nil, Nat.reduceAdd, W_bad, W_bind, W_ite, W_pure, aCons, aNil, eFn, eVar, if_true]
        exact long_w p6 (by omega) g (by omega) fun p' q' h6 hl hx p6 => ⟨p', q', rfl, by omega, hx, p6.up (by omega)⟩
      rintro _ h6 ⟨p', q', rfl, hl, hx, p6⟩
      exact q_done ⟨_, _, rfl, p6, .inr ⟨by omega, Th.mono (Kp.refl _) (Nat.le_refl _) (Nat.le_refl _) (by omega) (lift hl hx)⟩⟩
    · rw [if_neg (by simp [c2])]
      exact ⟨_, _, rfl, p6.up (by omega), v6⟩
  rintro _ h7 ⟨d7, j7, rfl, p7, v7⟩
  have weak : ∀ {j : AH} {d : D}, (Th j (10 ^ 21 + 3) 3 600 d ∨ t ≠ 5 ∧ Th j (10 ^ 21 + 3) 3 30000 d) → Th j (10 ^ 21 + 10) 10 100000 d := fun {j d} v => by
    rcases v with v | ⟨_, v⟩
    · exact Th.mono (Kp.refl _) (by omega) (by omega) (by omega) v
    · exact Th.mono (Kp.refl _) (by omega) (by omega) (by omega) v
  refine w_seq (fun γ h' => ∃ d j', γ = [some (.fl (ns.map .int)), some (.ref 2), some (.int t), some (maD st mk), some (rnD p q), some d, none] ∧ PS h' 6300 (j ++ j') ∧ Th (j ++ j') (10 ^ 21 + 10) 10 100000 d ∧ (t = 5 → Th (j ++ j') (10 ^ 21 + 5) 6 2000 d)) ?_ ?_
  · rw [w_if]; simp only [Bool.false_eq_true, List.getElem?_cons_succ, List.getElem?_cons_zero, W_bind, W_ite, W_pure, asB_bl, cAnd, e2, eVar, gt_ii, if_false, lt_ii, w_nil]
    by_cases c3 : 2 < t ∧ t < 6
    · rw [decide_eq_true c3.1]
      simp only [decide_eq_true c3.2, if_true]
      refine q_setJ (fun d h => ∃ j', PS h 6300 (j ++ j7 ++ j') ∧ Th (j ++ j7 ++ j') (10 ^ 21 + 5) 6 2000 d) ?_ ?_
      · simp only [List.getElem?_cons_succ, List.getElem?_cons_zero, List.length_cons, List.length_nil, Nat.reduceAdd, W_bad, W_bind, W_ite, W_pure, aCons, aNil, eFn, eVar, if_true]
        refine (bent_w 5 3 p7 (by omega) (lift (N := 12) l g.lt) (Nat.le_refl _) (by omega) (by omega)).mono fun d' h' ⟨j', v', p'⟩ => ⟨j', p'.up (by omega), Th.mono (Kp.refl _) (by omega) (by omega) (by omega) v'⟩
      rintro d8 h8 ⟨j8, p8, v8⟩
      exact q_done ⟨d8, j7 ++ j8, rfl, by rw [← List.append_assoc]; exact p8, by rw [← List.append_assoc]; exact Th.mono (Kp.refl _) (by omega) (by omega) (by omega) v8, fun _ => by rw [← List.append_assoc]; exact v8⟩
    · have stay : ∃ d j', [some (.fl (ns.map .int)), some (.ref 2), some (.int t), some (maD st mk), some (rnD p q), some d7, none] = [some (.fl (ns.map .int)), some (.ref 2), some (.int t), some (maD st mk), some (rnD p q), some d, none] ∧ PS h7 6300 (j ++ j') ∧ Th (j ++ j') (10 ^ 21 + 10) 10 100000 d ∧ (t = 5 → Th (j ++ j') (10 ^ 21 + 5) 6 2000 d) := ⟨_, _, rfl, p7.up (by omega), weak v7, fun e => by omega⟩
      by_cases c4 : 2 < t
      · rw [decide_eq_true c4]
        simp only [Bool.false_eq_true, decide_eq_false (show ¬t < 6 by omega), if_false, if_true]
        exact stay
      · rw [decide_eq_false c4]
        simp only [Bool.false_eq_true, if_false]
        exact stay
  rintro _ h8 ⟨d8, j8, rfl, p8, v8, v8'⟩
  refine w_seq (fun γ h' => ∃ d j', γ = [some (.fl (ns.map .int)), some (.ref 2), some (.int t), some (maD st mk), some (rnD p q), some d, none] ∧ PS h' 6400 (j ++ j') ∧ Th (j ++ j') (10 ^ 21 + 10) 10 100000 d) ?_ ?_
  · rw [w_if]; simp only [List.getElem?_cons_succ, List.getElem?_cons_zero, W_bind, W_pure, asB_bl, e2, eVar, eq_ii, w_nil]
    by_cases c5 : t = 5
    · rw [if_pos (by simp [c5])]
      refine q_setJ (fun d h => ∃ j', PS h 6400 (j ++ j8 ++ j') ∧ Th (j ++ j8 ++ j') (10 ^ 21 + 10) 10 100000 d) ?_ ?_
      · simp only [List.getElem?_cons_succ, List.getElem?_cons_zero, List.length_cons, List.length_nil, Nat.reduceAdd, W_bad, W_bind, W_ite, W_pure, aCons, aNil, eFn, eVar, if_true]
        refine (bent_w 5 3 p8 (by omega) (v8' c5) (by omega) (by omega) (by omega)).mono fun d' h' ⟨j', v', p'⟩ => ⟨j', p'.up (by omega), Th.mono (Kp.refl _) (by omega) (by omega) (by omega) v'⟩
      rintro d9 h9 ⟨j9, p9, v9⟩
      exact q_done ⟨d9, j8 ++ j9, rfl, by rw [← List.append_assoc]; exact p9, by rw [← List.append_assoc]; exact v9⟩
    · rw [if_neg (by simp [c5])]
      exact ⟨_, _, rfl, p8.up (by omega), v8⟩
  rintro _ h9 ⟨d, j9, rfl, p9, v9⟩
  obtain ⟨x, ex⟩ := repr_h v9 (by decide) (by omega) (by omega) p9
  refine q_seth (.str x) [some (.fl (ns.map .int)), some (.ref 2), some (.int t), some (maD st mk), some (rnD p q), some d, some (.str x)] (call1_h (var_h rfl) ex) rfl ?_
  obtain ⟨b, b1, b2⟩ := both_h (st := st) (mk := mk) (th_tb p9 2 v9) hs
  have fr : ∀ {γ : G} {i1 i2 : Nat} {m : List D → M D} {x : D} {b : Bool}, γ[i1]? = some (some (maD st mk)) → γ[i2]? = some (some x) → m [maD st mk, x] h9 = .ok (.bl b) h9 → eFn 2 m (aCons (eVar i1) (aCons (eVar i2) aNil)) γ h9 = .ok (.bl b) h9 := fun e1 e2 e3 => fn_h (ds := [_, _]) (ac_h (var_h e1) (ac_h (var_h e2) rfl)) rfl e3
  refine q_ifh false (cn_h (cv_h (truth_h (fr rfl rfl b1) (fr rfl rfl b2)))) ?_
  rw [if_neg (by decide)]
  refine q_nil (q_ifh false (cb_h (e2_h (call1_h (var_h rfl) ex) (var_h rfl) (by rw [eqX_ss]; simp))) ?_)
  rw [if_neg (by decide)]
  refine q_nil (q_reth (.bl true) (truth_h (b := stepsB st p q) (fr rfl rfl ?_) (fr rfl rfl ?_)) rfl)
  · rw [right_q g hs]; rfl
  · rw [good_q g]; rfl
theorem math : ∀ ns : List Int, ns.length ≤ 63 → ∃ h', m_law [.fl (ns.map .int)] [] = .ok (.bl true) h' := fun ns hn => by
  obtain ⟨d, h', e, ed⟩ := math0 hn
  exact ⟨h', by rw [e, ed]⟩
end FT
namespace FT
open PySem PySem.Spec PyProof.Rows L2
theorem okL_law {P : Program} {w : World} {K : PySem.W.Frag} {mg : Str → Option Value} {base : Heap} {f : Addr} {fd : FuncData} (F : Fun K "law" "law" (top 27) f fd) (z_len : mg "len" = none) (z_repr : mg "repr" = none) (F__law_bent : Fn P w K mg base 8 "_law_bent" 3 (m__law_bent 5)) (F__law_closed : Fn P w K mg base 3 "_law_closed" 4 m__law_closed) (F__law_draw : Fn P w K mg base 1 "_law_draw" 2 m__law_draw) (F__law_great_machine : Fn P w K mg base 2 "_law_great_machine" 2 m__law_great_machine) (F__law_long : Fn P w K mg base 2 "_law_long" 2 m__law_long) (F__law_machine : Fn P w K mg base 2 "_law_machine" 3 m__law_machine) (F__law_other : Fn P w K mg base 2 "_law_other" 3 m__law_other) (F__law_pool : Fn P w K mg base 1 "_law_pool" 1 m__law_pool) (F__law_run_good : Fn P w K mg base 3 "_law_run_good" 2 m__law_run_good) (F__law_truth : Fn P w K mg base 1 "_law_truth" 2 m__law_truth) (F_right_run : Fn P w K mg base 4 "right_run" 2 m_right_run) : FnOk P w K mg base CX0 9 f fd ["_law_script"] (spB K m_law 1) :=
  fn_ok F sc_law rfl fun cdv A outer s H E hr => (show SB (cxOf CX0 P w K mg base ["_law_script", "_law_pool_here", "_law_choice", "_law_machine_here", "_law_run", "_law_thing", "_law_kept"] "law" (defScope (top 27)) f cdv A outer s H E).nox EX0 (defBody (top 27)) b_law from
    have nd : (["_law_script", "_law_pool_here", "_law_choice", "_law_machine_here", "_law_run", "_law_thing", "_law_kept"] : List Str).Nodup := sc_law.nd
    (sb_cons (s_set 1 nd (se_call F__law_pool (hr.mono (by decide)) rfl (sa_cons (se_var 0) sa_nil))) (sb_cons (s_set 2 nd (se_call F__law_draw (hr.mono (by decide)) rfl (sa_cons (se_var 1) (sa_cons se_int sa_nil)))) (sb_cons (s_set 3 nd (se_call F__law_machine (hr.mono (by decide)) rfl (sa_cons (se_var 1) (sa_cons (se_lst sa_nil) (sa_cons se_int sa_nil))))) (sb_cons (s_if (sc_c co_eq (se_var 2) se_int) (sb_cons (s_set 3 nd (se_call F__law_great_machine (hr.mono (by decide)) rfl (sa_cons (se_var 1) (sa_cons (se_lst sa_nil) sa_nil)))) sb_nil) sb_nil) (sb_cons (s_set 4 nd (se_call F__law_closed (hr.mono (by decide)) rfl (sa_cons (se_var 1) (sa_cons (se_var 3) (sa_cons (se_call F__law_draw (hr.mono (by decide)) rfl (sa_cons (se_var 1) (sa_cons (se_len rfl z_len (sa_cons (se_ix (se_var 3) se_int) sa_nil)) sa_nil))) (sa_cons (se_call F__law_draw (hr.mono (by decide)) rfl (sa_cons (se_var 1) (sa_cons se_int sa_nil))) sa_nil)))))) (sb_cons (s_set 5 nd (se_var 4)) (sb_cons (s_if (sc_c co_eq (se_var 2) se_int) (sb_cons (s_set 5 nd (se_call F__law_other (hr.mono (by decide)) rfl (sa_cons (se_var 1) (sa_cons (se_var 4) (sa_cons (se_len rfl z_len (sa_cons (se_ix (se_var 3) se_int) sa_nil)) sa_nil))))) sb_nil) sb_nil) (sb_cons (s_if (sc_c co_eq (se_var 2) se_int) (sb_cons (s_set 5 nd (se_call F__law_long (hr.mono (by decide)) rfl (sa_cons (se_var 1) (sa_cons (se_var 4) sa_nil)))) sb_nil) sb_nil) (sb_cons (s_if (SW.sc (sw_and (sc_c co_gt (se_var 2) se_int) (sw_and1 (sc_c co_lt (se_var 2) se_int)))) (sb_cons (s_set 5 nd (se_call F__law_bent (hr.mono (by decide)) rfl (sa_cons (se_var 1) (sa_cons (se_var 4) (sa_cons se_int sa_nil))))) sb_nil) sb_nil) (sb_cons (s_if (sc_c co_eq (se_var 2) se_int) (sb_cons (s_set 5 nd (se_call F__law_bent (hr.mono (by decide)) rfl (sa_cons (se_var 1) (sa_cons (se_var 5) (sa_cons se_int sa_nil))))) sb_nil) sb_nil) (sb_cons (s_set 6 nd (se_repr hr.gd hr.units rfl z_repr (sa_cons (se_var 5) sa_nil))) (sb_cons (s_if (sc_not (sc_val (se_call F__law_truth (hr.mono (by decide)) rfl (sa_cons (se_call F_right_run (hr.mono (by decide)) rfl (sa_cons (se_var 3) (sa_cons (se_var 5) sa_nil))) (sa_cons (se_call F__law_run_good (hr.mono (by decide)) rfl (sa_cons (se_var 3) (sa_cons (se_var 5) sa_nil))) sa_nil))))) (sb_cons (s_ret se_bl) sb_nil) sb_nil) (sb_cons (s_if (sc_c (co_neX (hu30 hr)) (se_repr hr.gd hr.units rfl z_repr (sa_cons (se_var 5) sa_nil)) (se_var 6)) (sb_cons (s_ret se_bl) sb_nil) sb_nil) (sb_cons (s_ret (se_call F__law_truth (hr.mono (by decide)) rfl (sa_cons (se_call F_right_run (hr.mono (by decide)) rfl (sa_cons (se_var 3) (sa_cons (se_var 4) sa_nil))) (sa_cons (se_call F__law_run_good (hr.mono (by decide)) rfl (sa_cons (se_var 3) (sa_cons (se_var 4) sa_nil))) sa_nil)))) sb_nil)))))))))))))))
end FT
open PySem PySem.W PyProof.Rows
set_option maxRecDepth 100000 in
set_option maxHeartbeats 0 in
theorem PySem.Challenge.cw_fairtrees_k20_right_runs_holds : PySem.Challenge.rw_fairtrees_k20_right_runs.Holds := by
  w_on; o_law; k_head; (case hw => w_witness2)
  k_fill
  refine FT.law_walk (l := PySem.Challenge.rw_fairtrees_k20_right_runs) (lev := 9) (p := "_law_script") (m := FT.m_law) rfl rfl ⟨rfl, by decide, by decide, rfl⟩ (fun w h Y => PySem.W.kIn_of Y) ?F FT.math
  case F =>
    intro w mg fa h KX G hmg
    have T_is_number : FT.DefAt (L2.KOf KX) "is_number" (FT.top 3) := by
      dsimp only [L2.KOf]
      refine' FT.defAt_mk ?a ?l ?c ?k
      (case a => k_is); (case l => k_is); (case c => k_is); (case k => k_is)
    have T_is_number_from : FT.DefAt (L2.KOf KX) "is_number_from" (FT.top 4) := by
      dsimp only [L2.KOf]
      refine' FT.defAt_mk ?a ?l ?c ?k
      (case a => k_is); (case l => k_is); (case c => k_is); (case k => k_is)
    have T_is_tuple : FT.DefAt (L2.KOf KX) "is_tuple" (FT.top 5) := by
      dsimp only [L2.KOf]
      refine' FT.defAt_mk ?a ?l ?c ?k
      (case a => k_is); (case l => k_is); (case c => k_is); (case k => k_is)
    have T_is_tuple_of : FT.DefAt (L2.KOf KX) "is_tuple_of" (FT.top 6) := by
      dsimp only [L2.KOf]
      refine' FT.defAt_mk ?a ?l ?c ?k
      (case a => k_is); (case l => k_is); (case c => k_is); (case k => k_is)
    have T_is_told : FT.DefAt (L2.KOf KX) "is_told" (FT.top 8) := by
      dsimp only [L2.KOf]
      refine' FT.defAt_mk ?a ?l ?c ?k
      (case a => k_is); (case l => k_is); (case c => k_is); (case k => k_is)
    have T_right_run : FT.DefAt (L2.KOf KX) "right_run" (FT.top 9) := by
      dsimp only [L2.KOf]
      refine' FT.defAt_mk ?a ?l ?c ?k
      (case a => k_is); (case l => k_is); (case c => k_is); (case k => k_is)
    have T__law_pool : FT.DefAt (L2.KOf KX) "_law_pool" (FT.top 11) := by
      dsimp only [L2.KOf]
      refine' FT.defAt_mk ?a ?l ?c ?k
      (case a => k_is); (case l => k_is); (case c => k_is); (case k => k_is)
    have T__law_draw : FT.DefAt (L2.KOf KX) "_law_draw" (FT.top 12) := by
      dsimp only [L2.KOf]
      refine' FT.defAt_mk ?a ?l ?c ?k
      (case a => k_is); (case l => k_is); (case c => k_is); (case k => k_is)
    have T__law_machine : FT.DefAt (L2.KOf KX) "_law_machine" (FT.top 13) := by
      dsimp only [L2.KOf]
      refine' FT.defAt_mk ?a ?l ?c ?k
      (case a => k_is); (case l => k_is); (case c => k_is); (case k => k_is)
    have T__law_odd : FT.DefAt (L2.KOf KX) "_law_odd" (FT.top 14) := by
      dsimp only [L2.KOf]
      refine' FT.defAt_mk ?a ?l ?c ?k
      (case a => k_is); (case l => k_is); (case c => k_is); (case k => k_is)
    have T__law_bent : FT.DefAt (L2.KOf KX) "_law_bent" (FT.top 15) := by
      dsimp only [L2.KOf]
      refine' FT.defAt_mk ?a ?l ?c ?k
      (case a => k_is); (case l => k_is); (case c => k_is); (case k => k_is)
    have T__law_number : FT.DefAt (L2.KOf KX) "_law_number" (FT.top 16) := by
      dsimp only [L2.KOf]
      refine' FT.defAt_mk ?a ?l ?c ?k
      (case a => k_is); (case l => k_is); (case c => k_is); (case k => k_is)
    have T__law_tuple : FT.DefAt (L2.KOf KX) "_law_tuple" (FT.top 17) := by
      dsimp only [L2.KOf]
      refine' FT.defAt_mk ?a ?l ?c ?k
      (case a => k_is); (case l => k_is); (case c => k_is); (case k => k_is)
    have T__law_great_machine : FT.DefAt (L2.KOf KX) "_law_great_machine" (FT.top 18) := by
      dsimp only [L2.KOf]
      refine' FT.defAt_mk ?a ?l ?c ?k
      (case a => k_is); (case l => k_is); (case c => k_is); (case k => k_is)
    have T__law_truth : FT.DefAt (L2.KOf KX) "_law_truth" (FT.top 19) := by
      dsimp only [L2.KOf]
      refine' FT.defAt_mk ?a ?l ?c ?k
      (case a => k_is); (case l => k_is); (case c => k_is); (case k => k_is)
    have T__law_walk : FT.DefAt (L2.KOf KX) "_law_walk" (FT.top 20) := by
      dsimp only [L2.KOf]
      refine' FT.defAt_mk ?a ?l ?c ?k
      (case a => k_is); (case l => k_is); (case c => k_is); (case k => k_is)
    have T__law_closed : FT.DefAt (L2.KOf KX) "_law_closed" (FT.top 21) := by
      dsimp only [L2.KOf]
      refine' FT.defAt_mk ?a ?l ?c ?k
      (case a => k_is); (case l => k_is); (case c => k_is); (case k => k_is)
    have T__law_unrolled : FT.DefAt (L2.KOf KX) "_law_unrolled" (FT.top 22) := by
      dsimp only [L2.KOf]
      refine' FT.defAt_mk ?a ?l ?c ?k
      (case a => k_is); (case l => k_is); (case c => k_is); (case k => k_is)
    have T__law_pair : FT.DefAt (L2.KOf KX) "_law_pair" (FT.top 23) := by
      dsimp only [L2.KOf]
      refine' FT.defAt_mk ?a ?l ?c ?k
      (case a => k_is); (case l => k_is); (case c => k_is); (case k => k_is)
    have T__law_run_good : FT.DefAt (L2.KOf KX) "_law_run_good" (FT.top 24) := by
      dsimp only [L2.KOf]
      refine' FT.defAt_mk ?a ?l ?c ?k
      (case a => k_is); (case l => k_is); (case c => k_is); (case k => k_is)
    have T__law_other : FT.DefAt (L2.KOf KX) "_law_other" (FT.top 25) := by
      dsimp only [L2.KOf]
      refine' FT.defAt_mk ?a ?l ?c ?k
      (case a => k_is); (case l => k_is); (case c => k_is); (case k => k_is)
    have T__law_long : FT.DefAt (L2.KOf KX) "_law_long" (FT.top 26) := by
      dsimp only [L2.KOf]
      refine' FT.defAt_mk ?a ?l ?c ?k
      (case a => k_is); (case l => k_is); (case c => k_is); (case k => k_is)
    have T_law : FT.DefAt (L2.KOf KX) "law" (FT.top 27) := by
      dsimp only [L2.KOf]
      refine' FT.defAt_mk ?a ?l ?c ?k
      (case a => k_is); (case l => k_is); (case c => k_is); (case k => k_is)
    have z_bool : mg "bool" = none := PySem.W.mg_none_of KX G (by k_is)
    have z_int : mg "int" = none := PySem.W.mg_none_of KX G (by k_is)
    have z_isinstance : mg "isinstance" = none := PySem.W.mg_none_of KX G (by k_is)
    have z_tuple : mg "tuple" = none := PySem.W.mg_none_of KX G (by k_is)
    have z_len : mg "len" = none := PySem.W.mg_none_of KX G (by k_is)
    have z_all : mg "all" = none := PySem.W.mg_none_of KX G (by k_is)
    have z_max : mg "max" = none := PySem.W.mg_none_of KX G (by k_is)
    have z_zip : mg "zip" = none := PySem.W.mg_none_of KX G (by k_is)
    have z_range : mg "range" = none := PySem.W.mg_none_of KX G (by k_is)
    have z_sorted : mg "sorted" = none := PySem.W.mg_none_of KX G (by k_is)
    have z_list : mg "list" = none := PySem.W.mg_none_of KX G (by k_is)
    have z_repr : mg "repr" = none := PySem.W.mg_none_of KX G (by k_is)
    have C_MOST : FT.Cst (L2.KOf KX) mg "MOST" FT.c_MOST := by
      dsimp only [L2.KOf]
      refine' FT.cst_int (PySem.W.mg_of KX G ?a)
      (case a => k_is)
    have C_NUMBERS : FT.Cst (L2.KOf KX) mg "NUMBERS" FT.c_NUMBERS := by
      dsimp only [L2.KOf]
      refine' FT.cst_int (PySem.W.mg_of KX G ?a)
      (case a => k_is)
    obtain ⟨f, fd, hf, F⟩ := T_law
    have e := hmg.symm.trans (PySem.W.mg_of KX G hf)
    cases e
    refine ⟨fd, FT.bindsTo1 F (fun _ _ _ _ _ _ _ => rfl), fun base _ _ => ?_⟩
    have F_is_number := FT.ok_is_number (P := PySem.Challenge.rw_fairtrees_k20_right_runs.prog) (w := w) (base := base) T_is_number (fun v e => PySem.W.mg_of KX G e) z_bool z_int z_isinstance
    have F_is_number_from := FT.ok_is_number_from (P := PySem.Challenge.rw_fairtrees_k20_right_runs.prog) (w := w) (base := base) T_is_number_from (fun v e => PySem.W.mg_of KX G e) F_is_number
    have F_is_tuple := FT.ok_is_tuple (P := PySem.Challenge.rw_fairtrees_k20_right_runs.prog) (w := w) (base := base) T_is_tuple (fun v e => PySem.W.mg_of KX G e) z_isinstance z_tuple
    have F_is_tuple_of := FT.ok_is_tuple_of (P := PySem.Challenge.rw_fairtrees_k20_right_runs.prog) (w := w) (base := base) T_is_tuple_of (fun v e => PySem.W.mg_of KX G e) z_len F_is_tuple
    have F_is_told := FT.ok_is_told (P := PySem.Challenge.rw_fairtrees_k20_right_runs.prog) (w := w) (base := base) T_is_told (fun v e => PySem.W.mg_of KX G e) C_MOST C_NUMBERS z_all z_len F_is_number_from F_is_tuple F_is_tuple_of
    have F_right_run := FT.ok_right_run (P := PySem.Challenge.rw_fairtrees_k20_right_runs.prog) (w := w) (base := base) T_right_run (fun v e => PySem.W.mg_of KX G e) z_all z_len z_max z_zip F_is_told
    have F__law_pool := FT.ok__law_pool (P := PySem.Challenge.rw_fairtrees_k20_right_runs.prog) (w := w) (base := base) T__law_pool (fun v e => PySem.W.mg_of KX G e)
    have F__law_draw := FT.ok__law_draw (P := PySem.Challenge.rw_fairtrees_k20_right_runs.prog) (w := w) (base := base) T__law_draw (fun v e => PySem.W.mg_of KX G e) z_len
    have F__law_machine := FT.ok__law_machine (P := PySem.Challenge.rw_fairtrees_k20_right_runs.prog) (w := w) (base := base) T__law_machine (fun v e => PySem.W.mg_of KX G e) z_range z_sorted z_tuple F__law_draw
    have F__law_odd := FT.ok__law_odd (P := PySem.Challenge.rw_fairtrees_k20_right_runs.prog) (w := w) (base := base) T__law_odd (fun v e => PySem.W.mg_of KX G e) F__law_draw
    have F__law_bent := FT.ok__law_bent (P := PySem.Challenge.rw_fairtrees_k20_right_runs.prog) (w := w) (base := base) T__law_bent (fun v e => PySem.W.mg_of KX G e) z_bool z_int z_isinstance z_len z_list z_tuple F__law_draw F__law_odd 5
    have F__law_number := FT.ok__law_number (P := PySem.Challenge.rw_fairtrees_k20_right_runs.prog) (w := w) (base := base) T__law_number (fun v e => PySem.W.mg_of KX G e) z_bool z_int z_isinstance
    have F__law_tuple := FT.ok__law_tuple (P := PySem.Challenge.rw_fairtrees_k20_right_runs.prog) (w := w) (base := base) T__law_tuple (fun v e => PySem.W.mg_of KX G e) z_isinstance z_len z_tuple
    have F__law_great_machine := FT.ok__law_great_machine (P := PySem.Challenge.rw_fairtrees_k20_right_runs.prog) (w := w) (base := base) T__law_great_machine (fun v e => PySem.W.mg_of KX G e) z_len z_range z_sorted z_tuple F__law_draw
    have F__law_truth := FT.ok__law_truth (P := PySem.Challenge.rw_fairtrees_k20_right_runs.prog) (w := w) (base := base) T__law_truth (fun v e => PySem.W.mg_of KX G e) z_bool z_isinstance
    have F__law_walk := FT.ok__law_walk (P := PySem.Challenge.rw_fairtrees_k20_right_runs.prog) (w := w) (base := base) T__law_walk (fun v e => PySem.W.mg_of KX G e) z_len z_range F__law_draw
    have F__law_closed := FT.ok__law_closed (P := PySem.Challenge.rw_fairtrees_k20_right_runs.prog) (w := w) (base := base) T__law_closed (fun v e => PySem.W.mg_of KX G e) z_len z_range z_tuple F__law_draw F__law_walk
    have F__law_unrolled := FT.ok__law_unrolled (P := PySem.Challenge.rw_fairtrees_k20_right_runs.prog) (w := w) (base := base) T__law_unrolled (fun v e => PySem.W.mg_of KX G e) z_len
    have F__law_pair := FT.ok__law_pair (P := PySem.Challenge.rw_fairtrees_k20_right_runs.prog) (w := w) (base := base) T__law_pair (fun v e => PySem.W.mg_of KX G e) z_len F__law_number F__law_tuple
    have F__law_run_good := FT.ok__law_run_good (P := PySem.Challenge.rw_fairtrees_k20_right_runs.prog) (w := w) (base := base) T__law_run_good (fun v e => PySem.W.mg_of KX G e) z_len z_range F__law_pair
    have F__law_other := FT.ok__law_other (P := PySem.Challenge.rw_fairtrees_k20_right_runs.prog) (w := w) (base := base) T__law_other (fun v e => PySem.W.mg_of KX G e) z_len F__law_draw
    have F__law_long := FT.ok__law_long (P := PySem.Challenge.rw_fairtrees_k20_right_runs.prog) (w := w) (base := base) T__law_long (fun v e => PySem.W.mg_of KX G e) z_len F__law_draw F__law_unrolled
    exact FT.okL_law F z_len z_repr F__law_bent F__law_closed F__law_draw F__law_great_machine F__law_long F__law_machine F__law_other F__law_pool F__law_run_good F__law_truth F_right_run
