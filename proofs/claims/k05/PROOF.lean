import PyProof.Rows.All
import Wide.All
import OpenK.AllK
import Wide.FinOn
import Lean
import PyProof.EqAt
import PyProof.EqKinds
import PyProof.TupleCall
import PyProof.NeKinds
import PySem.Challenge.RW_fairtrees_k05_programs_taken
-- CHANGE: your row's module here, as the last of these rows
set_option Elab.async false
set_option linter.all false
set_option maxRecDepth 100000
/-! THE HAND LAYER, for ints, bools, texts, own classes, LISTS and tuples (index, slices, in, append, pop ..), calls, loops. Paste it whole ahead of your own text; what your proof does not reach may be deleted. -/
namespace L2
open PySem PySem.Spec PyProof.Rows
/-- a key: an int or a str -/
abbrev Key := Sum Int Str
def keyIs : Key → Value → Bool
  | .inl k, v => Value.isInt k v
  | .inr x, v => Value.isStrOf x v
def keyH (w : World) : Key → Int
  | .inl k => hashInt k
  | .inr x => hashStr w x
theorem keyIs_shape : ∀ {k : Key} {v : Value}, keyIs k v = true → (∃ i t, k = Sum.inl i ∧ v = Value.int i t) ∨ (∃ x t, k = Sum.inr x ∧ v = Value.str x t)
  | .inl i, v, h => by
    obtain ⟨t, e⟩ := Value.isInt_shape (k := i) (v := v) h
    exact .inl ⟨i, t, rfl, e⟩
  | .inr x, v, h => by
    obtain ⟨t, e⟩ := Value.isStrOf_shape (x := x) (v := v) h
    exact .inr ⟨x, t, rfl, e⟩
theorem keyIs_int (i : Int) (t : Tok) : keyIs (.inl i) (.int i t) = true := by simp [keyIs, Value.isInt]
theorem keyIs_str (x : Str) (t : Tok) : keyIs (.inr x) (.str x t) = true := by simp [keyIs, Value.isStrOf]
theorem key_ll (a b : Int) : decide ((Sum.inl a : Key) = Sum.inl b) = (a == b) := by
  by_cases e : a = b
  · subst e; simp
  · have h : ¬ (Sum.inl a : Key) = Sum.inl b := fun q => e (Sum.inl.inj q)
    rw [decide_eq_false h]
    exact (beq_eq_false_iff_ne.mpr e).symm
theorem key_rr (a b : Str) : decide ((Sum.inr a : Key) = Sum.inr b) = decide (a = b) := by
  by_cases e : a = b
  · subst e; simp
  · have h : ¬ (Sum.inr a : Key) = Sum.inr b := fun q => e (Sum.inr.inj q)
    rw [decide_eq_false h, decide_eq_false e]
theorem key_lr (a : Int) (b : Str) : decide ((Sum.inl a : Key) = Sum.inr b) = false := decide_eq_false (fun q => nomatch q)
theorem key_rl (a : Str) (b : Int) : decide ((Sum.inr a : Key) = Sum.inl b) = false := decide_eq_false (fun q => nomatch q)
def mixKind (prog : Program) (w : World) : PySem.KeyKind prog w Key where
  is := keyIs
  hash := keyH w
  inj := fun v a b ha hb => by
    rcases keyIs_shape ha with ⟨i, t, rfl, rfl⟩ | ⟨x, t, rfl, rfl⟩
    · rcases keyIs_shape hb with ⟨j, u, rfl, e⟩ | ⟨y, u, rfl, e⟩
      · injection e with e1 _; rw [e1]
      · exact nomatch e
    · rcases keyIs_shape hb with ⟨j, u, rfl, e⟩ | ⟨y, u, rfl, e⟩
      · exact nomatch e
      · injection e with e1 _; rw [e1]
  byValue := fun k v h => by
    rcases keyIs_shape h with ⟨i, t, rfl, rfl⟩ | ⟨x, t, rfl, rfl⟩ <;> rfl
  pyHash := fun hv h => by
    rcases keyIs_shape hv with ⟨i, t, rfl, rfl⟩ | ⟨x, t, rfl, rfl⟩
    · exact wpAny_pyHash_int h
    · exact wpAny_pyHash_str h
  eqBool := fun hu hv h => by
    rcases keyIs_shape hu with ⟨i, t, rfl, rfl⟩ | ⟨x, t, rfl, rfl⟩
    · rcases keyIs_shape hv with ⟨j, u, rfl, rfl⟩ | ⟨y, u, rfl, rfl⟩
      · rw [key_ll] at h; exact wpAny_eqBool_int h
      · rw [key_lr] at h; exact SeqAt.EqAt.int_str i t y u _ _ _ _ h
    · rcases keyIs_shape hv with ⟨j, u, rfl, rfl⟩ | ⟨y, u, rfl, rfl⟩
      · rw [key_rl] at h; exact SeqAt.EqAt.str_int x t j u _ _ _ _ h
      · rw [key_rr] at h; exact wpAny_eqBool_str h
  «strs» := fun k x t v h => by
    rcases keyIs_shape h with ⟨i, u, rfl, e⟩ | ⟨y, u, rfl, e⟩
    · exact nomatch e
    · injection e with e1 _
      subst e1
      cases v <;> rfl
end L2
namespace FT
open PySem PySem.Spec PyProof.Rows L2
abbrev Rise (xs : Array Nat) : Prop := xs.toList.Pairwise (· < ·)
instance keyMem (k : Key) (ks : List Key) : Decidable (k ∈ ks) := @List.instDecidableMemOfLawfulBEq Key instBEqOfDecidableEq inferInstance k ks
section
variable (w : World)
def KE (k : Key) (e : Int × Value) : Prop := keyIs k e.2 = true ∧ e.1 = keyH w k
def SetAt (h : Heap) (a : Addr) (ks : List Key) : Prop :=
  ∃ o es ep t ks', h.get? a = some o ∧ o.ExactSet ∧ o.data = .set es ep t ∧ Paired (KE w) ks' es.toList ∧ ks'.Perm ks ∧ ks.Nodup ∧ es.size < scanBound ∧ t.fits es.size = true ∧ Rise t.place ∧
    (t.led = true ∨ w.params.followText "set-order" = true)
end
end FT
namespace L2
open PySem PySem.Spec PyProof.Rows
/-- a value, without the heap -/
inductive V where
  | non | bl (b : Bool) | int (i : Int) | str (x : Str) | byt (b : Array UInt8) | flt (b : UInt64) | ref (a : Addr) | ty (n : String)
  deriving DecidableEq
def RelV : V → Value → Prop
  | .non, u => u = Value.none
  | .bl b, u => u = Value.bool b
  | .int i, u => ∃ t, u = Value.int i t
  | .str x, u => ∃ t, u = Value.str x t
  | .byt b, u => ∃ t, u = Value.bytes b t
  | .flt b, u => ∃ t, u = Value.float b t
  | .ref a, u => u = Value.ref a
  | .ty n, u => u = Value.type n
abbrev Vals : List V → List Value → Prop := Paired RelV
theorem Vals.length {xs : List V} {us : List Value} (r : Vals xs us) : xs.length = us.length := Paired.length r
theorem Vals.get : ∀ {xs : List V} {us : List Value} {i : Nat} {x : V}, Vals xs us → xs[i]? = some x → ∃ u, us[i]? = some u ∧ RelV x u
  | _, _, _, _, .nil, e => by simp at e
  | _, _, 0, _, .cons r _, e => by simp at e; subst e; exact ⟨_, rfl, r⟩
  | _, _, i + 1, x, .cons _ t, e => by
    obtain ⟨u, h1, h2⟩ := Vals.get (i := i) (x := x) t (by simpa using e)
    exact ⟨u, by simpa using h1, h2⟩
theorem Vals.set {x : V} {u : Value} (r : RelV x u) : ∀ {xs : List V} {us : List Value} (i : Nat), Vals xs us → Vals (xs.set i x) (us.set i u)
  | _, _, _, .nil => .nil
  | _, _, 0, .cons _ t => .cons r t
  | _, _, i + 1, .cons q t => .cons q (Vals.set r i t)
theorem Vals.append : ∀ {xs ys : List V} {us ws : List Value}, Vals xs us → Vals ys ws → Vals (xs ++ ys) (us ++ ws)
  | _, _, _, _, .nil, s => s
  | _, _, _, _, .cons r t, s => .cons r (Vals.append t s)
theorem Vals.take : ∀ {xs : List V} {us : List Value} (n : Nat), Vals xs us → Vals (xs.take n) (us.take n)
  | _, _, 0, _ => .nil
  | _, _, _ + 1, .nil => .nil
  | _, _, n + 1, .cons r t => .cons r (Vals.take n t)
theorem Vals.drop : ∀ {xs : List V} {us : List Value} (n : Nat), Vals xs us → Vals (xs.drop n) (us.drop n)
  | _, _, 0, r => r
  | _, _, _ + 1, .nil => .nil
  | _, _, n + 1, .cons _ t => Vals.drop n t
def RelO : Option V → Option Value → Prop
  | some v, some u => RelV v u
  | none, none => True
  | _, _ => False
def KV {κ : Type} : List (κ × V) → List (κ × Value) → Prop := Paired fun (p : κ × V) (q : κ × Value) => p.1 = q.1 ∧ RelV p.2 q.2
/-- a key of a dict (00_mix): an int or a text -/
def kV : Key → V
  | .inl i => .int i
  | .inr x => .str x
/-- what stands at a tracked address -/
inductive HO where
  /-- a list -/
  | lst (xs : List V)
  /-- a tuple (never changes) -/
  | tup (xs : List V)
  /-- a dict whose keys are ints and texts; one whose keys are tuples of ints and texts (the empty one is both) -/
  | dK (kvs : List (Key × V)) | dT (kvs : List (List Key × V))
  /-- a set: its keys -/
  | set (ks : List Key)
  /-- an instance of the class at C, its dict at dx, its attributes -/
  | ins (C dx : Addr) (fs : List (Str × V))
  /-- the dict of the instance at x -/
  | own (x : Addr)
  /-- the dict of an exception -/
  | xd (fs : List (Str × V))
  /-- a bound method, f of x -/
  | met (f x : Addr)
  /-- a range object lo, lo + 1, .. below hi -/
  | rng (lo hi : Int)
  /-- a thing that is known to the object (the script; a dict while a loop walks it): read, never written while it is so -/
  | frz (o : Obj) (u : HO)
  /-- a code object's table -/
  | tbl (ps : Array Value)
  /-- any other thing, by what is true of its one object (a def of one's own: SetO a S n := HO.ext fun h => ..) -/
  | ext (φ : Heap → Prop)
abbrev Hp := Addr → Option HO
def upd (H : Hp) (a : Addr) (o : HO) : Hp := fun b => if b = a then some o else H b
theorem upd_same {H : Hp} {a : Addr} {o : HO} : upd H a o a = some o := by unfold upd; rw [if_pos rfl]
theorem upd_ne {H : Hp} {a b : Addr} {o : HO} (h : b ≠ a) : upd H a o b = H b := by unfold upd; rw [if_neg h]
theorem ne_of_none {H : Hp} {a b : Addr} {o : HO} (h : H a = some o) (h' : H b = none) : a ≠ b := by
  intro e; subst e; rw [h] at h'; cases h'
section
variable (P : Program) (w : World)
def ObjOk (H : Hp) (h : Heap) (a : Addr) : HO → Prop
  | .lst xs => xs.length ≤ sizeLine ∧ ∃ (its : List Value) (n : Nat), Vals xs its ∧ h.get? a = some { cls := .type "list", data := .seq its.toArray n }
  | .tup xs => xs.length ≤ sizeLine ∧ ∃ its : List Value, Vals xs its ∧ IsTup h a its.toArray
  | .dK kvs => kvs.length ≤ sizeLine ∧ (a == sysModules) = false ∧ ∃ vs, KV kvs vs ∧ h.DictOf (mixKind P w) a vs
  | .dT kvs => kvs.length ≤ sizeLine ∧ (a == sysModules) = false ∧ ∃ xs : List (List Key × Addr × Value),
      Paired (fun (p : List Key × V) (q : List Key × Addr × Value) => p.1 = q.1 ∧ H q.2.1 = some (.tup (p.1.map kV)) ∧ RelV p.2 q.2.2) kvs xs ∧
      ∃ o es ep, h.get? a = some o ∧ o.ExactDict ∧ o.data = .dict es ep ∧ es.toList = xs.map (entryOfKey (tupleKind (mixKind P w))) ∧ (xs.map (·.1)).Nodup
  | .set ks => FT.SetAt w h a ks
  | .ins C dx fs => H dx = some (.own a) ∧ fs.length ≤ 1000 ∧ dx ≠ a ∧ h.get? a = some (PySem.W.instObj C dx) ∧
      ∃ mA, h.Ns1 dx mA ∧ (∀ f, RelO (fs.lookup f) (mA f)) ∧ PySem.Within mA (fs.map (·.1))
  | .own _ => ∃ o, h.get? a = some o
  | .xd fs => ∃ mA, h.Ns1 a mA ∧ ∀ f, RelO (fs.lookup f) (mA f)
  | .rng lo hi => ∃ t u v, h.get? a = some { cls := .type "range", data := .fields #[.int lo t, .int hi u, .int 1 v] }
  | .frz o u => h.get? a = some o ∧ ObjOk H h a u
  | .tbl ps => h.get? a = some { cls := .none, data := .fields ps }
  | .met f x => h.get? a = some (PySem.W.methodObj (.ref f) (.ref x))
  | .ext φ => φ h ∧ (∃ o, h.get? a = some o) ∧ ∀ h1 h2 : Heap, φ h1 → (∀ o, h1.get? a = some o → h2.get? a = some o) → φ h2
/-- the abstract heap is held -/
def HOk (H : Hp) (h : Heap) : Prop := ∀ a o, H a = some o → ObjOk P w H h a o
end
section
variable {P : Program} {w : World} {H H' : Hp} {h h' : Heap} {a : Addr} {o : HO}
theorem ObjOk.lt (x : ObjOk P w H h a o) : a < h.objs.size := by
  cases o with
  | lst xs => obtain ⟨_, _, _, _, e⟩ := x; exact Heap.lt_size e
  | tup xs => obtain ⟨_, _, _, p⟩ := x; exact p.lt
  | dK kvs => obtain ⟨_, _, _, _, o, _, _, e, _⟩ := x; exact Heap.lt_size e
  | dT kvs => obtain ⟨_, _, _, _, o, _, _, e, _⟩ := x; exact Heap.lt_size e
  | set ks => obtain ⟨o, _, _, _, _, e, _⟩ := x; exact Heap.lt_size e
  | ins C dx fs => obtain ⟨_, _, _, e, _⟩ := x; exact Heap.lt_size e
  | own y => obtain ⟨_, e⟩ := x; exact Heap.lt_size e
  | xd fs => obtain ⟨_, ⟨_, _, _, e, _⟩, _⟩ := x; exact Heap.lt_size e
  | rng lo hi => obtain ⟨_, _, _, e⟩ := x; exact Heap.lt_size e
  | frz ob u => obtain ⟨e, _⟩ := x; exact Heap.lt_size e
  | tbl ps => exact Heap.lt_size (show h.get? a = some _ from x)
  | met f y => exact Heap.lt_size (show h.get? a = some _ from x)
  | ext φ => obtain ⟨_, ⟨_, e⟩, _⟩ := x; exact Heap.lt_size e
theorem Paired.mapP {α β : Type} {F G : α → β → Prop} : ∀ {l₁ : List α} {l₂ : List β}, Paired F l₁ l₂ → (∀ a b, F a b → G a b) → Paired G l₁ l₂
  | _, _, .nil, _ => .nil
  | _, _, .cons r t, f => .cons (f _ _ r) (Paired.mapP t f)
/-- what an object's description leans on: its own object, its own dict, the tuples -/
theorem ObjOk.stay (x : ObjOk P w H h a o) (k : ∀ b u, (b = a ∨ H b = some (.own a)) → h.get? b = some u → h'.get? b = some u)
    (ho : ∀ b, H b = some (.own a) → H' b = some (.own a)) (ht : ∀ b xs, H b = some (.tup xs) → H' b = some (.tup xs)) : ObjOk P w H' h' a o := by
  induction o with
  | lst xs => obtain ⟨z, its, n, r, e⟩ := x; exact ⟨z, its, n, r, k _ _ (.inl rfl) e⟩
  | tup xs => obtain ⟨z, its, r, ob, e, c⟩ := x; exact ⟨z, its, r, ob, k _ _ (.inl rfl) e, c⟩
  | dK kvs => obtain ⟨z, y, vs, r, ob, es, ep, e, c⟩ := x; exact ⟨z, y, vs, r, ob, es, ep, k _ _ (.inl rfl) e, c⟩
  | dT kvs =>
    obtain ⟨z, y, xs, r, ob, es, ep, e, c⟩ := x
    exact ⟨z, y, xs, Paired.mapP r fun p q z => ⟨z.1, ht _ _ z.2.1, z.2.2⟩, ob, es, ep, k _ _ (.inl rfl) e, c⟩
  | set ks => obtain ⟨ob, es, ep, t, k', e, c⟩ := x; exact ⟨ob, es, ep, t, k', k _ _ (.inl rfl) e, c⟩
  | ins C dx fs =>
    obtain ⟨d, z, ne, e, mA, ⟨od, es, ep, e2, c⟩, r⟩ := x
    exact ⟨ho _ d, z, ne, k _ _ (.inl rfl) e, mA, ⟨od, es, ep, k _ _ (.inr d) e2, c⟩, r⟩
  | own y => obtain ⟨ob, e⟩ := x; exact ⟨ob, k _ _ (.inl rfl) e⟩
  | xd fs => obtain ⟨mA, ⟨od, es, ep, e, c⟩, r⟩ := x; exact ⟨mA, ⟨od, es, ep, k _ _ (.inl rfl) e, c⟩, r⟩
  | rng lo hi => obtain ⟨t, u, v, e⟩ := x; exact ⟨t, u, v, k _ _ (.inl rfl) e⟩
  | frz ob u ih => obtain ⟨e, q⟩ := x; exact ⟨k _ _ (.inl rfl) e, ih q⟩
  | tbl ps =>
    have e : h.get? a = some { cls := .none, data := .fields ps } := x
    show h'.get? a = some { cls := .none, data := .fields ps }
    exact k a _ (.inl rfl) e
  | met f y =>
    have e : h.get? a = some (PySem.W.methodObj (.ref f) (.ref y)) := x
    show h'.get? a = some (PySem.W.methodObj (.ref f) (.ref y))
    exact k a _ (.inl rfl) e
  | ext φ => obtain ⟨p, ⟨o, e⟩, st⟩ := x; exact ⟨st _ _ p fun o q => k _ _ (.inl rfl) q, ⟨o, k _ _ (.inl rfl) e⟩, st⟩
theorem HOk.lt (x : HOk P w H h) (e : H a = some o) : a < h.objs.size := (x a o e).lt
theorem HOk.fresh (x : HOk P w H h) (e : h.objs.size ≤ a) : H a = none := by
  cases q : H a with
  | none => rfl
  | some u => exact absurd (Nat.lt_of_lt_of_le (x.lt q) e) (Nat.lt_irrefl _)
/-- every object of the heap is kept -/
theorem HOk.kept (x : HOk P w H h) (k : ∀ b u, h.get? b = some u → h'.get? b = some u) : HOk P w H h' := fun a o e =>
  (x a o e).stay (fun b u _ q => k b u q) (fun _ q => q) fun _ _ q => q
/-- a new object is laid and tracked -/
theorem HOk.laid (x : HOk P w H h) (k : ∀ b u, h.get? b = some u → h'.get? b = some u) (hp : h.objs.size ≤ a) (new : ObjOk P w (upd H a o) h' a o) : HOk P w (upd H a o) h' := fun b u e => by
  have hn := x.fresh hp
  by_cases hb : b = a
  · subst hb; rw [upd_same] at e; cases e; exact new
  · rw [upd_ne hb] at e
    exact (x b u e).stay (fun c v _ q => k c v q) (fun c q => by rw [upd_ne (ne_of_none q hn)]; exact q) fun c xs q => by rw [upd_ne (ne_of_none q hn)]; exact q
end
/-- what may be read as u: it is u, or a known u -/
def Rd (H : Hp) (a : Addr) (u : HO) : Prop := H a = some u ∨ ∃ o, H a = some (.frz o u)
theorem Rd.of {H : Hp} {a : Addr} {u : HO} (h : H a = some u) : Rd H a u := .inl h
theorem Rd.ok {P : Program} {w : World} {H : Hp} {h : Heap} {a : Addr} {u : HO} (r : Rd H a u) (x : HOk P w H h) : ObjOk P w H h a u := by
  rcases r with r | ⟨o, r⟩
  · exact x a u r
  · obtain ⟨_, q⟩ := x a _ r
    exact q
/-- what may be written -/
def Mut : Option HO → Prop
  | some (.lst _) => True
  | some (.dK _) => True
  | some (.dT _) => True
  | some (.set _) => True
  | some (.ins _ _ _) => True
  | some (.ext _) => True
  | _ => False
section
variable {P : Program} {w : World} {H : Hp} {h h' : Heap} {x e : Addr} {o' : HO}
/-- the object at e is changed: x itself, or the dict of the instance x -/
theorem HOk.write (ok : HOk P w H h) (mu : Mut (H x)) (he : e = x ∨ H e = some (.own x)) (k : ∀ b u, b ≠ e → h.get? b = some u → h'.get? b = some u) (heo : ∃ u, h'.get? e = some u)
    (new : ObjOk P w (upd H x o') h' x o') : HOk P w (upd H x o') h' := fun b u q => by
  have nown : ∀ c y, H c = some (.own y) → c ≠ x := fun c y r z => by subst z; rw [r] at mu; exact mu
  have ntup : ∀ c xs, H c = some (.tup xs) → c ≠ x := fun c xs r z => by subst z; rw [r] at mu; exact mu
  by_cases hb : b = x
  · subst hb; rw [upd_same] at q; cases q; exact new
  · rw [upd_ne hb] at q
    by_cases hbe : b = e
    · have q' : H b = some (.own x) := by
        rcases he with z | z
        · exact absurd (hbe.trans z) hb
        · rw [hbe]; exact z
      rw [q] at q'; cases q'
      obtain ⟨v, hv⟩ := heo
      exact ⟨v, by rw [hbe]; exact hv⟩
    · refine (ok b u q).stay (fun c v hc r => k c v ?_ r) (fun c r => by rw [upd_ne (nown c b r)]; exact r) fun c xs r => by rw [upd_ne (ntup c xs r)]; exact r
      rcases hc with rfl | hc
      · exact hbe
      · rintro rfl
        rcases he with z | z
        · exact nown c b hc z
        · rw [hc] at z; cases z; exact hb rfl
end
/-! ### kept unless tracked; of the frames at fs (the callers') the slots may change (an exception that passes writes there); of the records at ex (iterators) nothing is said -/
structure Un (fs ex : List Addr) (H H' : Hp) (h h' : Heap) : Prop where
  keep : ∀ b o, h.get? b = some o → H b = none → b ∉ fs → b ∉ ex → h'.get? b = some o
  slot : ∀ b o, h.get? b = some o → H b = none → b ∈ fs → b ∉ ex → ∃ sl, h'.get? b = some { o with slots := sl }
  free : ∀ b o, h.get? b = some o → H b = none → b ∉ ex → H' b = none
  there : ∀ b o, h.get? b = some o → b ∉ ex → ∃ o', h'.get? b = some o'
  tups : ∀ b xs, H b = some (.tup xs) → H' b = some (.tup xs)
  frzs : ∀ b o u, H b = some (.frz o u) → H' b = some (.frz o u)
  tbls : ∀ b ps, H b = some (.tbl ps) → ∃ more, H' b = some (.tbl (ps ++ more))
section
variable {fs fs' ex ex' : List Addr} {H H1 H2 : Hp} {h h1 h2 h' : Heap} {a x e : Addr} {o : HO}
theorem Un.any (u : Un fs ex H H1 h h1) {b : Addr} {ob : Obj} (q : h.get? b = some ob) (n : H b = none) (hx : b ∉ ex) : ∃ sl, h1.get? b = some { ob with slots := sl } := by
  by_cases hb : b ∈ fs
  · exact u.slot b ob q n hb hx
  · exact ⟨ob.slots, u.keep b ob q n hb hx⟩
theorem Un.trans (a : Un fs ex H H1 h h1) (b : Un fs ex H1 H2 h1 h2) : Un fs ex H H2 h h2 where
  keep := fun c ob q n hc hx => b.keep c ob (a.keep c ob q n hc hx) (a.free c ob q n hx) hc hx
  slot := fun c ob q n hc hx => by
    obtain ⟨sl, e1⟩ := a.slot c ob q n hc hx
    obtain ⟨sl', e2⟩ := b.slot c _ e1 (a.free c ob q n hx) hc hx
    exact ⟨sl', e2⟩
  free := fun c ob q n hx => by
    obtain ⟨o', e1⟩ := a.there c ob q hx
    exact b.free c o' e1 (a.free c ob q n hx) hx
  there := fun c ob q hx => by
    obtain ⟨o', e1⟩ := a.there c ob q hx
    exact b.there c o' e1 hx
  tups := fun c xs q => b.tups c xs (a.tups c xs q)
  frzs := fun c ob xs q => b.frzs c ob xs (a.frzs c ob xs q)
  tbls := fun c ps q => by
    obtain ⟨m1, e1⟩ := a.tbls c ps q
    obtain ⟨m2, e2⟩ := b.tbls c _ e1
    exact ⟨m1 ++ m2, by rw [e2, Array.append_assoc]⟩
theorem Un.kept (k : ∀ b u, h.get? b = some u → h'.get? b = some u) : Un fs ex H H h h' :=
  ⟨fun b ob q _ _ _ => k b ob q, fun b ob q _ _ _ => ⟨ob.slots, k b ob q⟩, fun _ _ _ n _ => n, fun b ob q _ => ⟨ob, k b ob q⟩, fun _ _ q => q, fun _ _ _ q => q, fun _ ps q => ⟨#[], by rw [q]; simp⟩⟩
theorem Un.refl : Un fs ex H H h h := Un.kept fun _ _ q => q
theorem Un.laid (k : ∀ b u, h.get? b = some u → h'.get? b = some u) (hp : h.objs.size ≤ a) (hn : H a = none) : Un fs ex H (upd H a o) h h' where
  keep := fun b u q _ _ _ => k b u q
  slot := fun b u q _ _ _ => ⟨u.slots, k b u q⟩
  free := fun b u q n _ => by rw [upd_ne (Nat.ne_of_lt (Nat.lt_of_lt_of_le (Heap.lt_size q) hp))]; exact n
  there := fun b u q _ => ⟨u, k b u q⟩
  tups := fun b xs q => by rw [upd_ne (ne_of_none q hn)]; exact q
  frzs := fun b u xs q => by rw [upd_ne (ne_of_none q hn)]; exact q
  tbls := fun b ps q => ⟨#[], by rw [upd_ne (ne_of_none q hn), q]; simp⟩
theorem Un.write (mu : Mut (H x)) (he : e = x ∨ H e = some (.own x)) (k : ∀ b u, b ≠ e → h.get? b = some u → h'.get? b = some u) (heo : ∃ u, h'.get? e = some u) : Un fs ex H (upd H x o) h h' := by
  have hx : ∀ b, H b = none → b ≠ x := fun b n z => by subst z; rw [n] at mu; exact mu
  have hb : ∀ b, H b = none → b ≠ e := fun b n z => by
    subst z
    rcases he with r | r
    · exact hx b n r
    · rw [n] at r; cases r
  have hm : ∀ b u, H b = some u → ¬ Mut (some u) → b ≠ x := fun b u q nm z => by subst z; rw [q] at mu; exact nm mu
  refine ⟨fun b u q n _ _ => k b u (hb b n) q, fun b u q n _ _ => ⟨u.slots, k b u (hb b n) q⟩, fun b u q n _ => by rw [upd_ne (hx b n)]; exact n, fun b u q _ => ?_,
    fun b xs q => by rw [upd_ne (hm b _ q fun z => z)]; exact q, fun b u xs q => by rw [upd_ne (hm b _ q fun z => z)]; exact q, fun b ps q => ⟨#[], by rw [upd_ne (hm b _ q fun z => z), q]; simp⟩⟩
  by_cases hbe : b = e
  · subst hbe; exact heo
  · exact ⟨u, k b u hbe q⟩
theorem Un.mono (u : Un fs ex H H1 h h1) (hs : ∀ b ∈ fs, b ∈ fs') (hx : ∀ b ∈ ex, b ∈ ex') : Un fs' ex' H H1 h h1 :=
  ⟨fun b ob q n hb he => u.keep b ob q n (fun z => hb (hs b z)) fun z => he (hx b z), fun _ _ q n _ he => u.any q n fun z => he (hx _ z), fun b ob q n he => u.free b ob q n fun z => he (hx b z), fun b ob q he => u.there b ob q fun z => he (hx b z), u.tups, u.frzs, u.tbls⟩
end
/-! ### the heap without what is tracked -/
def trk (h : Heap) (H : Hp) : List Addr := (List.range h.objs.size).filter fun a => (H a).isSome
def hidT (h : Heap) (H : Hp) : Heap := PySem.W.hideAll h (trk h H)
theorem hidT_size (h : Heap) (H : Hp) : (hidT h H).objs.size = h.objs.size := PySem.W.hideAll_size _ _
theorem hidT_get {h : Heap} {H : Hp} {b : Addr} {o : Obj} (e : h.get? b = some o) (n : H b = none) : (hidT h H).get? b = some o :=
  PySem.W.hideAll_get _ e fun hm => by
    have q : (H b).isSome = true := (List.mem_filter.mp hm).2
    rw [n] at q; simp at q
theorem of_hidT {h : Heap} {H : Hp} {b : Addr} {o : Obj} (e : (hidT h H).get? b = some o) : h.get? b = some o ∧ H b = none := by
  have e' : h.get? b = some o := PySem.W.of_hideAll (trk h H) e
  refine ⟨e', ?_⟩
  cases q : H b with
  | none => rfl
  | some x =>
    have hm : b ∈ trk h H := List.mem_filter.mpr ⟨List.mem_range.mpr (Heap.lt_size e'), by simp [q]⟩
    have z : (hidT h H).get? b = none := PySem.W.hideAll_none (trk h H) hm
    rw [z] at e; cases e
/-! ### OpenK's ledger, filled with every new object but one -/
def allNews (g h : Heap) (L : Addr) : List (Addr × Obj) := (List.range h.objs.size).filterMap fun a => if a = L ∨ (g.get? a).isSome = true then none else (h.get? a).map fun o => (a, o)
def rest (g h : Heap) (L d : Addr) : List (Addr × Obj) := (allNews g h L).filter fun p => decide (p.1 ≠ d)
end L2
namespace L2
open PySem PySem.Spec PyProof.Rows
/-- the module's facts, over the base: the heap at the law's entry without what is tracked there -/
structure Mod (K : PySem.W.Frag) (mg : Str → Option Value) (base : Heap) : Prop where
  kin : K.In base
  glob : base.Ns mainGlobals mg
  blt : ∃ mb, base.Ns builtinsNs mb ∧ ∀ x : Str, x ≠ "__name__" → mb x = bootBuiltins x
  nolimit : base.NoLimit
/-- the context: a def's body (or a comprehension's block) running. base: fixed through the whole law; s₀, H₀: the entry; outer: the frames whose slots others may change (a def's callers); stack: all frames that run;
   ex: iterators that were made ahead of the entry and are walked here (a comprehension's); fn: the names whose cells were made at the entry (a def: all; a comprehension's block: its own); calm: not within an except suite; pn: pins that every state bears; xe: what is wanted of an exception that leaves the code -/
structure Cx where
  prog : Program
  w : World
  K : PySem.W.Frag
  mg : Str → Option Value
  base : Heap
  A : Around
  N : List Str
  s₀ : Shared
  H₀ : Hp
  env : Env
  outer : List Env
  stack : List Env
  ex : List Addr
  fn : Str → Bool
  calm : Bool
  pn : List (Addr × Obj)
  xe : Value → Shared → Prop
/-- the callers' frames -/
def frs (l : List Env) : List Addr := l.filterMap (·.frame)
abbrev Cx.fs (X : Cx) : List Addr := frs X.outer
def Vis (sc : Scope) (x : Str) : Prop := sc.names.lookup x = some .local ∨ sc.names.lookup x = some .cell ∨ sc.names.lookup x = some .free
def Loc (sc : Scope) (x : Str) : Prop := sc.names.lookup x = some .local ∨ sc.names.lookup x = some .cell
def Look (env : Env) (h : Heap) (m : Str → Option Value) (x : Str) (u : Value) : Prop :=
  (env.kindOf x = some .local ∧ m x = some u) ∨ ((env.kindOf x = some .cell ∨ env.kindOf x = some .free) ∧ ∃ c, env.cells.lookup x = some c ∧ h.IsCell c (some u))
structure Cx.Ok (X : Cx) : Prop where
  mod : Mod X.K X.mg X.base
  kind : X.env.scope.kind = .function
  glob : X.env.globals = mainGlobals
  blt : X.env.builtins = builtinsNs
  above : X.s₀.heap.objs.size ≤ X.env.locals
  inj : ∀ x y c, X.env.cells.lookup x = some c → X.env.cells.lookup y = some c → x = y
  has : ∀ x, (X.env.kindOf x = some .cell ∨ X.env.kindOf x = some .free) → ∃ c, X.env.cells.lookup x = some c
  cab : ∀ x c, X.fn x = true → X.env.cells.lookup x = some c → X.s₀.heap.objs.size ≤ c
  hd : X.calm = true → X.A.handled = none
  frames : X.A.frames = some X.stack
  stk : X.stack = X.outer ∨ (X.stack = X.env :: X.outer ∧ X.env.frame = some X.env.locals)
  exf : ∀ b ∈ X.ex, b ≠ X.env.locals ∧ ∀ x c, X.env.cells.lookup x = some c → c ≠ b
  bs : ∀ b o, X.base.get? b = some o → X.s₀.heap.get? b = some o ∧ X.H₀ b = none
  bsz : X.base.objs.size ≤ X.s₀.heap.objs.size
  noex : ∀ b o, X.base.get? b = some o → b ∉ X.ex
  exfs : ∀ b ∈ X.ex, b ∉ X.fs
  funs : X.s₀.heap.FunFrames X.base X.outer
  frf : ∀ b ∈ X.fs, X.H₀ b = none
structure Inv (X : Cx) (pins : List (Addr × Obj)) (σ : List (Option V)) (H : Hp) (s : Shared) : Prop where
  ok : X.Ok
  os : s.os = X.s₀.os
  bare : AllBare s.gens
  base : Un X.fs X.ex X.H₀ H X.s₀.heap s.heap
  loc : ∃ m, s.heap.Ns X.env.locals m ∧ ∀ (i : Nat) (x : Str) (v : V), X.N[i]? = some x → σ[i]? = some (some v) → Vis X.env.scope x → ∃ u, RelV v u ∧ Look X.env s.heap m x u
  cell : ∀ x c, X.env.cells.lookup x = some c → ∃ v, s.heap.IsCell c v
  free : H X.env.locals = none
  freeC : ∀ x c, X.env.cells.lookup x = some c → H c = none
  pin : ∀ p ∈ X.pn ++ pins, s.heap.get? p.1 = some p.2 ∧ H p.1 = none ∧ p.1 ≠ X.env.locals ∧ p.1 ∉ X.fs ∧ ∀ v, p.2.data ≠ .cell v
  hok : HOk X.prog X.w H s.heap
  len : σ.length = X.N.length
section
variable {X : Cx} {pins : List (Addr × Obj)} {σ : List (Option V)} {H H' : Hp} {s : Shared} {h' : Heap}
theorem Cx.Ok.nofr (ok : X.Ok) {b : Addr} {o : Obj} (e : X.base.get? b = some o) : b ∉ X.fs := fun hb => by
  have := (ok.funs.mem hb).1
  rw [e] at this; cases this
theorem Inv.bs (I : Inv X pins σ H s) : ∀ b o, X.base.get? b = some o → s.heap.get? b = some o ∧ H b = none := fun b o e =>
  ⟨I.base.keep b o (I.ok.bs b o e).1 (I.ok.bs b o e).2 (I.ok.nofr e) (I.ok.noex b o e), I.base.free b o (I.ok.bs b o e).1 (I.ok.bs b o e).2 (I.ok.noex b o e)⟩
theorem Inv.bk (I : Inv X pins σ H s) : ∀ b o, X.base.get? b = some o → s.heap.get? b = some o := fun b o e => (I.bs b o e).1
theorem Inv.mod (I : Inv X pins σ H s) : Mod X.K X.mg X.base := I.ok.mod
theorem Inv.kIn (I : Inv X pins σ H s) : X.K.In s.heap := I.ok.mod.kin.keeps I.bk
theorem Inv.nolimit (I : Inv X pins σ H s) : s.heap.NoLimit := I.ok.mod.nolimit.keeps I.bk
/-- the frame over the base: for OpenK's rules (K.In X.base is I.mod.kin) -/
theorem Inv.fr (I : Inv X pins σ H s) : ∃ m, Fr X.base X.env.locals s.heap m :=
  let ⟨m, hn, _⟩ := I.loc
  ⟨m, hn, I.bk, Nat.le_trans I.ok.bsz I.ok.above⟩
theorem Inv.lt (I : Inv X pins σ H s) : X.env.locals < s.heap.objs.size := let ⟨_, hn, _⟩ := I.loc; hn.lt
theorem Inv.sz (I : Inv X pins σ H s) : X.s₀.heap.objs.size ≤ s.heap.objs.size := Nat.le_trans I.ok.above (Nat.le_of_lt I.lt)
theorem Inv.nofs (I : Inv X pins σ H s) {a : Addr} (h : s.heap.objs.size ≤ a) : a ∉ X.fs := fun hb => by
  obtain ⟨_, o, ho, _⟩ := I.ok.funs.mem hb
  exact absurd (Nat.lt_of_lt_of_le (Heap.lt_size ho) (Nat.le_trans I.sz h)) (Nat.lt_irrefl _)
theorem Inv.cne (I : Inv X pins σ H s) : ∀ x c, X.env.cells.lookup x = some c → c ≠ X.env.locals := fun x c e z => by
  obtain ⟨v, o, ho, hd⟩ := I.cell x c e
  obtain ⟨m, ⟨o', es, ep, ho', hd', _⟩, _⟩ := I.loc
  rw [z, ho'] at ho; cases ho; rw [hd'] at hd; cases hd
theorem Inv.funs (I : Inv X pins σ H s) : s.heap.FunFrames X.base X.outer := by
  have all : ∀ (l : List Env), (∀ b ∈ frs l, b ∈ X.fs) → X.s₀.heap.FunFrames X.base l → s.heap.FunFrames X.base l := by
    intro l
    induction l with
    | nil => intro _ _; trivial
    | cons env r ih =>
      intro hs hl
      obtain ⟨hk, ⟨L, o, hf, hn, ho, hd⟩, hr⟩ := hl
      have hL : L ∈ X.fs := hs L (by unfold frs; rw [List.filterMap_cons, hf]; exact List.mem_cons_self)
      obtain ⟨sl, e⟩ := I.base.slot L o ho (I.ok.frf L hL) hL fun z => I.ok.exfs L z hL
      exact ⟨hk, ⟨L, _, hf, hn, e, hd⟩, ih (fun b hb => hs b (by unfold frs; rw [List.filterMap_cons, hf]; exact List.mem_cons_of_mem _ hb)) hr⟩
  exact all X.outer (fun _ hb => hb) I.ok.funs
/-- the frames that run, for a call -/
theorem Inv.stack (I : Inv X pins σ H s) : s.heap.FunFrames X.base X.stack := by
  rcases I.ok.stk with e | ⟨e, hf⟩
  · rw [e]; exact I.funs
  · rw [e]
    obtain ⟨m, hn, _⟩ := I.loc
    refine .cons (by rw [I.ok.kind]; decide) hf hn ?_ I.funs
    exact Heap.get?_none_of_le (Nat.le_trans I.ok.bsz I.ok.above)
theorem Inv.stkSub (I : Inv X pins σ H s) : ∀ b ∈ frs X.stack, b ∈ X.env.locals :: X.fs := fun b hb => by
  rcases I.ok.stk with e | ⟨e, hf⟩
  · rw [e] at hb; exact List.mem_cons_of_mem _ hb
  · rw [e] at hb
    unfold frs at hb
    rw [List.filterMap_cons, hf] at hb
    exact hb
theorem Inv.stkFree (I : Inv X pins σ H s) : ∀ b ∈ frs X.stack, H b = none := fun b hb => by
  rcases List.mem_cons.mp (I.stkSub b hb) with e | hb
  · rw [e]; exact I.free
  · obtain ⟨_, o, ho, _⟩ := I.ok.funs.mem hb
    exact I.base.free b o ho (I.ok.frf b hb) fun z => I.ok.exfs b z hb
/-- THE STEP: the untracked objects but the frame and the records at ch are kept (the callers' frames up to slots), the frame's map is kept, the new abstract heap is held -/
theorem Inv.step {g' : Array GenState} {t' : Nat} {d' : Drawn} {ch : List Addr} (I : Inv X pins σ H s)
    (hch : ∀ b ∈ ch, (b ∈ X.ex ∨ X.s₀.heap.objs.size ≤ b) ∧ b ≠ X.env.locals ∧ (∀ x c, X.env.cells.lookup x = some c → c ≠ b) ∧ ∀ p ∈ X.pn ++ pins, p.1 ≠ b)
    (keep : ∀ b o, b ≠ X.env.locals → b ∉ X.fs → b ∉ ch → s.heap.get? b = some o → H b = none → h'.get? b = some o)
    (slot : ∀ b o, b ≠ X.env.locals → b ∈ X.fs → b ∉ ch → s.heap.get? b = some o → H b = none → ∃ sl, h'.get? b = some { o with slots := sl }) (free : ∀ b o, b ∉ ch → s.heap.get? b = some o → H b = none → H' b = none)
    (there : ∀ b o, b ∉ ch → s.heap.get? b = some o → ∃ o', h'.get? b = some o')
    (tups : ∀ b xs, H b = some (.tup xs) → H' b = some (.tup xs)) (frzs : ∀ b o u, H b = some (.frz o u) → H' b = some (.frz o u)) (tbls : ∀ b ps, H b = some (.tbl ps) → ∃ more, H' b = some (.tbl (ps ++ more)))
    (ns : ∀ m, s.heap.Ns X.env.locals m → h'.Ns X.env.locals m) (hok : HOk X.prog X.w H' h') (hg : AllBare g') :
    Inv X pins σ H' { s with heap := h', gens := g', drawn := d', toks := t' } := by
  have neL : ∀ b o, X.s₀.heap.get? b = some o → b ≠ X.env.locals := fun b o e => Nat.ne_of_lt (Nat.lt_of_lt_of_le (Heap.lt_size e) I.ok.above)
  have neC : ∀ b o, X.s₀.heap.get? b = some o → b ∉ X.ex → b ∉ ch := fun b o e hx hb => by
    rcases (hch b hb).1 with z | z
    · exact hx z
    · exact absurd (Nat.lt_of_lt_of_le (Heap.lt_size e) z) (Nat.lt_irrefl _)
  have cellK : ∀ x c, X.env.cells.lookup x = some c → ∀ v, s.heap.IsCell c v → h'.IsCell c v := fun x c e v ⟨o, ho, hd⟩ => by
    have nch : c ∉ ch := fun z => (hch c z).2.2.1 x c e rfl
    by_cases hc : c ∈ X.fs
    · obtain ⟨sl, q⟩ := slot c o (I.cne x c e) hc nch ho (I.freeC x c e)
      exact ⟨_, q, hd⟩
    · exact ⟨o, keep c o (I.cne x c e) hc nch ho (I.freeC x c e), hd⟩
  refine ⟨I.ok, I.os, hg, ⟨fun b o e n hb hx => ?_, fun b o e n hb hx => ?_, fun b o e n hx => ?_, fun b o e hx => ?_, fun b xs e => tups b xs (I.base.tups b xs e), fun b o xs e => frzs b o xs (I.base.frzs b o xs e), fun b ps e => ?_⟩, ?_, fun x c e => ?_, ?_, fun x c e => ?_, fun p hp => ?_, hok, I.len⟩
  · exact keep b o (neL b o e) hb (neC b o e hx) (I.base.keep b o e n hb hx) (I.base.free b o e n hx)
  · obtain ⟨sl, e1⟩ := I.base.slot b o e n hb hx
    obtain ⟨sl', e2⟩ := slot b _ (neL b o e) hb (neC b o e hx) e1 (I.base.free b o e n hx)
    exact ⟨sl', e2⟩
  · obtain ⟨o', e1⟩ := I.base.there b o e hx
    exact free b o' (neC b o e hx) e1 (I.base.free b o e n hx)
  · obtain ⟨o', e1⟩ := I.base.there b o e hx
    exact there b o' (neC b o e hx) e1
  · obtain ⟨m1, e1⟩ := I.base.tbls b ps e
    obtain ⟨m2, e2⟩ := tbls b _ e1
    exact ⟨m1 ++ m2, by rw [e2, Array.append_assoc]⟩
  · obtain ⟨m, hn, hl⟩ := I.loc
    refine ⟨m, ns m hn, fun i x v e1 e2 e3 => ?_⟩
    obtain ⟨u, r, l⟩ := hl i x v e1 e2 e3
    refine ⟨u, r, ?_⟩
    rcases l with l | ⟨k, c, e, z⟩
    · exact .inl l
    · exact .inr ⟨k, c, e, cellK x c e _ z⟩
  · obtain ⟨v, z⟩ := I.cell x c e
    exact ⟨v, cellK x c e v z⟩
  · obtain ⟨m, ⟨o, _, _, ho, _⟩, _⟩ := I.loc
    exact free _ o (fun z => (hch _ z).2.1 rfl) ho I.free
  · obtain ⟨v, o, ho, hd⟩ := I.cell x c e
    exact free c o (fun z => (hch c z).2.2.1 x c e rfl) ho (I.freeC x c e)
  · obtain ⟨e, n, ne, nf, d⟩ := I.pin p hp
    have nch : p.1 ∉ ch := fun z => (hch p.1 z).2.2.2 p hp rfl
    exact ⟨keep p.1 p.2 ne nf nch e n, free p.1 p.2 nch e n, ne, nf, d⟩
/-- .. where the frame's own object is kept too -/
theorem Inv.un {t' : Nat} (I : Inv X pins σ H s) (u : Un X.fs [] H H' s.heap h') (hok : HOk X.prog X.w H' h') : Inv X pins σ H' { s with heap := h', toks := t' } := by
  obtain ⟨m, ⟨o, es, ep, ho, r⟩, _⟩ := id I.loc
  obtain ⟨sl, hL⟩ := u.any ho I.free (by simp)
  exact I.step (g' := s.gens) (d' := s.drawn) (ch := []) (fun _ z => nomatch z) (fun b o _ hb _ e n => u.keep b o e n hb (by simp)) (fun b o _ hb _ e n => u.slot b o e n hb (by simp)) (fun b o _ e n => u.free b o e n (by simp)) (fun b o _ e => u.there b o e (by simp)) u.tups u.frzs u.tbls (fun m' hm => by
    obtain ⟨o', es', ep', ho', r'⟩ := hm
    rw [ho] at ho'; cases ho'
    exact ⟨_, es', ep', hL, r'⟩) hok I.bare
/-- behind a call (or a comprehension's block): the slots of this frame may have changed too, the records at ch may have turned -/
theorem Inv.call {g' : Array GenState} {t' : Nat} {d' : Drawn} {ch : List Addr} (I : Inv X pins σ H s) (u : Un (frs X.stack) ch H H' s.heap h') (hok : HOk X.prog X.w H' h') (hg : AllBare g')
    (hch : ∀ b ∈ ch, (b ∈ X.ex ∨ X.s₀.heap.objs.size ≤ b) ∧ b ≠ X.env.locals ∧ (∀ x c, X.env.cells.lookup x = some c → c ≠ b) ∧ ∀ p ∈ X.pn ++ pins, p.1 ≠ b) :
    Inv X pins σ H' { s with heap := h', gens := g', drawn := d', toks := t' } := by
  obtain ⟨m, ⟨o, es, ep, ho, r⟩, _⟩ := id I.loc
  obtain ⟨sl, hL⟩ := u.any ho I.free fun z => (hch _ z).2.1 rfl
  exact I.step (ch := ch) hch (fun b o hL hb hc e n => u.keep b o e n (fun z => (List.mem_cons.mp (I.stkSub b z)).elim hL hb) hc) (fun b o _ _ hc e n => u.any e n hc) (fun b o hc e n => u.free b o e n hc) (fun b o hc e => u.there b o e hc) u.tups u.frzs u.tbls (fun m' hm => by
    obtain ⟨o', es', ep', ho', r'⟩ := hm
    rw [ho] at ho'; cases ho'
    exact ⟨_, es', ep', hL, r'⟩) hok hg
/-- an untracked record of ours (an iterator) has turned -/
theorem Inv.turned {t' : Nat} {it : Addr} (I : Inv X pins σ H s) (k : ∀ b o, b ≠ it → s.heap.get? b = some o → h'.get? b = some o) (hn : H it = none) (hL : it ≠ X.env.locals)
    (h1 : it ∈ X.ex ∨ X.s₀.heap.objs.size ≤ it) (h2 : ∀ x c, X.env.cells.lookup x = some c → c ≠ it) (h3 : ∀ p ∈ X.pn ++ pins, p.1 ≠ it) : Inv X pins σ H { s with heap := h', toks := t' } := by
  have nit : ∀ b u, H b = some u → b ≠ it := fun b u e z => by rw [z, hn] at e; cases e
  refine I.step (g' := s.gens) (d' := s.drawn) (ch := [it]) (fun b hb => ?_) (fun b o _ _ hc e _ => k b o (fun z => hc (by simp [z])) e) (fun b o _ _ hc e _ => ⟨o.slots, k b o (fun z => hc (by simp [z])) e⟩) (fun _ _ _ _ n => n)
    (fun b o hc e => ⟨o, k b o (fun z => hc (by simp [z])) e⟩) (fun _ _ e => e) (fun _ _ _ e => e) (fun b ps e => ⟨#[], by rw [e]; simp⟩) (fun m hm => ?_) (fun b u e => ?_) I.bare
  · have e : b = it := by simpa using hb
    subst e
    exact ⟨h1, hL, h2, h3⟩
  · obtain ⟨o, es, ep, ho, r⟩ := hm
    exact ⟨o, es, ep, k _ o (Ne.symm hL) ho, r⟩
  · refine (I.hok b u e).stay (fun c v hc q => k c v ?_ q) (fun _ q => q) fun _ _ q => q
    rcases hc with z | z
    · rw [z]; exact nit b u e
    · exact nit c _ z
theorem Inv.tok (I : Inv X pins σ H s) (t : Nat) : Inv X pins σ H { s with toks := t } := I.un (h' := s.heap) (t' := t) Un.refl I.hok
/-- all objects kept -/
theorem Inv.kept {t' : Nat} (I : Inv X pins σ H s) (k : ∀ b u, s.heap.get? b = some u → h'.get? b = some u) : Inv X pins σ H { s with heap := h', toks := t' } := I.un (Un.kept k) (I.hok.kept k)
/-- a new object laid and tracked -/
theorem Inv.laid {a : Addr} {o : HO} {t' : Nat} (I : Inv X pins σ H s) (k : ∀ b u, s.heap.get? b = some u → h'.get? b = some u) (hp : s.heap.objs.size ≤ a) (new : ObjOk X.prog X.w (upd H a o) h' a o) :
    Inv X pins σ (upd H a o) { s with heap := h', toks := t' } := I.un (Un.laid k hp (I.hok.fresh hp)) (I.hok.laid k hp new)
/-- an object written -/
theorem Inv.write {x e : Addr} {o : HO} {t' : Nat} (I : Inv X pins σ H s) (mu : Mut (H x)) (he : e = x ∨ H e = some (.own x)) (k : ∀ b u, b ≠ e → s.heap.get? b = some u → h'.get? b = some u) (heo : ∃ u, h'.get? e = some u)
    (new : ObjOk X.prog X.w (upd H x o) h' x o) : Inv X pins σ (upd H x o) { s with heap := h', toks := t' } := I.un (Un.write mu he k heo) (I.hok.write mu he k heo new)
/-- forgetting slots, pins -/
theorem Inv.weak {σ' : List (Option V)} (I : Inv X pins σ H s) (hl : σ'.length = σ.length) (w : ∀ (i : Nat) v, σ'[i]? = some (some v) → σ[i]? = some (some v)) : Inv X pins σ' H s :=
  ⟨I.ok, I.os, I.bare, I.base, let ⟨m, hn, hl'⟩ := I.loc; ⟨m, hn, fun i x v e1 e2 e3 => hl' i x v e1 (w i v e2) e3⟩, I.cell, I.free, I.freeC, I.pin, I.hok, hl.trans I.len⟩
theorem Inv.pins_of {pins' : List (Addr × Obj)} (I : Inv X pins σ H s) (h : ∀ p ∈ pins', s.heap.get? p.1 = some p.2 ∧ H p.1 = none ∧ p.1 ≠ X.env.locals ∧ p.1 ∉ X.fs ∧ ∀ v, p.2.data ≠ .cell v) : Inv X pins' σ H s :=
  ⟨I.ok, I.os, I.bare, I.base, I.loc, I.cell, I.free, I.freeC, fun p hp => (List.mem_append.mp hp).elim (fun z => I.pin p (List.mem_append_left _ z)) (h p), I.hok, I.len⟩
theorem nodup_ix {N : List Str} (hN : N.Nodup) {i j : Nat} {x : Str} (a : N[i]? = some x) (b : N[j]? = some x) : i = j := by
  obtain ⟨h1, e1⟩ := List.getElem?_eq_some_iff.mp a
  obtain ⟨h2, e2⟩ := List.getElem?_eq_some_iff.mp b
  exact (List.getElem_inj hN).mp (e1.trans e2.symm)
/-- a name is stored; what changed -/
theorem store_ok2 {M : Model} {A : Around} {E : Value → Shared → Prop} {i : Nat} {x : Str} {v : V} {u : Value} {Q : Unit → Shared → Prop} (I : Inv X pins σ H s) (hN : X.N.Nodup) (hi : X.N[i]? = some x) (hx : Loc X.env.scope x) (r : RelV v u)
    (h : ∀ s', Inv X pins (σ.set i (some v)) H s' → (∃ a, Heap.SameBut a s.heap s'.heap ∧ (a = X.env.locals ∨ X.env.cells.lookup x = some a)) → Q () s') (hf : X.fn x = true ∨ X.env.scope.names.lookup x = some .local := by first | exact .inl rfl | exact .inr rfl | assumption) : wpAny M A (storeName X.env x u) Q E s := by
  obtain ⟨m, hn, hl⟩ := id I.loc
  have hcls : (X.env.scope.kind == .class || (X.env.scope.kind == .module && X.env.locals != X.env.globals)) = false := by rw [I.ok.kind]; rfl
  have hiσ : i < σ.length := by rw [I.len]; exact (List.getElem?_eq_some_iff.mp hi).1
  have cne := I.cne
  have tracked : ∀ {a : Addr} {h' : Heap}, (∃ o, s.heap.get? a = some o ∧ H a = none) → Heap.SameBut a s.heap h' → HOk X.prog X.w H h' := fun {a h'} ha hs b ob e => by
    obtain ⟨_, _, hfree⟩ := ha
    refine (I.hok b ob e).stay (fun c w' hc q => (hs.2 c ?_).trans q) (fun _ q => q) fun _ _ q => q
    rintro rfl
    rcases hc with rfl | hc
    · rw [hfree] at e; cases e
    · rw [hfree] at hc; cases hc
  rcases hx with hk | hk
  · refine wpAny_storeName_local hk hn (fun h' hn' hs => ?_) hcls
    obtain ⟨oL, _, _, hoL, _⟩ := id hn
    refine h _ ⟨I.ok, I.os, I.bare, ⟨fun b o e n hb hx => ?_, fun b o e n hb hx => ?_, I.base.free, fun b o e hx => ?_, I.base.tups, I.base.frzs, I.base.tbls⟩, ⟨_, hn', fun j y v' e1 e2 e3 => ?_⟩, fun y c e => ?_, I.free, I.freeC, fun p hp => ?_, tracked ⟨oL, hoL, I.free⟩ hs, by simpa using I.len⟩ ⟨_, hs, .inl rfl⟩
    · exact (hs.2 b (Nat.ne_of_lt (Nat.lt_of_lt_of_le (Heap.lt_size e) I.ok.above))).trans (I.base.keep b o e n hb hx)
    · obtain ⟨sl, e1⟩ := I.base.slot b o e n hb hx
      exact ⟨sl, (hs.2 b (Nat.ne_of_lt (Nat.lt_of_lt_of_le (Heap.lt_size e) I.ok.above))).trans e1⟩
    · obtain ⟨o', e1⟩ := I.base.there b o e hx
      exact ⟨o', (hs.2 b (Nat.ne_of_lt (Nat.lt_of_lt_of_le (Heap.lt_size e) I.ok.above))).trans e1⟩
    · by_cases hj : j = i
      · subst hj
        rw [hi] at e1; cases e1
        rw [List.getElem?_set_self hiσ] at e2
        cases e2
        exact ⟨u, r, .inl ⟨hk, by simp⟩⟩
      · rw [List.getElem?_set_ne (Ne.symm hj)] at e2
        obtain ⟨u', r', q⟩ := hl j y v' e1 e2 e3
        refine ⟨u', r', ?_⟩
        rcases q with ⟨k, e⟩ | ⟨k, c, e, z⟩
        · refine .inl ⟨k, ?_⟩
          have : y ≠ x := fun e => hj (nodup_ix hN e1 (e ▸ hi))
          simp [this, e]
        · exact .inr ⟨k, c, e, z.sameBut hs (cne y c e)⟩
    · obtain ⟨w', z⟩ := I.cell y c e
      exact ⟨w', z.sameBut hs (cne y c e)⟩
    · obtain ⟨e, n, ne, nf, d⟩ := I.pin p hp
      exact ⟨(hs.2 p.1 ne).trans e, n, ne, nf, d⟩
  · have hfn : X.fn x = true := by
      rcases hf with z | z
      · exact z
      · rw [z] at hk; cases hk
    obtain ⟨c, hc⟩ := I.ok.has x (.inl hk)
    obtain ⟨w', z⟩ := I.cell x c hc
    refine wpAny_storeName_cell I.ok.kind hk hc z (fun h' hc' hs => ?_)
    obtain ⟨oc, hoc, hocd⟩ := id z
    refine h { s with heap := h' } ⟨I.ok, I.os, I.bare, ⟨fun b o e n hb hx => ?_, fun b o e n hb hx => ?_, I.base.free, fun b o e hx => ?_, I.base.tups, I.base.frzs, I.base.tbls⟩, ⟨m, hn.sameBut hs (Ne.symm (cne x c hc)), fun j y v' e1 e2 e3 => ?_⟩, fun y c' e => ?_, I.free, I.freeC, fun p hp => ?_, tracked ⟨oc, hoc, I.freeC x c hc⟩ hs, by simpa using I.len⟩ ⟨c, hs, .inr hc⟩
    · exact (hs.2 b (Nat.ne_of_lt (Nat.lt_of_lt_of_le (Heap.lt_size e) (I.ok.cab x c hfn hc)))).trans (I.base.keep b o e n hb hx)
    · obtain ⟨sl, e1⟩ := I.base.slot b o e n hb hx
      exact ⟨sl, (hs.2 b (Nat.ne_of_lt (Nat.lt_of_lt_of_le (Heap.lt_size e) (I.ok.cab x c hfn hc)))).trans e1⟩
    · obtain ⟨o', e1⟩ := I.base.there b o e hx
      exact ⟨o', (hs.2 b (Nat.ne_of_lt (Nat.lt_of_lt_of_le (Heap.lt_size e) (I.ok.cab x c hfn hc)))).trans e1⟩
    · by_cases hj : j = i
      · subst hj
        rw [hi] at e1; cases e1
        rw [List.getElem?_set_self hiσ] at e2
        cases e2
        exact ⟨u, r, .inr ⟨.inl hk, c, hc, hc'⟩⟩
      · rw [List.getElem?_set_ne (Ne.symm hj)] at e2
        obtain ⟨u', r', q⟩ := hl j y v' e1 e2 e3
        refine ⟨u', r', ?_⟩
        rcases q with q | ⟨k, c', e, z'⟩
        · exact .inl q
        · refine .inr ⟨k, c', e, z'.sameBut hs ?_⟩
          rintro rfl
          exact hj (nodup_ix hN e1 (I.ok.inj _ _ _ e hc ▸ hi))
    · by_cases hcc : c' = c
      · subst hcc; exact ⟨_, hc'⟩
      · obtain ⟨w2, z2⟩ := I.cell y c' e
        exact ⟨w2, z2.sameBut hs hcc⟩
    · obtain ⟨e, n, ne, nf, d⟩ := I.pin p hp
      refine ⟨(hs.2 p.1 ?_).trans e, n, ne, nf, d⟩
      intro q
      rw [q, hoc] at e
      have q' : oc = p.2 := Option.some.inj e
      exact d w' (by rw [← q']; exact hocd)
theorem store_ok {M : Model} {A : Around} {E : Value → Shared → Prop} {i : Nat} {x : Str} {v : V} {u : Value} {Q : Unit → Shared → Prop} (I : Inv X pins σ H s) (hN : X.N.Nodup) (hi : X.N[i]? = some x) (hx : Loc X.env.scope x) (r : RelV v u)
    (h : ∀ s', Inv X pins (σ.set i (some v)) H s' → Q () s') (hf : X.fn x = true ∨ X.env.scope.names.lookup x = some .local := by first | exact .inl rfl | exact .inr rfl | assumption) : wpAny M A (storeName X.env x u) Q E s :=
  store_ok2 I hN hi hx r (fun s' I' _ => h s' I') hf
/-- behind a call or a block, the state as it is -/
theorem Inv.call' {s' : Shared} {ch : List Addr} (I : Inv X pins σ H s) (ho : s'.os = s.os) (u : Un (frs X.stack) ch H H' s.heap s'.heap) (hok : HOk X.prog X.w H' s'.heap) (hg : AllBare s'.gens)
    (hch : ∀ b ∈ ch, (b ∈ X.ex ∨ X.s₀.heap.objs.size ≤ b) ∧ b ≠ X.env.locals ∧ (∀ x c, X.env.cells.lookup x = some c → c ≠ b) ∧ ∀ p ∈ X.pn ++ pins, p.1 ≠ b) : Inv X pins σ H' s' := by
  obtain ⟨h', g', d', t', o'⟩ := s'
  have e : o' = s.os := ho
  subst e
  exact I.call (g' := g') (t' := t') (d' := d') u hok hg hch
end
/-! ### the judgements -/
/-- an exception: its class, its own dict's address (where it has one), the abstract heap behind it -/
abbrev XK := Value → Option Addr → Hp → Prop
abbrev St := List (Option V)
abbrev VK := V → Hp → Prop
/-- an expression's reading; a test's; an argument list's -/
abbrev TE := St → Hp → VK → Prop
abbrev TT := St → Hp → (Bool → Hp → Prop) → Prop
abbrev TA := St → Hp → (List V → Hp → Prop) → Prop
/-- what is wanted behind a statement -/
structure Ends where
  nx : St → Hp → Prop
  rt : VK
  bk : St → Hp → Prop := fun _ _ => False
  ct : St → Hp → Prop := fun _ _ => False
abbrev TS := Ends → St → Hp → Prop
def EP (X : Cx) (pins : List (Addr × Obj)) (σ : St) (Q : VK) (u : Value) (s' : Shared) : Prop := ∃ v H', Inv X pins σ H' s' ∧ RelV v u ∧ Q v H'
def TP (X : Cx) (pins : List (Addr × Obj)) (σ : St) (Q : Bool → Hp → Prop) (b : Bool) (s' : Shared) : Prop := ∃ H', Inv X pins σ H' s' ∧ Q b H'
def AP (X : Cx) (pins : List (Addr × Obj)) (σ : St) (Q : List V → Hp → Prop) (us : List Value) (s' : Shared) : Prop := ∃ vs H', Inv X pins σ H' s' ∧ Vals vs us ∧ Q vs H'
def SP (X : Cx) (pins : List (Addr × Obj)) (D : Ends) (f : Flow) (s' : Shared) : Prop :=
  match f with
  | .next => ∃ σ' H', Inv X pins σ' H' s' ∧ D.nx σ' H'
  | .brk => ∃ σ' H', Inv X pins σ' H' s' ∧ D.bk σ' H'
  | .cont => ∃ σ' H', Inv X pins σ' H' s' ∧ D.ct σ' H'
  | .ret u => ∃ v σ' H', Inv X pins σ' H' s' ∧ RelV v u ∧ D.rt v H'
def PE (X : Cx) (e : Expr) (t : TE) : Prop :=
  ∀ (pins : List (Addr × Obj)) (s : Shared) (σ : St) (H : Hp) (Q : VK), Inv X pins σ H s → t σ H Q → wpAny (model X.prog X.w) X.A (eval e X.env) (EP X pins σ Q) X.xe s
def PT (X : Cx) (e : Expr) (t : TT) : Prop :=
  ∀ (pins : List (Addr × Obj)) (s : Shared) (σ : St) (H : Hp) (Q : Bool → Hp → Prop), Inv X pins σ H s → t σ H Q → wpAny (model X.prog X.w) X.A (isTrue e X.env (eval e X.env)) (TP X pins σ Q) X.xe s
/-- a test whatever its 'whole' is (and, or) -/
def PW (X : Cx) (e : Expr) (t : TT) : Prop :=
  ∀ (whole : Sem Value) (pins : List (Addr × Obj)) (s : Shared) (σ : St) (H : Hp) (Q : Bool → Hp → Prop), Inv X pins σ H s → t σ H Q → wpAny (model X.prog X.w) X.A (isTrue e X.env whole) (TP X pins σ Q) X.xe s
theorem PW.pt {X : Cx} {e : Expr} {t : TT} (h : PW X e t) : PT X e t := h _
/-- an argument list (no star), from the left -/
def PA (X : Cx) (es : List Expr) (t : TA) : Prop :=
  ∀ (pos : Pos) (pins : List (Addr × Obj)) (s : Shared) (σ : St) (H : Hp) (Q : List V → Hp → Prop), Inv X pins σ H s → t σ H Q → wpAny (model X.prog X.w) X.A (spliced (backTo pos (starEach es X.env))) (AP X pins σ Q) X.xe s
def PS (X : Cx) (st : Stmt) (t : TS) : Prop :=
  ∀ (pins : List (Addr × Obj)) (s : Shared) (σ : St) (H : Hp) (D : Ends), Inv X pins σ H s → t D σ H → wpAny (model X.prog X.w) X.A (exec st X.env) (SP X pins D) X.xe s
def PSs (X : Cx) (st : List Stmt) (t : TS) : Prop :=
  ∀ (pins : List (Addr × Obj)) (s : Shared) (σ : St) (H : Hp) (D : Ends), Inv X pins σ H s → t D σ H → wpAny (model X.prog X.w) X.A (execs st X.env) (SP X pins D) X.xe s
/-- weaken the end -/
theorem thn {α : Type} {t : Sem α} {Q Q' : α → Shared → Prop} {M : Model} {A : Around} {E : Value → Shared → Prop} {s : Shared} (h : wpAny M A t Q E s) (hQ : ∀ a s, Q a s → Q' a s) : wpAny M A t Q' E s := wpAny_mono h hQ fun _ _ x => x
end L2
namespace L2
open PySem PySem.Spec PyProof.Rows
section
variable {X : Cx}
/-! ### names and constants -/
def tVar (i : Nat) : TE := fun σ H Q => ∃ v, σ[i]? = some (some v) ∧ Q v H
def tC (v : V) : TE := fun _ H Q => Q v H
theorem pe_var {i : Nat} {x : Str} {pos : Pos} (hN : X.N[i]? = some x) (hv : Vis X.env.scope x) (hd : (x == ("__debug__" : Str)) = false := by decide) (hcd : (x == ("__classdict__" : Str)) = false := by decide) : PE X (.Name x pos) (tVar i) := by
  intro pins s σ H Q I h
  obtain ⟨v, e, h⟩ := h
  obtain ⟨m, hn, hl⟩ := I.loc
  obtain ⟨u, r, l⟩ := hl i x v hN e hv
  have fin : EP X pins σ Q u s := ⟨v, H, I, r, h⟩
  rcases l with ⟨hk, hm⟩ | ⟨hk, c, hc, hcell⟩
  · exact wpAny_Name (wpAny_loadName_local I.ok.kind hk hn hm fin) hd
  · rcases hk with hk | hk
    · exact wpAny_Name (wpAny_loadName_cell I.ok.kind hk hc hcell fin) hd
    · exact wpAny_Name (wpAny_loadName_free I.ok.kind hk hc hcell fin hcd) hd
theorem pe_int {i j pos} : PE X (.Constant (.int i) j pos) (tC (.int i)) := fun _ _ _ H _ I h => wpAny_Constant_int ⟨.int i, H, I.tok _, ⟨_, rfl⟩, h⟩
theorem pe_bl {b j pos} : PE X (.Constant (.bool b) j pos) (tC (.bl b)) := fun _ _ _ H _ I h => Constant_bool ⟨.bl b, H, I, rfl, h⟩
theorem pe_str {x j pos} : PE X (.Constant (.str x) j pos) (tC (.str x)) := fun _ _ _ H _ I h => Calls.Constant_str ⟨.str x, H, I.tok _, ⟨_, rfl⟩, h⟩
/-- a global name of the def -/
def Gl (X : Cx) (x : Str) : Prop := X.env.kindOf x = some .globalImplicit
theorem ld_glob {E : Value → Shared → Prop} {pins : List (Addr × Obj)} {s : Shared} {σ : St} {H : Hp} {x : Str} {u : Value} {pos : Pos} {Q : Value → Shared → Prop} (I : Inv X pins σ H s) (hg : Gl X x) (hm : X.mg x = some u) (h : Q u s)
    (hd : (x == ("__debug__" : Str)) = false := by decide) : wpAny (model X.prog X.w) X.A (eval (.Name x pos) X.env) Q E s :=
  Calls.Name_function_global I.ok.kind hg (Calls.loadGlobal_global (by rw [I.ok.glob]; exact I.mod.glob.keeps I.bk) hm h) hd
theorem ld_blt {E : Value → Shared → Prop} {pins : List (Addr × Obj)} {s : Shared} {σ : St} {H : Hp} {x : Str} {u : Value} {pos : Pos} {Q : Value → Shared → Prop} (I : Inv X pins σ H s) (hg : Gl X x) (hm : X.mg x = none) (hv : bootBuiltins x = some u) (h : Q u s)
    (hn : x ≠ "__name__" := by decide) (hd : (x == ("__debug__" : Str)) = false := by decide) : wpAny (model X.prog X.w) X.A (eval (.Name x pos) X.env) Q E s := by
  obtain ⟨mb, h1, h2⟩ := I.mod.blt
  exact Calls.Name_function_global I.ok.kind hg (Calls.loadGlobal_builtin (by rw [I.ok.glob]; exact I.mod.glob.keeps I.bk) hm (by rw [I.ok.blt]; exact h1.keeps I.bk) ((h2 x hn).trans hv) h) hd
/-- a module's constant, a class, a function, as a value -/
theorem pe_glob {x : Str} {v : V} {u : Value} {pos : Pos} (hg : Gl X x) (hm : X.mg x = some u) (r : RelV v u) (hd : (x == ("__debug__" : Str)) = false := by decide) : PE X (.Name x pos) (tC v) :=
  fun _ _ _ H _ I h => ld_glob I hg hm ⟨v, H, I, r, h⟩ hd
theorem pe_bltn {x : Str} {v : V} {u : Value} {pos : Pos} (hg : Gl X x) (hm : X.mg x = none) (hv : bootBuiltins x = some u) (r : RelV v u) (hn : x ≠ "__name__" := by decide) (hd : (x == ("__debug__" : Str)) = false := by decide) : PE X (.Name x pos) (tC v) :=
  fun _ _ _ H _ I h => ld_blt I hg hm hv ⟨v, H, I, r, h⟩ hn hd
/-! ### arithmetic -/
variable {a b : Expr} {ta tb : TE} {pos : Pos}
/-! ### comparisons -/
/-- a comparison as a value, as a test -/
def tB (t : TE) : TT := fun σ H Q => t σ H fun x H1 => ∃ c, x = .bl c ∧ Q c H1
/-! ### and, or, not -/
variable {tA tB' : TT} {rest : List Expr}
def tAnd (t u : TT) : TT := fun σ H Q => t σ H fun c H1 => if c = true then u σ H1 Q else Q false H1
def tOr (t u : TT) : TT := fun σ H Q => t σ H fun c H1 => if c = true then Q true H1 else u σ H1 Q
def tNot (t : TT) : TT := fun σ H Q => t σ H fun c H1 => Q (!c) H1
theorem pw_and1 (ha : PT X a tA) : PW X (.BoolOp .And [a] pos) tA := by
  intro wh pins s σ H Q I h
  refine isTrue_and (thn (ha pins s σ H Q I h) fun c s1 e => ?_)
  cases c with
  | true => exact isTrue_and_nil e
  | false => exact e
theorem pw_or1 (ha : PT X a tA) : PW X (.BoolOp .Or [a] pos) tA := by
  intro wh pins s σ H Q I h
  refine isTrue_or (thn (ha pins s σ H Q I h) fun c s1 e => ?_)
  cases c with
  | false => exact isTrue_or_nil e
  | true => exact e
theorem pw_and (ha : PT X a tA) (hb : PW X (.BoolOp .And (b :: rest) pos) tB') : PW X (.BoolOp .And (a :: b :: rest) pos) (tAnd tA tB') := by
  intro wh pins s σ H Q I h
  refine isTrue_and (thn (ha pins s σ H _ I h) fun c s1 ⟨H1, I1, q1⟩ => ?_)
  cases c with
  | true => exact hb wh pins s1 σ H1 Q I1 q1
  | false => exact ⟨H1, I1, q1⟩
theorem pw_or (ha : PT X a tA) (hb : PW X (.BoolOp .Or (b :: rest) pos) tB') : PW X (.BoolOp .Or (a :: b :: rest) pos) (tOr tA tB') := by
  intro wh pins s σ H Q I h
  refine isTrue_or (thn (ha pins s σ H _ I h) fun c s1 ⟨H1, I1, q1⟩ => ?_)
  cases c with
  | true => exact ⟨H1, I1, q1⟩
  | false => exact hb wh pins s1 σ H1 Q I1 q1
theorem pt_not (ha : PT X a tA) : PT X (.UnaryOp .Not a pos) (tNot tA) := by
  intro pins s σ H Q I h
  exact isTrue_not (ha pins s σ H (fun c H1 => Q (!c) H1) I h)
/-- .. as values (bools) -/
def tAndV (ta tb : TE) : TE := fun σ H Q => ta σ H fun x H1 => ∃ c, x = .bl c ∧ if c = true then tb σ H1 Q else Q (.bl false) H1
def tOrV (ta tb : TE) : TE := fun σ H Q => ta σ H fun x H1 => ∃ c, x = .bl c ∧ if c = true then Q (.bl true) H1 else tb σ H1 Q
def tNotV (ta : TE) : TE := fun σ H Q => ta σ H fun x H1 => ∃ c, x = .bl c ∧ Q (.bl (!c)) H1
theorem pe_one {op} {t : TE} (h : PE X a t) : PE X (.BoolOp op [a] pos) t := fun pins s σ H Q I hw => BoolOp_one (h pins s σ H Q I hw)
theorem pe_and (ha : PE X a ta) (hb : PE X (.BoolOp .And (b :: rest) pos) tb) : PE X (.BoolOp .And (a :: b :: rest) pos) (tAndV ta tb) := by
  intro pins s σ H Q I h
  refine BoolOp_and (thn (ha pins s σ H _ I h) fun v s1 ⟨x, H1, I1, r1, q1⟩ => ?_)
  obtain ⟨c, rfl, q1⟩ := q1
  cases r1
  refine wpAny_truthy_bool ?_
  cases c with
  | true => exact hb pins s1 σ H1 Q I1 q1
  | false => exact ⟨.bl false, H1, I1, rfl, q1⟩
theorem pe_or (ha : PE X a ta) (hb : PE X (.BoolOp .Or (b :: rest) pos) tb) : PE X (.BoolOp .Or (a :: b :: rest) pos) (tOrV ta tb) := by
  intro pins s σ H Q I h
  refine BoolOp_or (thn (ha pins s σ H _ I h) fun v s1 ⟨x, H1, I1, r1, q1⟩ => ?_)
  obtain ⟨c, rfl, q1⟩ := q1
  cases r1
  refine wpAny_truthy_bool ?_
  cases c with
  | false => exact hb pins s1 σ H1 Q I1 q1
  | true => exact ⟨.bl true, H1, I1, rfl, q1⟩
theorem pe_not (ha : PE X a ta) : PE X (.UnaryOp .Not a pos) (tNotV ta) := by
  intro pins s σ H Q I h
  refine UnaryOp_ (thn (ha pins s σ H _ I h) fun v s1 ⟨x, H1, I1, r1, q1⟩ => ?_)
  obtain ⟨c, rfl, q1⟩ := q1
  cases r1
  exact not_of (wpAny_truthy_bool ⟨.bl (!c), H1, I1, rfl, q1⟩)
/-- a if t else b -/
def tIf (t : TT) (ta tb : TE) : TE := fun σ H Q => t σ H fun c H1 => if c = true then ta σ H1 Q else tb σ H1 Q
theorem pe_ifExp {c : Expr} (hc : PT X c tA) (ha : PE X a ta) (hb : PE X b tb) : PE X (.IfExp c a b pos) (tIf tA ta tb) := by
  intro pins s σ H Q I h
  refine wpAny_IfExp (thn (hc pins s σ H _ I h) fun d s1 ⟨H1, I1, q1⟩ => ?_)
  cases d with
  | true => exact ha pins s1 σ H1 Q I1 q1
  | false => exact hb pins s1 σ H1 Q I1 q1
end
end L2
namespace L2
open PySem PySem.Spec PyProof.Rows
/-! ### a list, a tuple that is read: tracked, frozen, or an object of the module -/
def SqL (K : PySem.W.Frag) (H : Hp) (a : Addr) (xs : List V) : Prop :=
  Rd H a (.lst xs) ∨
    ∃ (o : Obj) (its : Array Value) (n : Nat), K.lookup a = some o ∧ o.cls = .type "list" ∧ o.dict = none ∧ o.data = .seq its n ∧ its.size ≤ sizeLine ∧ Vals xs its.toList
def SqT (K : PySem.W.Frag) (H : Hp) (a : Addr) (xs : List V) : Prop :=
  Rd H a (.tup xs) ∨
    ∃ (o : Obj) (its : Array Value) (n : Nat), K.lookup a = some o ∧ o.cls = .type "tuple" ∧ o.data = .seq its n ∧ its.size ≤ sizeLine ∧ Vals xs its.toList
def absV : Value → Option V
  | .none => some .non
  | .bool b => some (.bl b)
  | .int i _ => some (.int i)
  | .str x _ => some (.str x)
  | .bytes b _ => some (.byt b)
  | .float b _ => some (.flt b)
  | .ref a => some (.ref a)
  | .type n => some (.ty n)
  | _ => none
theorem RelV.abs {x : V} {u : Value} (r : RelV x u) : absV u = some x := by
  cases x with
  | non => cases r; rfl
  | bl _ => cases r; rfl
  | int _ => obtain ⟨t, rfl⟩ := r; rfl
  | str _ => obtain ⟨t, rfl⟩ := r; rfl
  | byt _ => obtain ⟨t, rfl⟩ := r; rfl
  | flt _ => obtain ⟨t, rfl⟩ := r; rfl
  | ref _ => cases r; rfl
  | ty _ => cases r; rfl
theorem RelV.inj {x y : V} {u : Value} (r : RelV x u) (q : RelV y u) : x = y := Option.some.inj (r.abs.symm.trans q.abs)
theorem Vals.inj : ∀ {xs ys : List V} {us : List Value}, Vals xs us → Vals ys us → xs = ys
  | _, _, _, .nil, .nil => rfl
  | _, _, _, .cons r t, .cons r' t' => by rw [r.inj r', Vals.inj t t']
section
variable {X : Cx} {pins : List (Addr × Obj)} {σ : St} {H : Hp} {s : Shared} {a : Addr} {xs ys : List V}
theorem SqL.of {K : PySem.W.Frag} (h : H a = some (.lst xs)) : SqL K H a xs := .inl (.inl h)
theorem SqT.of {K : PySem.W.Frag} (h : H a = some (.tup xs)) : SqT K H a xs := .inl (.inl h)
theorem Inv.list (I : Inv X pins σ H s) (h : SqL X.K H a xs) : ∃ its : List Value, Vals xs its ∧ PlainL s.heap a its.toArray ∧ xs.length ≤ sizeLine := by
  rcases h with h | ⟨o, its, n, hk, hc, hd, hs, hz, r⟩
  · obtain ⟨z, its, n, r, e⟩ := h.ok I.hok
    exact ⟨its, r, ⟨_, n, e, rfl, rfl, rfl⟩, z⟩
  · refine ⟨its.toList, r, ⟨o, n, I.kIn a o hk, hc, hd, by simpa using hs⟩, ?_⟩
    have e := r.length
    simp only [Array.length_toList] at e
    omega
theorem Inv.tuple (I : Inv X pins σ H s) (h : SqT X.K H a xs) : ∃ its : List Value, Vals xs its ∧ IsTup s.heap a its.toArray ∧ xs.length ≤ sizeLine := by
  rcases h with h | ⟨o, its, n, hk, hc, hs, hz, r⟩
  · obtain ⟨z, its, r, p⟩ := h.ok I.hok
    exact ⟨its, r, p, z⟩
  · refine ⟨its.toList, r, ⟨o, I.kIn a o hk, hc, n, by simpa using hs⟩, ?_⟩
    have e := r.length
    simp only [Array.length_toList] at e
    omega
theorem Inv.list_inj (I : Inv X pins σ H s) (h : SqL X.K H a xs) (h' : SqL X.K H a ys) : xs = ys := by
  obtain ⟨its, r, ⟨o, n, e, _, _, d⟩, _⟩ := I.list h
  obtain ⟨its', r', ⟨o', n', e', _, _, d'⟩, _⟩ := I.list h'
  rw [e] at e'; cases e'
  rw [d] at d'
  injection d' with d1 _
  have : its = its' := by simpa using congrArg Array.toList d1
  subst this
  exact r.inj r'
theorem Inv.tuple_inj (I : Inv X pins σ H s) (h : SqT X.K H a xs) (h' : SqT X.K H a ys) : xs = ys := by
  obtain ⟨its, r, ⟨o, e, _, n, d⟩, _⟩ := I.tuple h
  obtain ⟨its', r', ⟨o', e', _, n', d'⟩, _⟩ := I.tuple h'
  rw [e] at e'; cases e'
  rw [d] at d'
  injection d' with d1 _
  have : its = its' := by simpa using congrArg Array.toList d1
  subst this
  exact r.inj r'
end
/-! ### another wish about exceptions -/
abbrev Cx.wish (X : Cx) (E : Value → Shared → Prop) : Cx := { X with xe := E }
/-- no exception leaves -/
abbrev Cx.nox (X : Cx) : Cx := X.wish fun _ _ => False
theorem Cx.Ok.wish {X : Cx} (ok : X.Ok) (E : Value → Shared → Prop) : (X.wish E).Ok :=
  ⟨ok.mod, ok.kind, ok.glob, ok.blt, ok.above, ok.inj, ok.has, ok.cab, ok.hd, ok.frames, ok.stk, ok.exf, ok.bs, ok.bsz, ok.noex, ok.exfs, ok.funs, ok.frf⟩
theorem Cx.Ok.unwish {X : Cx} {E : Value → Shared → Prop} (ok : (X.wish E).Ok) : X.Ok :=
  ⟨ok.mod, ok.kind, ok.glob, ok.blt, ok.above, ok.inj, ok.has, ok.cab, ok.hd, ok.frames, ok.stk, ok.exf, ok.bs, ok.bsz, ok.noex, ok.exfs, ok.funs, ok.frf⟩
section
variable {X : Cx} {pins : List (Addr × Obj)} {σ : St} {H : Hp} {s : Shared} {E : Value → Shared → Prop}
theorem Inv.wish (I : Inv X pins σ H s) (E : Value → Shared → Prop) : Inv (X.wish E) pins σ H s := ⟨I.ok.wish E, I.os, I.bare, I.base, I.loc, I.cell, I.free, I.freeC, I.pin, I.hok, I.len⟩
theorem Inv.unwish (I : Inv (X.wish E) pins σ H s) : Inv X pins σ H s := ⟨I.ok.unwish, I.os, I.bare, I.base, I.loc, I.cell, I.free, I.freeC, I.pin, I.hok, I.len⟩
theorem SP.unwish {D : Ends} {f : Flow} {s' : Shared} (h : SP (X.wish E) pins D f s') : SP X pins D f s' := by
  cases f with
  | next => obtain ⟨σ', H', I, q⟩ := h; exact ⟨σ', H', I.unwish, q⟩
  | brk => obtain ⟨σ', H', I, q⟩ := h; exact ⟨σ', H', I.unwish, q⟩
  | cont => obtain ⟨σ', H', I, q⟩ := h; exact ⟨σ', H', I.unwish, q⟩
  | ret u => obtain ⟨v, σ', H', I, r, q⟩ := h; exact ⟨v, σ', H', I.unwish, r, q⟩
theorem PE.nox {e : Expr} {t : TE} (h : PE X.nox e t) : PE X e t := fun pins s σ H Q I hw =>
  wpAny_mono (h pins s σ H Q (I.wish _) hw) (fun _ _ ⟨v, H', I', r, q⟩ => ⟨v, H', I'.unwish, r, q⟩) fun _ _ z => False.elim z
theorem PT.nox {e : Expr} {t : TT} (h : PT X.nox e t) : PT X e t := fun pins s σ H Q I hw =>
  wpAny_mono (h pins s σ H Q (I.wish _) hw) (fun _ _ ⟨H', I', q⟩ => ⟨H', I'.unwish, q⟩) fun _ _ z => False.elim z
theorem PSs.nox {st : List Stmt} {t : TS} (h : PSs X.nox st t) : PSs X st t := fun pins s σ H D I hw =>
  wpAny_mono (h pins s σ H D (I.wish _) hw) (fun _ _ q => q.unwish) fun _ _ z => False.elim z
end
/-! ### blocks and small statements -/
section
variable {X : Cx} {st : Stmt} {rest : List Stmt} {t u : TS} {e : Expr} {te : TE} {pos : Pos}
def tNext : TS := fun D σ H => D.nx σ H
def tSeq (t u : TS) : TS := fun D σ H => t { D with nx := u D } σ H
theorem pss_nil : PSs X [] tNext := fun _ _ σ H _ I h => wpAny_execs_nil ⟨σ, H, I, h⟩
theorem pss_cons (h1 : PS X st t) (h2 : PSs X rest u) : PSs X (st :: rest) (tSeq t u) := by
  intro pins s σ H D I h
  refine wpAny_execs_cons (thn (h1 pins s σ H { D with nx := u D } I h) fun f s1 q => ?_)
  cases f with
  | next =>
    obtain ⟨σ', H', I', q⟩ := q
    exact h2 pins s1 σ' H' D I' q
  | ret v => exact q
  | brk => exact q
  | cont => exact q
/-- in a def's body nothing is shown -/
theorem Inv.quiet {pins : List (Addr × Obj)} {σ : St} {H : Hp} {s : Shared} (I : Inv X pins σ H s) : interactive X.env = false := by simp [interactive, I.ok.kind]
/-- an expression whose value is dropped -/
def tDrop (te : TE) : TS := fun D σ H => te σ H fun _ H1 => D.nx σ H1
theorem ps_expr (he : PE X e te) (hs : swapsWith e none pos.line X.env = pure false := by rfl) : PS X (.Expr e pos) (tDrop te) := by
  intro pins s σ H D I h
  exact wpAny_Expr_any (thn (he pins s σ H _ I h) fun v s1 ⟨x, H1, I1, r1, q1⟩ => ⟨σ, H1, I1, q1⟩) I.quiet hs
def tRet (te : TE) : TS := fun D σ H => te σ H D.rt
theorem ps_ret (he : PE X e te) : PS X (.Return (some e) pos) (tRet te) := by
  intro pins s σ H D I h
  exact wpAny_Return_some (thn (he pins s σ H _ I h) fun v s1 ⟨x, H1, I1, r1, q1⟩ => ⟨x, σ, H1, I1, r1, q1⟩)
def tIfS (c : TT) (t u : TS) : TS := fun D σ H => c σ H fun b H1 => if b = true then t D σ H1 else u D σ H1
theorem ps_if {c : Expr} {a b : List Stmt} {tc : TT} (hc : PT X c tc) (ha : PSs X a t) (hb : PSs X b u) : PS X (.If c a b pos) (tIfS tc t u) := by
  intro pins s σ H D I h
  refine wpAny_If (thn (hc pins s σ H _ I h) fun d s1 ⟨H1, I1, q1⟩ => ?_)
  cases d with
  | true => exact ha pins s1 σ H1 D I1 q1
  | false => exact hb pins s1 σ H1 D I1 q1
/-- code that the proof never comes to -/
def tNever : TS := fun _ _ _ => False
theorem ps_never : PS X st tNever := fun _ _ _ _ _ _ h => h.elim
end
/-! ### targets -/
abbrev TG := V → St → Hp → (St → Hp → Prop) → Prop
abbrev TGs := List V → St → Hp → (St → Hp → Prop) → Prop
def PG (X : Cx) (target : Expr) (t : TG) : Prop :=
  ∀ (pins : List (Addr × Obj)) (s : Shared) (σ : St) (H : Hp) (v : V) (u : Value) (Q : St → Hp → Prop), Inv X pins σ H s → RelV v u → t v σ H Q →
    wpAny (model X.prog X.w) X.A (assign target X.env u) (fun _ s' => ∃ σ' H', Inv X pins σ' H' s' ∧ Q σ' H') X.xe s
/-- several targets, one after another -/
def PGs (X : Cx) (ts : List Expr) (t : TGs) : Prop :=
  ∀ (pins : List (Addr × Obj)) (s : Shared) (σ : St) (H : Hp) (vs : List V) (us : List Value) (Q : St → Hp → Prop), Inv X pins σ H s → Vals vs us → t vs σ H Q →
    wpAny (model X.prog X.w) X.A (assignInOrder ((assignEach ts X.env).map (·.2)) us) (fun _ s' => ∃ σ' H', Inv X pins σ' H' s' ∧ Q σ' H') X.xe s
/-- o[i] = v, by values -/
abbrev TSet := V → V → V → Hp → (Hp → Prop) → Prop
def PSet (X : Cx) (t : TSet) : Prop :=
  ∀ (pins : List (Addr × Obj)) (s : Shared) (σ : St) (H : Hp) (o i v : V) (ov iv u : Value) (Q : Hp → Prop), Inv X pins σ H s → RelV o ov → RelV i iv → RelV v u → t o i v H Q →
    wpAny (model X.prog X.w) X.A (setItem ov iv u) (fun _ s' => ∃ H', Inv X pins σ H' s' ∧ Q H') X.xe s
section
variable {X : Cx} {pos : Pos}
def gName (i : Nat) : TG := fun v σ H Q => Q (σ.set i (some v)) H
theorem pg_name {i : Nat} {x : Str} (hN : X.N.Nodup) (hi : X.N[i]? = some x) (hx : Loc X.env.scope x) (hf : X.fn x = true ∨ X.env.scope.names.lookup x = some .local := by first | exact .inl rfl | exact .inr rfl | assumption) : PG X (.Name x pos) (gName i) := by
  intro pins s σ H v u Q I r h
  exact wpAny_assign_Name (store_ok I hN hi hx r (fun s' I' => ⟨_, H, I', h⟩) hf)
def gNil : TGs := fun vs σ H Q => vs = [] ∧ Q σ H
def gCons (t : TG) (u : TGs) : TGs := fun vs σ H Q => ∃ v r, vs = v :: r ∧ t v σ H fun σ' H' => u r σ' H' Q
theorem pgs_nil : PGs X [] gNil := by
  intro pins s σ H vs us Q I r h
  obtain ⟨e, h⟩ := h
  subst e
  cases r
  exact assignInOrder_nil ⟨σ, H, I, h⟩
theorem pgs_cons {e : Expr} {es : List Expr} {t : TG} {u : TGs} (h1 : PG X e t) (h2 : PGs X es u)
    (hs : (assignEach (e :: es) X.env).map (·.2) = assign e X.env :: (assignEach es X.env).map (·.2) := by rfl) : PGs X (e :: es) (gCons t u) := by
  intro pins s σ H vs us Q I r h
  obtain ⟨v, vr, e1, h⟩ := h
  subst e1
  cases r with
  | cons r rr =>
    rw [hs]
    refine assignInOrder_cons (thn (h1 pins s σ H _ _ _ I r h) fun _ s1 ⟨σ1, H1, I1, q1⟩ => ?_)
    exact h2 pins s1 σ1 H1 _ _ Q I1 rr q1
/-- (a, b, ..) = a tuple of that length -/
def gTup (K : PySem.W.Frag) (n : Nat) (t : TGs) : TG := fun v σ H Q => ∃ a xs, v = .ref a ∧ SqT K H a xs ∧ xs.length = n ∧ t xs σ H Q
theorem pg_tup {es : List Expr} {k : Nat} {t : TGs} {n : Nat} (hc : X.calm = true) (h : PGs X es t)
    (hn : (assignEach es X.env).length = n := by rfl) (hst : (assignEach es X.env).findIdx? (·.1) = none := by rfl) : PG X (.Tuple es k pos) (gTup X.K n t) := by
  intro pins s σ H v u Q I r hw
  obtain ⟨a, xs, e1, hq, hl, hw⟩ := hw
  subst e1
  cases r
  obtain ⟨its, rv, ht, hz⟩ := I.tuple hq
  refine assign_Tuple_tuple (I.ok.hd hc) ht (by simp [hn, ← hl, rv.length]) hst fun h' hx => ?_
  have I1 : Inv X pins σ H { s with heap := h' } := I.kept (t' := s.toks) fun b o e => hx b o (Nat.ne_of_lt (Heap.lt_size e)) e
  exact h pins _ σ H xs _ Q I1 (by simpa using rv) hw
/-- o[i] = .. -/
def gSub (to ti : TE) (t : TSet) : TG := fun v σ H Q => to σ H fun o H1 => ti σ H1 fun i H2 => t o i v H2 fun H3 => Q σ H3
theorem pg_sub {o i : Expr} {to ti : TE} {t : TSet} (ho : PE X o to) (hi : PE X i ti) (hs : PSet X t)
    (ha : ∀ v, assign (.Subscript o i pos) X.env v = (do
      let ov ← holding [v] (eval o X.env)
      let iv ← holding [v, ov] (eval i X.env)
      standAt pos
      holding [v, ov, iv] (setItem ov iv v)
      release [v, ov, iv] []) := by intro _; rfl) : PG X (.Subscript o i pos) (gSub to ti t) := by
  intro pins s σ H v u Q I r h
  rw [ha]
  refine wpAny_bind (wpAny_holding (thn (ho pins s σ H _ I h) fun ov s1 ⟨x, H1, I1, r1, q1⟩ => ?_))
  refine wpAny_bind (wpAny_holding (thn (hi pins s1 σ H1 _ I1 q1) fun iv s2 ⟨y, H2, I2, r2, q2⟩ => ?_))
  refine wpAny_bind (wpAny_standAt (wpAny_bind (wpAny_holding (thn (hs pins s2 σ H2 x y v ov iv u _ I2 r1 r2 r q2) fun _ s3 ⟨H3, I3, q3⟩ => ?_))))
  exact wpAny_release ⟨σ, H3, I3, q3⟩
/-- target = value -/
def tAsg (te : TE) (g : TG) : TS := fun D σ H => te σ H fun x H1 => g x σ H1 D.nx
theorem ps_asg {tg e : Expr} {te : TE} {g : TG} (he : PE X e te) (hg : PG X tg g) (hs : swapsWithSole [tg] e pos.line X.env = pure false := by rfl) (hw : swappedStores [tg] e X.env = pure none := by rfl)
    (h1 : (assignEach [tg] X.env).map (·.2) = [assign tg X.env] := by rfl) : PS X (.Assign [tg] e pos) (tAsg te g) := by
  intro pins s σ H D I h
  refine wpAny_Assign_stores (thn (he pins s σ H _ I h) fun v s1 ⟨x, H1, I1, r1, q1⟩ => ?_) hs hw
  rw [h1]
  exact thn (hg pins s1 σ H1 x v _ I1 r1 q1) fun _ s2 q => q
/-- name = value -/
theorem ps_set {i : Nat} {x : Str} {e : Expr} {te : TE} {pos' : Pos} (hN : X.N.Nodup) (hi : X.N[i]? = some x) (hx : Loc X.env.scope x) (he : PE X e te) (hs : swapsWith e (some (.Name x pos')) pos.line X.env = pure false := by rfl) (hf : X.fn x = true ∨ X.env.scope.names.lookup x = some .local := by first | exact .inl rfl | exact .inr rfl | assumption) :
    PS X (.Assign [.Name x pos'] e pos) (tAsg te (gName i)) := by
  intro pins s σ H D I h
  refine wpAny_Assign_Name (thn (he pins s σ H _ I h) fun v s1 ⟨y, H1, I1, r1, q1⟩ => ?_) hs
  exact store_ok I1 hN hi hx r1 (fun s2 I2 => ⟨_, H1, I2, q1⟩) hf
end
/-! ### while -/
section
variable {X : Cx} {pos : Pos}
end
/-! ### what a loop or a comprehension walks -/
/-- at turn i: it yields x (the heap may grow), or it stops -/
structure It where
  go : Nat → Hp → Prop
  yld : Nat → Hp → V → Hp → Prop
  stop : Nat → Hp → Prop
/-- the iterator's own objects may turn: they are not the frame's, not pinned, younger than the entry (or a comprehension's own) -/
def FpOk (X : Cx) (pins : List (Addr × Obj)) (H : Hp) (b : Addr) : Prop :=
  H b = none ∧ b ≠ X.env.locals ∧ b ∉ X.fs ∧ (b ∈ X.ex ∨ X.s₀.heap.objs.size ≤ b) ∧ (∀ x c, X.env.cells.lookup x = some c → c ≠ b) ∧ ∀ p ∈ X.pn ++ pins, p.1 ≠ b
theorem Inv.fpOk {X : Cx} {pins : List (Addr × Obj)} {σ : St} {H H' : Hp} {s : Shared} {b : Addr} (I : Inv X pins σ H s) (hb : s.heap.objs.size ≤ b) (hn : H' b = none) : FpOk X pins H' b := by
  refine ⟨hn, Nat.ne_of_gt (Nat.lt_of_lt_of_le I.lt hb), I.nofs hb, .inr (Nat.le_trans I.sz hb), fun x c e z => ?_, fun p hp z => ?_⟩
  · obtain ⟨v, q⟩ := I.cell x c e
    exact absurd (Nat.lt_of_lt_of_le q.lt (by rw [z]; exact hb)) (Nat.lt_irrefl _)
  · exact absurd (Nat.lt_of_lt_of_le (Heap.lt_size (I.pin p hp).1) (by rw [z]; exact hb)) (Nat.lt_irrefl _)
structure Turn (P : Program) (w : World) (K : PySem.W.Frag) (tg : Expr) (J : It) (fp : List Addr) (it : Addr) (tn : Nat → Heap → Prop) : Prop where
  mem : it ∈ fp
  obj : ∀ i h, tn i h → ∀ b ∈ fp, ∃ o, h.get? b = some o ∧ ∀ v, o.data ≠ .cell v
  keep : ∀ i h h', tn i h → (∀ b ∈ fp, ∀ o, h.get? b = some o → h'.get? b = some o) → tn i h'
  item : ∀ (X : Cx), X.prog = P → X.w = w → X.K = K → X.calm = true → ∀ (i : Nat) (pins : List (Addr × Obj)) (s : Shared) (σ : St) (H : Hp) (E : Value → Shared → Prop), Inv X pins σ H s → (∀ b ∈ fp, FpOk X pins H b) → tn i s.heap → J.go i H →
    wpAny (model P w) X.A (pyNext (.ref it)) (fun r s1 => ∃ u, r = some u ∧
      wpAny (model P w) X.A (letOwnedTupleGo tg (.ref it) u) (fun _ s2 => ∃ x H', Inv X pins σ H' s2 ∧ RelV x u ∧ J.yld i H x H' ∧ tn (i + 1) s2.heap ∧ ∀ b ∈ fp, H' b = none) E s1) E s
  done : ∀ (X : Cx), X.prog = P → X.w = w → X.K = K → X.calm = true → ∀ (i : Nat) (pins : List (Addr × Obj)) (s : Shared) (σ : St) (H : Hp) (E : Value → Shared → Prop), Inv X pins σ H s → (∀ b ∈ fp, FpOk X pins H b) → tn i s.heap → J.stop i H →
    wpAny (model P w) X.A (pyNext (.ref it)) (fun r s1 => r = none ∧ Inv X pins σ H s1) E s
  self : ∀ (A : Around) (i : Nat) (s : Shared) (Q : Value → Shared → Prop) (E : Value → Shared → Prop), tn i s.heap → Q (.ref it) s → wpAny (model P w) A (pyIter (.ref it)) Q E s
abbrev TI := St → Hp → (It → Hp → Prop) → Prop
/-- an iterator has come -/
def PIE (X : Cx) (pins : List (Addr × Obj)) (σ : St) (tg : Expr) (R : It → Hp → Prop) (itv : Value) (s2 : Shared) : Prop :=
  ∃ (it : Addr) (fp : List Addr) (tn : Nat → Heap → Prop) (J : It) (H' : Hp), itv = .ref it ∧ Inv X pins σ H' s2 ∧ Turn X.prog X.w X.K tg J fp it tn ∧ tn 0 s2.heap ∧ (∀ b ∈ fp, FpOk X pins H' b) ∧ R J H'
def PI (X : Cx) (tg iter : Expr) (wi : TI) : Prop :=
  ∀ (pins : List (Addr × Obj)) (s : Shared) (σ : St) (H : Hp) (R : It → Hp → Prop), Inv X pins σ H s → wi σ H R →
    wpAny (model X.prog X.w) X.A (eval iter X.env) (fun v s1 => wpAny (model X.prog X.w) X.A (pyIter v) (PIE X pins σ tg R) X.xe s1) X.xe s
/-- the step ahead of the store is nothing for an iterator that keeps no tuple -/
theorem go_of {M : Model} {A : Around} {E : Value → Shared → Prop} {s : Shared} {tg : Expr} {it : Addr} {u : Value} {o : Obj} {n : String} {vs : Array Value} {Q : Unit → Shared → Prop} (ho : s.heap.get? it = some o) (hc : o.cls = .type n) (hd : o.data = .fields vs)
    (hn : ["enumerate", "zip", "dict_itemiterator", "dict_reverseitemiterator", "odict_iterator", "itertools.zip_longest", "itertools.pairwise"].contains n = false) (hQ : Q () s) : wpAny M A (letOwnedTupleGo tg (.ref it) u) Q E s := by
  unfold letOwnedTupleGo
  cases tg <;> first
    | exact wpAny_pure hQ
    | (cases u <;> first
        | exact wpAny_pure hQ
        | (refine wpAny_bind (wpAny_load ho ?_)
           rw [hc, hd]
           show wpAny M A (if (["enumerate", "zip", "dict_itemiterator", "dict_reverseitemiterator", "odict_iterator", "itertools.zip_longest", "itertools.pairwise"].contains n && vs[0]? == some (rawInt _)) = true then _ else _) Q E s
           rw [if_neg (by intro h; rw [hn, Bool.false_and] at h; cases h)]
           exact wpAny_pure hQ))
/-- the list at a, as it stands at each turn (a loop may append to it) -/
def Itl (K : PySem.W.Frag) (a : Addr) : It :=
  ⟨fun i H => ∃ xs x, SqL K H a xs ∧ xs[i]? = some x, fun i H x H' => H' = H ∧ ∀ xs, SqL K H a xs → xs[i]? = some x, fun i H => ∃ xs, SqL K H a xs ∧ xs.length ≤ i⟩
def Itt (K : PySem.W.Frag) (a : Addr) : It :=
  ⟨fun i H => ∃ xs x, SqT K H a xs ∧ xs[i]? = some x, fun i H x H' => H' = H ∧ ∀ xs, SqT K H a xs → xs[i]? = some x, fun i H => ∃ xs, SqT K H a xs ∧ xs.length ≤ i⟩
/-- lo, lo + 1, .. (n of them) -/
def Itr (lo : Int) (n : Nat) : It := ⟨fun i _ => i < n, fun i H x H' => H' = H ∧ x = .int (lo + i), fun i _ => n ≤ i⟩
theorem turn_list {P : Program} {w : World} {K : PySem.W.Frag} {tg : Expr} (a it : Addr) : Turn P w K tg (Itl K a) [it] it (fun i h => h.IsListIter it a i) where
  mem := by simp
  obj := fun i h st b hb => by
    have e : b = it := by simpa using hb
    subst e
    obtain ⟨o, e, c, d⟩ := st
    exact ⟨o, e, fun v z => by rw [d] at z; cases z⟩
  keep := fun i h h' st k => st.at fun o e => k it (by simp) o e
  item := by
    intro X hP hw hK hc i pins s σ H E I hf st hg
    subst hP hw hK
    obtain ⟨xs, x, hq, hx⟩ := hg
    obtain ⟨its, rv, p, hz⟩ := I.list hq
    obtain ⟨u, hu, ru⟩ := rv.get hx
    obtain ⟨f0, f1, f2, f3, f4, f5⟩ := hf it (by simp)
    refine wpAny_pyNext_list_item st p.isList (x := u) (by simpa using hu) fun h' st' sb => ?_
    have I1 : Inv X pins σ H { s with heap := h' } := I.turned (t' := s.toks) (fun b o hb e => (sb.2 b hb).trans e) f0 f1 f3 f4 f5
    obtain ⟨o, e, c, d⟩ := id st'
    exact ⟨u, rfl, go_of (s := { s with heap := h' }) e c d (by decide) ⟨x, H, I1, ru, ⟨rfl, fun ys hy => by rw [I.list_inj hy hq]; exact hx⟩, st', fun b hb => (hf b hb).1⟩⟩
  done := by
    intro X hP hw hK hc i pins s σ H E I hf st hg
    subst hP hw hK
    obtain ⟨xs, hq, hx⟩ := hg
    obtain ⟨its, rv, p, hz⟩ := I.list hq
    obtain ⟨f0, f1, f2, f3, f4, f5⟩ := hf it (by simp)
    have hl := rv.length
    exact wpAny_pyNext_list_end (I.ok.hd hc) st p.isList (by simp; omega) fun h' eb => ⟨rfl, I.turned (t' := s.toks) (fun b o hb e => eb b o hb e) f0 f1 f3 f4 f5⟩
  self := fun _ _ _ _ _ st h => wpAny_pyIter_listiter st h
theorem turn_tuple {P : Program} {w : World} {K : PySem.W.Frag} {tg : Expr} (a it : Addr) : Turn P w K tg (Itt K a) [it] it (fun i h => h.IsTupleIter it a i) where
  mem := by simp
  obj := fun i h st b hb => by
    have e : b = it := by simpa using hb
    subst e
    obtain ⟨o, e, c, d⟩ := st
    exact ⟨o, e, fun v z => by rw [d] at z; cases z⟩
  keep := fun i h h' st k => st.at fun o e => k it (by simp) o e
  item := by
    intro X hP hw hK hc i pins s σ H E I hf st hg
    subst hP hw hK
    obtain ⟨xs, x, hq, hx⟩ := hg
    obtain ⟨its, rv, p, hz⟩ := I.tuple hq
    obtain ⟨u, hu, ru⟩ := rv.get hx
    obtain ⟨f0, f1, f2, f3, f4, f5⟩ := hf it (by simp)
    refine wpAny_pyNext_tuple_item st (show s.heap.IsTuple a its.toArray from p) (x := u) (by simpa using hu) fun h' st' sb => ?_
    have I1 : Inv X pins σ H { s with heap := h' } := I.turned (t' := s.toks) (fun b o hb e => (sb.2 b hb).trans e) f0 f1 f3 f4 f5
    obtain ⟨o, e, c, d⟩ := id st'
    exact ⟨u, rfl, go_of (s := { s with heap := h' }) e c d (by decide) ⟨x, H, I1, ru, ⟨rfl, fun ys hy => by rw [I.tuple_inj hy hq]; exact hx⟩, st', fun b hb => (hf b hb).1⟩⟩
  done := by
    intro X hP hw hK hc i pins s σ H E I hf st hg
    subst hP hw hK
    obtain ⟨xs, hq, hx⟩ := hg
    obtain ⟨its, rv, p, hz⟩ := I.tuple hq
    obtain ⟨f0, f1, f2, f3, f4, f5⟩ := hf it (by simp)
    have hl := rv.length
    exact wpAny_pyNext_tuple_end (I.ok.hd hc) st (show s.heap.IsTuple a its.toArray from p) (by simp; omega) fun h' eb => ⟨rfl, I.turned (t' := s.toks) (fun b o hb e => eb b o hb e) f0 f1 f3 f4 f5⟩
  self := fun _ _ _ _ _ st h => wpAny_pyIter_tupleiter st h
theorem turn_range {P : Program} {w : World} {K : PySem.W.Frag} {tg : Expr} (it : Addr) (lo : Int) (n : Nat) : Turn P w K tg (Itr lo n) [it] it (fun i h => IsRangeIter h it (lo + (i : Nat) * 1) ((n : Int) - (i : Nat)) 1) where
  mem := by simp
  obj := fun i h st b hb => by
    have e : b = it := by simpa using hb
    subst e
    exact ⟨_, st, fun v z => by
      have z' : Data.fields _ = Data.cell v := z
      cases z'⟩
  keep := fun i h h' st k => k it (by simp) _ st
  item := by
    intro X hP hw hK hc i pins s σ H E I hf st hg
    subst hP hw hK
    obtain ⟨f0, f1, f2, f3, f4, f5⟩ := hf it (by simp)
    have W := Walks.range (prog := X.prog) (w := X.w) (I.ok.hd hc) it lo 1 n
    refine W.item i s _ _ hg st fun v h' tk hv st' kk => ?_
    obtain ⟨t, rfl⟩ := hv
    have I1 : Inv X pins σ H { s with heap := h', toks := tk } := I.turned (fun b o hb e => kk b o (by simpa using hb) e) f0 f1 f3 f4 f5
    refine ⟨_, rfl, go_of (s := { s with heap := h', toks := tk }) (n := "range_iterator") st' rfl rfl (by decide) ⟨.int (lo + i), H, I1, ⟨t, ?_⟩, ⟨rfl, rfl⟩, st', fun b hb => (hf b hb).1⟩⟩
    rw [Int.mul_one]
  done := by
    intro X hP hw hK hc i pins s σ H E I hf st hg
    subst hP hw hK
    obtain ⟨f0, f1, f2, f3, f4, f5⟩ := hf it (by simp)
    exact wpAny_pyNext_range_end (I.ok.hd hc) st (by have : n ≤ i := hg; omega) fun h' eb => ⟨rfl, I.turned (t' := s.toks) (fun b o hb e => eb b o hb e) f0 f1 f3 f4 f5⟩
  self := fun _ _ _ _ _ st h => wpAny_pyIter_rangeiter st h
end L2
namespace L2
open PySem PySem.Spec PyProof.Rows
section
variable {X : Cx} {tg : Expr}
def iList (K : PySem.W.Frag) (tl : TE) : TI := fun σ H R => tl σ H fun x H1 => ∃ a, x = .ref a ∧ (∃ xs, SqL K H1 a xs) ∧ R (Itl K a) H1
def iTup (K : PySem.W.Frag) (tl : TE) : TI := fun σ H R => tl σ H fun x H1 => ∃ a, x = .ref a ∧ (∃ xs, SqT K H1 a xs) ∧ R (Itt K a) H1
theorem pi_list {l : Expr} {tl : TE} (hl : PE X l tl) : PI X tg l (iList X.K tl) := by
  intro pins s σ H R I h
  refine thn (hl pins s σ H _ I h) fun v s1 ⟨x, H1, I1, r1, q1⟩ => ?_
  obtain ⟨a, e, ⟨xs, hq⟩, q⟩ := q1
  subst e
  cases r1
  obtain ⟨its, rv, p, hz⟩ := I1.list hq
  refine wpAny_pyIter_list p.isList ?_
  refine ⟨s1.heap.objs.size, [s1.heap.objs.size], _, _, H1, rfl, I1.kept (t' := s1.toks) fun b o e => Heap.get?_push_of_some _ e, turn_list a _, ⟨_, Heap.get?_push_size _ rfl, rfl, rfl⟩, fun b hb => ?_, q⟩
  have e : b = s1.heap.objs.size := by simpa using hb
  subst e
  exact I1.fpOk (Nat.le_refl _) (I1.hok.fresh (Nat.le_refl _))
theorem pi_tup {l : Expr} {tl : TE} (hl : PE X l tl) : PI X tg l (iTup X.K tl) := by
  intro pins s σ H R I h
  refine thn (hl pins s σ H _ I h) fun v s1 ⟨x, H1, I1, r1, q1⟩ => ?_
  obtain ⟨a, e, ⟨xs, hq⟩, q⟩ := q1
  subst e
  cases r1
  obtain ⟨its, rv, p, hz⟩ := I1.tuple hq
  refine wpAny_pyIter_tuple (show s1.heap.IsTuple a its.toArray from p) ?_
  refine ⟨s1.heap.objs.size, [s1.heap.objs.size], _, _, H1, rfl, I1.kept (t' := s1.toks) fun b o e => Heap.get?_push_of_some _ e, turn_tuple a _, ⟨_, Heap.get?_push_size _ rfl, rfl, rfl⟩, fun b hb => ?_, q⟩
  have e : b = s1.heap.objs.size := by simpa using hb
  subst e
  exact I1.fpOk (Nat.le_refl _) (I1.hok.fresh (Nat.le_refl _))
/-- a range object just made, walked -/
theorem range_it {pins : List (Addr × Obj)} {σ : St} {H : Hp} {s : Shared} {R : It → Hp → Prop} {E : Value → Shared → Prop} {lo hi : Int} {t u v : Tok} {tk : Nat} (I : Inv X pins σ H s) (h1 : -(2 ^ 62) ≤ lo) (h2 : lo < 2 ^ 62) (h3 : -(2 ^ 62) ≤ hi) (h4 : hi < 2 ^ 62)
    (q : R (Itr lo (hi - lo).toNat) H) : wpAny (model X.prog X.w) X.A (pyIter (.ref s.heap.objs.size)) (PIE X pins σ tg R) E { s with heap := s.heap.push { cls := .type "range", data := .fields #[.int lo t, .int hi u, .int 1 v] }, toks := tk } := by
  refine wpAny_pyIter_range (IsRange.new ..) (small_one h1 h2 h3 h4) ?_
  have I1 : Inv X pins σ H { s with heap := s.heap.push { cls := .type "range", data := .fields #[.int lo t, .int hi u, .int 1 v] }, toks := tk } := I.kept fun b o e => Heap.get?_push_of_some _ e
  refine ⟨(s.heap.push { cls := .type "range", data := .fields #[.int lo t, .int hi u, .int 1 v] }).objs.size, [(s.heap.push { cls := .type "range", data := .fields #[.int lo t, .int hi u, .int 1 v] }).objs.size], _, _, H, rfl,
    I1.kept (t' := tk) fun b o e => Heap.get?_push_of_some _ e, turn_range _ lo (hi - lo).toNat, ?_, fun b hb => ?_, q⟩
  · have e1 : lo + ((0 : Nat) : Int) * 1 = lo := by simp
    have e2 : (((hi - lo).toNat : Nat) : Int) - ((0 : Nat) : Int) = Builtin.Range.rangeSize lo hi 1 := by rw [rangeSize_one]; split <;> omega
    show IsRangeIter _ _ (lo + ((0 : Nat) : Int) * 1) ((((hi - lo).toNat : Nat) : Int) - ((0 : Nat) : Int)) 1
    rw [e1, e2]
    exact Heap.get?_push_size _ rfl
  · have e : b = (s.heap.push { cls := .type "range", data := .fields #[.int lo t, .int hi u, .int 1 v] }).objs.size := by simpa using hb
    subst e
    exact I1.fpOk (Nat.le_refl _) (I1.hok.fresh (Nat.le_refl _))
def iRng1 (ta : TA) : TI := fun σ H R => ta σ H fun vs H1 => ∃ j : Int, vs = [.int j] ∧ -(2 ^ 62) ≤ j ∧ j < 2 ^ 62 ∧ R (Itr 0 j.toNat) H1
theorem pi_range1 {a : Expr} {ta : TA} {p pos : Pos} (hg : Gl X "range") (hm : X.mg "range" = none) (ha : PA X [a] ta) (hs : starEach [a] X.env = [(false, eval a X.env)] := by rfl) : PI X tg (.Call (.Name "range" p) [a] [] pos) (iRng1 ta) := by
  intro pins s σ H R I h
  refine Call_ (ld_blt I hg hm boot_range (PyProof.Rows.callWith_type1 (thn (ha pos pins s σ H _ I h) fun us s1 ⟨vs, H1, I1, r1, q1⟩ => ?_) hs rfl))
  obtain ⟨j, e, q1, q2, q⟩ := q1
  subst e
  cases r1 with
  | cons r rr =>
    cases rr
    obtain ⟨t, rfl⟩ := r
    exact call_range_1 (range_it I1 (by omega) (by omega) q1 q2 (by simpa using q))
/-! ### for -/
/-- W: the invariant by the turn and a measure; N: what the body is to reach -/
def tFor (wi : TI) (g : TG) (tb : TS) : TS := fun D σ H => wi σ H fun J H1 => ∃ W : Nat → Nat → St → Hp → Prop, (∃ m, W 0 m σ H1) ∧ ∀ i m σ H, W i m σ H →
  (J.stop i H ∧ D.nx σ H) ∨ (J.go i H ∧ ∃ N : St → Hp → Prop, (∀ σ' H', N σ' H' → ∃ m', m' < m ∧ W (i + 1) m' σ' H') ∧ ∀ x H', J.yld i H x H' → g x σ H' fun σ2 H2 => tb { D with nx := N, ct := N, bk := D.nx } σ2 H2)
/-- the records at fp as they stand -/
def pinsAt (fp : List Addr) (h : Heap) : List (Addr × Obj) := fp.filterMap fun b => (h.get? b).map fun o => (b, o)
theorem mem_pinsAt {fp : List Addr} {h : Heap} {b : Addr} {o : Obj} (hb : b ∈ fp) (e : h.get? b = some o) : (b, o) ∈ pinsAt fp h := List.mem_filterMap.mpr ⟨b, hb, by rw [e]; rfl⟩
theorem of_pinsAt {fp : List Addr} {h : Heap} {p : Addr × Obj} (hp : p ∈ pinsAt fp h) : p.1 ∈ fp ∧ h.get? p.1 = some p.2 := by
  obtain ⟨b, hb, e⟩ := List.mem_filterMap.mp hp
  cases q : h.get? b with
  | none => rw [q] at e; cases e
  | some o =>
    rw [q] at e
    have e' : (b, o) = p := Option.some.inj e
    subst e'
    exact ⟨hb, q⟩
theorem Inv.pinned {pins : List (Addr × Obj)} {σ : St} {H : Hp} {s : Shared} {fp : List Addr} (I : Inv X pins σ H s) (hf : ∀ b ∈ fp, FpOk X pins H b) (ho : ∀ b ∈ fp, ∃ o, s.heap.get? b = some o ∧ ∀ v, o.data ≠ .cell v) : Inv X (pins ++ pinsAt fp s.heap) σ H s :=
  I.pins_of fun p hp => (List.mem_append.mp hp).elim (fun z => I.pin p (List.mem_append_right _ z)) fun z => by
    obtain ⟨hb, e⟩ := of_pinsAt z
    obtain ⟨f0, f1, f2, _⟩ := hf p.1 hb
    obtain ⟨o, e', d⟩ := ho p.1 hb
    rw [e] at e'; cases e'
    exact ⟨e, f0, f1, f2, d⟩
theorem Inv.unpinned {pins pl : List (Addr × Obj)} {σ : St} {H : Hp} {s : Shared} (I : Inv X (pins ++ pl) σ H s) : Inv X pins σ H s := I.pins_of fun p hp => I.pin p (List.mem_append_right _ (List.mem_append_left _ hp))
theorem ps_for {iter : Expr} {body : List Stmt} {wi : TI} {g : TG} {tb : TS} {pos : Pos} (hp : PassesOwn (model X.prog X.w) X.A X.env X.xe) (hc : X.calm = true) (hi : PI X tg iter wi) (hg : PG X tg g) (hb : PSs X body tb)
    (hs : ∀ x, foldedSetIterable iter X.env x = pure x := by intro _; rfl) : PS X (.For tg iter body [] pos) (tFor wi g tb) := by
  intro pins s σ H D I h
  refine wpAny_For (thn (hi pins s σ H _ I h) fun v s1 h1 => thn h1 fun itv s2 h2 => ?_) hs
  obtain ⟨it, fp, tn, J, H2, e, I2, T, st2, f2, W, ⟨m0, w0⟩, turn⟩ := h2
  subst e
  -- what stays true of the iterator's objects through the loop
  have stat : ∀ {H' : Hp}, (∀ b ∈ fp, H' b = none) → ∀ b ∈ fp, FpOk X pins H' b := fun hn b hb => ⟨hn b hb, (f2 b hb).2⟩
  refine codeAny_forLoop_any (fun n s' => ∃ i σ' H', Inv X pins σ' H' s' ∧ tn i s'.heap ∧ (∀ b ∈ fp, H' b = none) ∧ W i n σ' H') ?_ m0 ⟨0, σ, H2, I2, st2, fun b hb => (f2 b hb).1, w0⟩
  rintro n s3 ⟨i, σ3, H3, I3, st3, fr3, w3⟩
  rcases turn i n σ3 H3 w3 with ⟨stop, qn⟩ | ⟨go, N, hN, step⟩
  · refine wpAny_passesOwn hp (thn (T.done X rfl rfl rfl hc i pins s3 σ3 H3 X.xe I3 (stat fr3) st3 stop) fun r s4 ⟨hr, I4⟩ => ?_)
    subst hr
    exact wpAny_execs_nil ⟨σ3, H3, I4, qn⟩
  · refine wpAny_passesOwn hp (thn (T.item X rfl rfl rfl hc i pins s3 σ3 H3 X.xe I3 (stat fr3) st3 go) fun r s4 ⟨u, hr, h4⟩ => ?_)
    subst hr
    refine wpAny_passesOwn hp (thn h4 fun _ s5 ⟨x, H5, I5, r5, y5, st5, fr5⟩ => ?_)
    have I5' := I5.pinned (stat fr5) (T.obj _ _ st5)
    refine wpAny_passesOwn hp (thn (hg _ s5 σ3 H5 x u _ I5' r5 (step x H5 y5)) fun _ s6 ⟨σ6, H6, I6, q6⟩ => ?_)
    refine wpAny_passesOwn hp (thn (hb _ s6 σ6 H6 _ I6 q6) fun f s7 q7 => ?_)
    have again : ∀ {σ7 : St} {H7 : Hp}, Inv X (pins ++ pinsAt fp s5.heap) σ7 H7 s7 → N σ7 H7 → ∃ m, m < n ∧ ∃ i σ' H', Inv X pins σ' H' s7 ∧ tn i s7.heap ∧ (∀ b ∈ fp, H' b = none) ∧ W i m σ' H' := fun {σ7 H7} I7 n7 => by
      obtain ⟨m', hm, w7⟩ := hN σ7 H7 n7
      refine ⟨m', hm, i + 1, σ7, H7, I7.unpinned, T.keep _ _ _ st5 fun b hb o e => (I7.pin (b, o) (List.mem_append_right _ (List.mem_append_right _ (mem_pinsAt hb e)))).1, fun b hb => ?_, w7⟩
      obtain ⟨o, e, d⟩ := T.obj _ _ st5 b hb
      exact (I7.pin (b, o) (List.mem_append_right _ (List.mem_append_right _ (mem_pinsAt hb e)))).2.1
    cases f with
    | next => obtain ⟨σ7, H7, I7, n7⟩ := q7; exact again I7 n7
    | cont => obtain ⟨σ7, H7, I7, n7⟩ := q7; exact again I7 n7
    | brk => obtain ⟨σ7, H7, I7, q7⟩ := q7; exact ⟨σ7, H7, I7.unpinned, q7⟩
    | ret v => obtain ⟨x7, σ7, H7, I7, r7, q7⟩ := q7; exact ⟨x7, σ7, H7, I7.unpinned, r7, q7⟩
end
/-! ### the forms one uses -/
theorem for_range {lo : Int} {n : Nat} {g : TG} {tb : TS} {D : Ends} {σ : St} {H : Hp} (Pv : Nat → St → Hp → Prop) (h0 : Pv 0 σ H)
    (hs : ∀ i σ H, i < n → Pv i σ H → g (.int (lo + i)) σ H fun σ2 H2 => tb { D with nx := Pv (i + 1), ct := Pv (i + 1), bk := D.nx } σ2 H2) (hd : ∀ σ H, Pv n σ H → D.nx σ H) :
    ∃ W : Nat → Nat → St → Hp → Prop, (∃ m, W 0 m σ H) ∧ ∀ i m σ H, W i m σ H →
      ((Itr lo n).stop i H ∧ D.nx σ H) ∨ ((Itr lo n).go i H ∧ ∃ N : St → Hp → Prop, (∀ σ' H', N σ' H' → ∃ m', m' < m ∧ W (i + 1) m' σ' H') ∧ ∀ x H', (Itr lo n).yld i H x H' → g x σ H' fun σ2 H2 => tb { D with nx := N, ct := N, bk := D.nx } σ2 H2) := by
  refine ⟨fun i m σ H => m = n - i ∧ i ≤ n ∧ Pv i σ H, ⟨n, by simp, Nat.zero_le _, h0⟩, ?_⟩
  rintro i m σ H ⟨rfl, hi, p⟩
  by_cases hlt : i < n
  · refine .inr ⟨hlt, Pv (i + 1), fun σ' H' p' => ⟨n - (i + 1), by omega, rfl, hlt, p'⟩, fun x H' y => ?_⟩
    obtain ⟨e, y⟩ := y
    subst e y
    exact hs i σ _ hlt p
  · have e : i = n := by omega
    subst e
    exact .inl ⟨Nat.le_refl _, hd σ H p⟩
end L2
namespace L2
open PySem PySem.Spec PyProof.Rows
abbrev R2 := V → V → Hp → VK → Prop
/-- a two-place operation on values: f is binaryOp op, inplaceOp op or compareOp op -/
def OpR (X : Cx) (f : Value → Value → Sem Value) (r : R2) : Prop :=
  ∀ (pins : List (Addr × Obj)) (s : Shared) (σ : St) (H : Hp) (x y : V) (v u : Value) (Q : VK), Inv X pins σ H s → RelV x v → RelV y u → r x y H Q →
    wpAny (model X.prog X.w) X.A (f v u) (EP X pins σ Q) X.xe s
/-- a one-place operation -/
def UnR (X : Cx) (f : Value → Sem Value) (r : V → Hp → VK → Prop) : Prop :=
  ∀ (pins : List (Addr × Obj)) (s : Shared) (σ : St) (H : Hp) (x : V) (v : Value) (Q : VK), Inv X pins σ H s → RelV x v → r x H Q →
    wpAny (model X.prog X.w) X.A (f v) (EP X pins σ Q) X.xe s
/-- a call of a value that is known (a builtin, a type) with values -/
def CallR (X : Cx) (f : Value) (r : List V → Hp → VK → Prop) : Prop :=
  ∀ (pins : List (Addr × Obj)) (s : Shared) (σ : St) (H : Hp) (xs : List V) (us : List Value) (Q : VK), Inv X pins σ H s → Vals xs us → r xs H Q →
    wpAny (model X.prog X.w) X.A (call f us) (EP X pins σ Q) X.xe s
/-- a value's truth -/
def TruR (X : Cx) (r : V → Hp → (Bool → Hp → Prop) → Prop) : Prop :=
  ∀ (pins : List (Addr × Obj)) (s : Shared) (σ : St) (H : Hp) (x : V) (v : Value) (Q : Bool → Hp → Prop), Inv X pins σ H s → RelV x v → r x H Q →
    wpAny (model X.prog X.w) X.A (truthy v) (TP X pins σ Q) X.xe s
def tOp (r : R2) (ta tb : TE) : TE := fun σ H Q => ta σ H fun x H1 => tb σ H1 fun y H2 => r x y H2 Q
def tUn (r : V → Hp → VK → Prop) (ta : TE) : TE := fun σ H Q => ta σ H fun x H1 => r x H1 Q
/-- ints in, under C, and a value out -/
def rI (C : Int → Int → Prop) (g : Int → Int → V) : R2 := fun x y H Q => ∃ i j, x = .int i ∧ y = .int j ∧ C i j ∧ Q (g i j) H
def rI0 (g : Int → Int → V) : R2 := fun x y H Q => ∃ i j, x = .int i ∧ y = .int j ∧ Q (g i j) H
def rU (g : Int → V) : V → Hp → VK → Prop := fun x H Q => ∃ i, x = .int i ∧ Q (g i) H
section
variable {X : Cx} {a b c : Expr} {ta tb tc : TE} {pos : Pos}
theorem binT (ha : PE X a ta) (hb : PE X b tb) {pins : List (Addr × Obj)} {s : Shared} {σ : St} {H : Hp} {R : V → V → Hp → Prop} (I : Inv X pins σ H s)
    (h : ta σ H fun x H1 => tb σ H1 fun y H2 => R x y H2) {Q : Value → Shared → Prop} {f : Value → Value → Sem Value}
    (hf : ∀ v u s2 x y H2, Inv X pins σ H2 s2 → RelV x v → RelV y u → R x y H2 → wpAny (model X.prog X.w) X.A (f v u) Q X.xe s2) :
    wpAny (model X.prog X.w) X.A (eval a X.env) (fun v s₁ => wpAny (model X.prog X.w) X.A (eval b X.env) (fun u s₂ => wpAny (model X.prog X.w) X.A (f v u) Q X.xe s₂) X.xe s₁) X.xe s := by
  refine thn (ha pins s σ H _ I h) fun v s1 ⟨x, H1, I1, r1, q1⟩ => ?_
  refine thn (hb pins s1 σ H1 _ I1 q1) fun u s2 ⟨y, H2, I2, r2, q2⟩ => ?_
  exact hf v u s2 x y H2 I2 r1 r2 q2
theorem pe_op {op : Operator} {r : R2} (ho : OpR X (binaryOp op) r) (ha : PE X a ta) (hb : PE X b tb) : PE X (.BinOp a op b pos) (tOp r ta tb) := by
  intro pins s σ H Q I h
  exact wpAny_BinOp (binT ha hb I h fun v u s2 x y H2 I2 rx ry q => ho pins s2 σ H2 x y v u Q I2 rx ry q)
theorem pe_un {op : UnaryOp} {r : V → Hp → VK → Prop} (ho : UnR X (unaryOp op) r) (ha : PE X a ta) : PE X (.UnaryOp op a pos) (tUn r ta) := by
  intro pins s σ H Q I h
  exact UnaryOp_ (thn (ha pins s σ H _ I h) fun v s1 ⟨x, H1, I1, r1, q1⟩ => ho pins s1 σ H1 x v Q I1 r1 q1)
/-! ### ints -/
theorem opI {f : Value → Value → Sem Value} {C : Int → Int → Prop} {g : Int → Int → Int}
    (rule : ∀ (i j : Int) (t u : Tok) (s : Shared) (Q : Value → Shared → Prop) (E : Value → Shared → Prop), C i j → Q (.int (g i j) s.toks) { s with toks := s.toks + 1 } → wpAny (model X.prog X.w) X.A (f (.int i t) (.int j u)) Q E s) :
    OpR X f (rI C fun i j => .int (g i j)) := by
  intro pins s σ H x y v u Q I rx ry h
  obtain ⟨i, j, rfl, rfl, hc, q⟩ := h
  obtain ⟨t, rfl⟩ := rx
  obtain ⟨t', rfl⟩ := ry
  exact rule i j t t' s _ _ hc ⟨.int (g i j), H, I.tok _, ⟨_, rfl⟩, q⟩
theorem opI0 {f : Value → Value → Sem Value} {g : Int → Int → Int}
    (rule : ∀ (i j : Int) (t u : Tok) (s : Shared) (Q : Value → Shared → Prop) (E : Value → Shared → Prop), Q (.int (g i j) s.toks) { s with toks := s.toks + 1 } → wpAny (model X.prog X.w) X.A (f (.int i t) (.int j u)) Q E s) :
    OpR X f (rI0 fun i j => .int (g i j)) := by
  intro pins s σ H x y v u Q I rx ry h
  obtain ⟨i, j, rfl, rfl, q⟩ := h
  obtain ⟨t, rfl⟩ := rx
  obtain ⟨t', rfl⟩ := ry
  exact rule i j t t' s _ _ ⟨.int (g i j), H, I.tok _, ⟨_, rfl⟩, q⟩
theorem opB0 {f : Value → Value → Sem Value} {g : Int → Int → Bool}
    (rule : ∀ (i j : Int) (t u : Tok) (s : Shared) (Q : Value → Shared → Prop) (E : Value → Shared → Prop), Q (.bool (g i j)) s → wpAny (model X.prog X.w) X.A (f (.int i t) (.int j u)) Q E s) :
    OpR X f (rI0 fun i j => .bl (g i j)) := by
  intro pins s σ H x y v u Q I rx ry h
  obtain ⟨i, j, rfl, rfl, q⟩ := h
  obtain ⟨t, rfl⟩ := rx
  obtain ⟨t', rfl⟩ := ry
  exact rule i j t t' s _ _ ⟨.bl (g i j), H, I, rfl, q⟩
def CDiv (i j : Int) : Prop := 0 < j ∧ j < 1073741824
def CPow (i j : Int) : Prop := 0 ≤ j ∧ j ≤ 1000000 ∧ i.natAbs < 2 ^ 64
def CMul (i j : Int) : Prop := (-(2 ^ 64) < i ∧ i < 2 ^ 64) ∨ (-(2 ^ 64) < j ∧ j < 2 ^ 64)
theorem CMul.ok {i j : Int} (h : CMul i j) : IntMulOk i j := by
  rcases h with ⟨h1, h2⟩ | ⟨h1, h2⟩
  · exact .of_left (intBits_le_64 h1 h2)
  · exact .of_right (intBits_le_64 h1 h2)
theorem op_add : OpR X (binaryOp .Add) (rI0 fun i j => .int (i + j)) := opI0 fun _ _ _ _ _ _ _ q => add_int q
theorem op_sub : OpR X (binaryOp .Sub) (rI0 fun i j => .int (i - j)) := opI0 fun _ _ _ _ _ _ _ q => sub_int q
theorem op_mul : OpR X (binaryOp .Mult) (rI CMul fun i j => .int (i * j)) := opI fun _ _ _ _ _ _ _ hc q => mul_int q hc.ok
/-- // by a positive divisor -/
theorem op_fdiv : OpR X (binaryOp .FloorDiv) (rI CDiv fun i j => .int (i / j)) := opI fun i j _ _ _ _ _ hc q => by
  have h1 : (0 : Int) < j := hc.1
  have h2 : j < 1073741824 := hc.2
  exact floordiv_int (by omega) (by rw [Int.fdiv_eq_ediv_of_nonneg i (by omega)]; exact q) (.inl (PyProof.noPylong_small (by omega)))
/-- % by a positive divisor of any size -/
theorem op_mod : OpR X (binaryOp .Mod) (rI (fun _ j => 0 < j) fun i j => .int (i % j)) := opI fun i j _ _ _ _ _ hc q => by
  have h1 : (0 : Int) < j := hc
  exact mod_int' (by omega) (by rw [Int.fmod_eq_emod_of_nonneg i (by omega)]; exact q)
theorem op_pow : OpR X (binaryOp .Pow) (rI CPow fun i j => .int (i ^ j.toNat)) := opI fun _ _ _ _ _ _ _ hc q => pow_int_small hc.1 hc.2.1 hc.2.2 q
theorem unI {f : Value → Sem Value} {g : Int → Int}
    (rule : ∀ (i : Int) (t : Tok) (s : Shared) (Q : Value → Shared → Prop) (E : Value → Shared → Prop), Q (.int (g i) s.toks) { s with toks := s.toks + 1 } → wpAny (model X.prog X.w) X.A (f (.int i t)) Q E s) :
    UnR X f (rU fun i => .int (g i)) := by
  intro pins s σ H x v Q I rx h
  obtain ⟨i, rfl, q⟩ := h
  obtain ⟨t, rfl⟩ := rx
  exact rule i t s _ _ ⟨.int (g i), H, I.tok _, ⟨_, rfl⟩, q⟩
theorem un_neg : UnR X (unaryOp .USub) (rU fun i => .int (-i)) := unI fun _ _ _ _ _ q => neg_int q
/-! ### bools among ints: n += (a < b) -/
end
/-! ### comparisons -/
/-- the scalars that == tells apart as data does -/
def scal : V → V → Bool
  | .non, .non => true | .non, .int _ => true | .int _, .non => true | .non, .bl _ => true | .bl _, .non => true | .non, .str _ => true | .str _, .non => true
  | .int _, .int _ => true | .bl _, .bl _ => true | .str _, .str _ => true | .byt _, .byt _ => true
  | .int _, .str _ => true | .str _, .int _ => true | .bl _, .str _ => true | .str _, .bl _ => true
  | _, _ => false
def rEq : R2 := fun x y H Q => scal x y = true ∧ Q (.bl (decide (x = y))) H
theorem dec_int {i j : Int} : decide (V.int i = V.int j) = (i == j) := by
  rw [Bool.eq_iff_iff]
  simp
theorem dec_bl {i j : Bool} : decide (V.bl i = V.bl j) = (i == j) := by
  rw [Bool.eq_iff_iff]
  simp
theorem dec_str {i j : Str} : decide (V.str i = V.str j) = (i == j) := by
  rw [Bool.eq_iff_iff]
  simp
theorem dec_byt {i j : Array UInt8} : decide (V.byt i = V.byt j) = (i.toList == j.toList) := by
  rw [Bool.eq_iff_iff]
  cases i
  cases j
  simp
section
variable {X : Cx} {a b c : Expr} {ta tb tc : TE} {pos : Pos}
theorem fin_bl {pins : List (Addr × Obj)} {σ : St} {H : Hp} {s : Shared} {Q : VK} {k k' : Bool} (I : Inv X pins σ H s) (q : Q (.bl k) H) (e : k = k') : EP X pins σ Q (.bool k') s := by
  subst e
  exact ⟨.bl k, H, I, rfl, q⟩
theorem op_eq : OpR X (compareOp .Eq) rEq := by
  intro pins s σ H x y v u Q I rx ry h
  obtain ⟨hs, q⟩ := h
  cases x with
  | non =>
    cases rx
    cases y with
    | non => cases ry; exact PySem.EqNone.eq_none_none (fin_bl I q (by simp))
    | bl j => cases ry; exact PySem.EqNone.eq_none_bool (fin_bl I q (by simp))
    | int j => obtain ⟨t', rfl⟩ := ry; exact PySem.EqNone.eq_none_int (fin_bl I q (by simp))
    | str j => obtain ⟨t', rfl⟩ := ry; exact PySem.EqNone.eq_none_str (fin_bl I q (by simp))
    | _ => exact absurd (show false = true from hs) Bool.false_ne_true
  | bl i =>
    cases rx
    cases y with
    | non => cases ry; exact PySem.EqNone.eq_bool_none (fin_bl I q (by simp))
    | bl j => cases ry; exact eq_bool (fin_bl I q dec_bl)
    | str j => obtain ⟨t', rfl⟩ := ry; exact PySem.EqMixed.eq_bool_str (fin_bl I q (by simp))
    | _ => exact absurd (show false = true from hs) Bool.false_ne_true
  | int i =>
    obtain ⟨t, rfl⟩ := rx
    cases y with
    | non => cases ry; exact PySem.EqNone.eq_int_none (fin_bl I q (by simp))
    | int j => obtain ⟨t', rfl⟩ := ry; exact eq_int (fin_bl I q dec_int)
    | str j => obtain ⟨t', rfl⟩ := ry; exact PySem.EqMixed.eq_int_str (fin_bl I q (by simp))
    | _ => exact absurd (show false = true from hs) Bool.false_ne_true
  | str i =>
    obtain ⟨t, rfl⟩ := rx
    cases y with
    | non => cases ry; exact PySem.EqNone.eq_str_none (fin_bl I q (by simp))
    | bl j => cases ry; exact PySem.EqMixed.eq_str_bool (fin_bl I q (by simp))
    | int j => obtain ⟨t', rfl⟩ := ry; exact PySem.EqMixed.eq_str_int (fin_bl I q (by simp))
    | str j => obtain ⟨t', rfl⟩ := ry; exact eq_str (fin_bl I q dec_str)
    | _ => exact absurd (show false = true from hs) Bool.false_ne_true
  | byt i =>
    obtain ⟨t, rfl⟩ := rx
    cases y with
    | byt j => obtain ⟨t', rfl⟩ := ry; exact PySem.W.eq_bytes (fin_bl I q dec_byt)
    | _ => exact absurd (show false = true from hs) Bool.false_ne_true
  | _ => cases y <;> exact absurd (show false = true from hs) Bool.false_ne_true
theorem op_lt : OpR X (compareOp .Lt) (rI0 fun i j => .bl (decide (i < j))) := opB0 fun _ _ _ _ _ _ _ q => lt_int q
theorem op_le : OpR X (compareOp .LtE) (rI0 fun i j => .bl (decide (i ≤ j))) := opB0 fun _ _ _ _ _ _ _ q => le_int q
theorem op_gt : OpR X (compareOp .Gt) (rI0 fun i j => .bl (decide (j < i))) := opB0 fun _ _ _ _ _ _ _ q => gt_int q
theorem op_ge : OpR X (compareOp .GtE) (rI0 fun i j => .bl (decide (j ≤ i))) := opB0 fun _ _ _ _ _ _ _ q => ge_int q
theorem op_lt_str : OpR X (compareOp .Lt) (fun x y H Q => ∃ i j, x = .str i ∧ y = .str j ∧ Q (.bl (decide (i.cps.toList < j.cps.toList))) H) := by
  intro pins s σ H x y v u Q I rx ry h
  obtain ⟨i, j, rfl, rfl, q⟩ := h
  obtain ⟨t, rfl⟩ := rx
  obtain ⟨t', rfl⟩ := ry
  exact lt_str (fin_bl I q rfl)
/-- two rules for one operation: by cases -/
theorem OpR.or {f : Value → Value → Sem Value} {r r' : R2} (h : OpR X f r) (h' : OpR X f r') : OpR X f (fun x y H Q => r x y H Q ∨ r' x y H Q) := by
  intro pins s σ H x y v u Q I rx ry q
  rcases q with q | q
  · exact h pins s σ H x y v u Q I rx ry q
  · exact h' pins s σ H x y v u Q I rx ry q
theorem nomark (b : Expr) {op : CmpOp} (h : op ≠ .In := by decide) (h2 : op ≠ .NotIn := by decide) : behindInMarks op b = false := by
  have e1 : (op == CmpOp.In) = false := by cases op <;> first | rfl | exact absurd rfl h
  have e2 : (op == CmpOp.NotIn) = false := by cases op <;> first | rfl | exact absurd rfl h2
  cases b <;> simp [behindInMarks, e1, e2]
/-- a comparison as a value; hm: nomark b, or (for in, not in) by with_unfolding_all rfl -/
theorem pe_cmpR {op : CmpOp} {r : R2} (ho : OpR X (compareOp op) r) (ha : PE X a ta) (hb : PE X b tb) (hm : behindInMarks op b = false) : PE X (.Compare a [op] [b] pos) (tOp r ta tb) := by
  intro pins s σ H Q I h
  exact wpAny_Compare1 (binT ha hb I h fun v u s2 x y H2 I2 rx ry q => ho pins s2 σ H2 x y v u Q I2 rx ry q) hm
/-- a reading of a value as a test -/
def tTest (t : TE) : TT := fun σ H Q => t σ H fun x H' => ∃ k, x = .bl k ∧ Q k H'
theorem pt_cmpR {op : CmpOp} {r : R2} (ho : OpR X (compareOp op) r) (ha : PE X a ta) (hb : PE X b tb) (hm : behindInMarks op b = false) : PT X (.Compare a [op] [b] pos) (tTest (tOp r ta tb)) := by
  intro pins s σ H Q I h
  refine wpAny_isTrue_Compare1 (thn (ha pins s σ H _ I h) fun v s1 ⟨x, H1, I1, r1, q1⟩ => thn (hb pins s1 σ H1 _ I1 q1) fun u s2 ⟨y, H2, I2, r2, q2⟩ =>
    thn (ho pins s2 σ H2 x y v u _ I2 r1 r2 q2) fun c s3 ⟨z, H3, I3, r3, k, e, q3⟩ => ?_) hm
  subst e
  cases r3
  exact wpAny_truthy_bool ⟨H3, I3, q3⟩
/-- a op1 b op2 c -/
def tChain (r r' : R2) (ta tb tc : TE) : TE := fun σ H Q => ta σ H fun x H1 => tb σ H1 fun y H2 => r x y H2 fun z H3 => ∃ k, z = .bl k ∧
  (if k = true then tc σ H3 fun w' H4 => r' y w' H4 Q else Q (.bl false) H3)
theorem pe_chain {op op' : CmpOp} {r r' : R2} (ho : OpR X (compareOp op) r) (ho' : OpR X (compareOp op') r') (ha : PE X a ta) (hb : PE X b tb) (hc : PE X c tc)
    (hm : lastMarks [op, op'] [b, c] = false := by with_unfolding_all rfl) : PE X (.Compare a [op, op'] [b, c] pos) (tChain r r' ta tb tc) := by
  intro pins s σ H Q I h
  refine Compare_chain (thn (ha pins s σ H _ I h) fun v s1 ⟨x, H1, I1, r1, q1⟩ => chain_link (thn (hb pins s1 σ H1 _ I1 q1) fun u s2 ⟨y, H2, I2, r2, q2⟩ =>
    thn (ho pins s2 σ H2 x y v u _ I2 r1 r2 q2) fun d s3 ⟨z, H3, I3, r3, k, e, q3⟩ => ?_)) hm
  subst e
  cases r3
  refine wpAny_truthy_bool ?_
  cases k with
  | false => exact ite_ff ⟨.bl false, H3, I3, rfl, q3⟩
  | true => exact ite_tt (chain_last (thn (hc pins s3 σ H3 _ I3 q3) fun w' s4 ⟨z', H4, I4, r4, q4⟩ => ho' pins s4 σ H4 y z' u w' Q I4 r2 r4 q4))
theorem pt_chain {op op' : CmpOp} {r r' : R2} (ho : OpR X (compareOp op) r) (ho' : OpR X (compareOp op') r') (ha : PE X a ta) (hb : PE X b tb) (hc : PE X c tc)
    (hm : lastMarks [op, op'] [b, c] = false := by with_unfolding_all rfl) : PT X (.Compare a [op, op'] [b, c] pos) (tTest (tChain r r' ta tb tc)) := by
  intro pins s σ H Q I h
  refine isTrue_chain (thn (ha pins s σ H _ I h) fun v s1 ⟨x, H1, I1, r1, q1⟩ => test_link (thn (hb pins s1 σ H1 _ I1 q1) fun u s2 ⟨y, H2, I2, r2, q2⟩ =>
    thn (ho pins s2 σ H2 x y v u _ I2 r1 r2 q2) fun d s3 ⟨z, H3, I3, r3, k, e, q3⟩ => ?_)) hm
  subst e
  cases r3
  refine wpAny_truthy_bool ?_
  cases k with
  | false =>
    obtain ⟨k', e', q'⟩ := q3
    cases e'
    exact ite_ff ⟨H3, I3, q'⟩
  | true =>
    refine ite_tt (test_last (thn (hc pins s3 σ H3 _ I3 q3) fun w' s4 ⟨z', H4, I4, r4, q4⟩ => thn (ho' pins s4 σ H4 y z' u w' _ I4 r2 r4 q4) fun d' s5 ⟨z2, H5, I5, r5, k2, e2, q5⟩ => ?_))
    subst e2
    cases r5
    exact wpAny_truthy_bool ⟨H5, I5, q5⟩
/-! ### truth -/
/-- a value's truth by the abstract heap -/
def TruV (K : PySem.W.Frag) (x : V) (H : Hp) (k : Bool) : Prop :=
  match x with
  | .non => k = false
  | .bl b => k = b
  | .int i => k = (i != 0)
  | .str y => y.length ≤ sizeLine ∧ k = ((y.length : Int) != 0)
  | .byt y => y.size ≤ sizeLine ∧ k = ((y.size : Int) != 0)
  | .ref p => (∃ xs, SqL K H p xs ∧ k = !xs.isEmpty) ∨ (∃ xs, SqT K H p xs ∧ k = !xs.isEmpty) ∨ ∃ kvs, H p = some (.dK kvs) ∧ k = !kvs.isEmpty
  | _ => False
theorem isEmpty_kv {κ : Type} {kvs : List (κ × V)} {vs : List (κ × Value)} (r : KV kvs vs) : (!vs.isEmpty) = !kvs.isEmpty := by
  cases r <;> rfl
theorem isEmpty_of {xs : List V} {its : List Value} (r : Vals xs its) : (!its.toArray.isEmpty) = !xs.isEmpty := by
  cases r <;> simp
theorem line63 : (sizeLine : Nat) < 2 ^ 63 := by rw [sizeLine_eq]; decide
theorem tru_ok : TruR X (fun x H Q => ∃ k, TruV X.K x H k ∧ Q k H) := by
  intro pins s σ H x v Q I rx h
  obtain ⟨k, e, q⟩ := h
  have hl := line63
  have hs : sizeLine = 16777216 := sizeLine_eq
  cases x with
  | non =>
    cases rx
    have e' : k = false := e
    subst e'
    exact truthy_none ⟨H, I, q⟩
  | bl b =>
    cases rx
    have e' : k = b := e
    subst e'
    exact wpAny_truthy_bool ⟨H, I, q⟩
  | int i =>
    obtain ⟨t, rfl⟩ := rx
    have e' : k = (i != 0) := e
    subst e'
    exact PySem.P.truthy_int ⟨H, I, q⟩
  | str y =>
    obtain ⟨t, rfl⟩ := rx
    obtain ⟨hy, e'⟩ : y.length ≤ sizeLine ∧ k = ((y.length : Int) != 0) := e
    subst e'
    exact PySem.P.truthy_str (by omega) ⟨H, I.tok _, q⟩
  | byt y =>
    obtain ⟨t, rfl⟩ := rx
    obtain ⟨hy, e'⟩ : y.size ≤ sizeLine ∧ k = ((y.size : Int) != 0) := e
    subst e'
    exact PySem.W.truthy_bytes (by omega) ⟨H, I.tok _, q⟩
  | ref p =>
    cases rx
    have e' : (∃ xs, SqL X.K H p xs ∧ k = !xs.isEmpty) ∨ (∃ xs, SqT X.K H p xs ∧ k = !xs.isEmpty) ∨ ∃ kvs, H p = some (.dK kvs) ∧ k = !kvs.isEmpty := e
    rcases e' with ⟨xs, hx, e'⟩ | ⟨xs, hx, e'⟩ | ⟨kvs, hx, e'⟩
    · subst e'
      obtain ⟨its, r, pl, hz⟩ := I.list hx
      have hlen := r.length
      exact wpAny_truthy_list pl.isList (by simp only [List.size_toArray]; omega) ⟨H, I.tok _, by rw [isEmpty_of r]; exact q⟩
    · subst e'
      obtain ⟨its, r, pl, hz⟩ := I.tuple hx
      have hlen := r.length
      exact truthy_tuple pl (by simp only [List.size_toArray]; omega) ⟨H, I.tok _, by rw [isEmpty_of r]; exact q⟩
    · subst e'
      obtain ⟨hz, hS, vs, r, m⟩ : kvs.length ≤ sizeLine ∧ (p == sysModules) = false ∧ ∃ vs, KV kvs vs ∧ s.heap.DictOf (mixKind X.prog X.w) p vs := I.hok p _ hx
      have hlen : kvs.length = vs.length := Paired.length r
      exact wpAny_truthy_dict hS m (by omega) ⟨H, I.tok _, by rw [isEmpty_kv r]; exact q⟩
  | _ => exact (show False from e).elim
/-- any expression whose test is its value's truth (a name, a call, a subscript, a field ..: he by fun _ => rfl) -/
theorem pt_truth (ha : PE X a ta) (he : ∀ whole, isTrue a X.env whole = (do let v ← whole; standAt a.pos; holding [v] (truthy v))) :
    PT X a (fun σ H Q => ta σ H fun x H' => ∃ k, TruV X.K x H' k ∧ Q k H') := by
  intro pins s σ H Q I h
  exact isTrue_plain (thn (ha pins s σ H _ I h) fun v s1 ⟨x, H1, I1, r1, q1⟩ => tru_ok pins s1 σ H1 x v Q I1 r1 q1) (he _)
/-! ### strs and bytes -/
theorem op_add_str : OpR X (binaryOp .Add) (fun x y H Q => ∃ i j, x = .str i ∧ y = .str j ∧ i.length + j.length ≤ sizeLine ∧ Q (.str (i ++ j)) H) := by
  intro pins s σ H x y v u Q I rx ry h
  obtain ⟨i, j, rfl, rfl, hz, q⟩ := h
  obtain ⟨t, rfl⟩ := rx
  obtain ⟨t', rfl⟩ := ry
  exact add_str (fun t' tk => ⟨.str (i ++ j), H, I.tok _, ⟨_, rfl⟩, q⟩) hz
/-! ### scalar builtins, by CallR -/
theorem vals1 {x : V} {us : List Value} (r : Vals [x] us) : ∃ u, us = [u] ∧ RelV x u := by
  cases r with
  | cons r1 r2 => cases r2; exact ⟨_, rfl, r1⟩
theorem vals2 {x y : V} {us : List Value} (r : Vals [x, y] us) : ∃ u w', us = [u, w'] ∧ RelV x u ∧ RelV y w' := by
  cases r with
  | cons r1 r2 =>
    cases r2 with
    | cons r3 r4 => cases r4; exact ⟨_, _, rfl, r1, r3⟩
theorem call_min2 (hc : X.calm = true) : CallR X (.builtin "min") (fun xs H Q => ∃ i j, xs = [.int i, .int j] ∧ Q (.int (if j < i then j else i)) H) := by
  intro pins s σ H xs us Q I r h
  obtain ⟨i, j, rfl, q⟩ := h
  obtain ⟨u, w', rfl, ⟨t, rfl⟩, ⟨t', rfl⟩⟩ := vals2 r
  refine min_two_ints (I.ok.hd hc) fun h' tk k => ⟨_, H, I.kept k, ?_, q⟩
  by_cases hj : j < i
  · rw [if_pos hj, if_pos hj]; exact ⟨_, rfl⟩
  · rw [if_neg hj, if_neg hj]; exact ⟨_, rfl⟩
theorem call_int1 : CallR X (.type "int") (fun xs H Q => (∃ i, xs = [.int i] ∧ Q (.int i) H) ∨ ∃ k, xs = [.bl k] ∧ Q (.int (if k then 1 else 0)) H) := by
  intro pins s σ H xs us Q I r h
  rcases h with ⟨i, rfl, q⟩ | ⟨k, rfl, q⟩
  · obtain ⟨u, rfl, t, rfl⟩ := vals1 r
    exact call_int_int ⟨.int i, H, I, ⟨_, rfl⟩, q⟩
  · obtain ⟨u, rfl, r1⟩ := vals1 r
    cases r1
    exact call_int_bool ⟨.int (if k then 1 else 0), H, I.tok _, ⟨_, rfl⟩, q⟩
/-- len of a str, a bytes, a list, a tuple -/
def LenV (K : PySem.W.Frag) (x : V) (H : Hp) (n : Nat) : Prop :=
  match x with
  | .str y => y.length ≤ sizeLine ∧ n = y.length
  | .byt y => y.size ≤ sizeLine ∧ n = y.size
  | .ref p => (∃ xs, SqL K H p xs ∧ n = xs.length) ∨ ∃ xs, SqT K H p xs ∧ n = xs.length
  | _ => False
theorem call_len : CallR X (.builtin "len") (fun xs H Q => ∃ x n, xs = [x] ∧ LenV X.K x H n ∧ Q (.int n) H) := by
  intro pins s σ H xs us Q I r h
  obtain ⟨x, n, rfl, e, q⟩ := h
  obtain ⟨u, rfl, rx⟩ := vals1 r
  have hl := line63
  have hs : sizeLine = 16777216 := sizeLine_eq
  cases x with
  | str y =>
    obtain ⟨t, rfl⟩ := rx
    obtain ⟨hy, e'⟩ : y.length ≤ sizeLine ∧ n = y.length := e
    subst e'
    exact len_str (by omega) ⟨.int _, H, I.tok _, ⟨_, rfl⟩, q⟩
  | byt y =>
    obtain ⟨t, rfl⟩ := rx
    obtain ⟨hy, e'⟩ : y.size ≤ sizeLine ∧ n = y.size := e
    subst e'
    exact PySem.W.len_bytes (by omega) ⟨.int _, H, I.tok _, ⟨_, rfl⟩, q⟩
  | ref p =>
    cases rx
    have e' : (∃ xs, SqL X.K H p xs ∧ n = xs.length) ∨ ∃ xs, SqT X.K H p xs ∧ n = xs.length := e
    rcases e' with ⟨xs, hx, e'⟩ | ⟨xs, hx, e'⟩
    · subst e'
      obtain ⟨its, r', pl, hz⟩ := I.list hx
      have hlen := r'.length
      exact Calls.call_len_list pl.isList (by simp only [List.size_toArray]; omega) ⟨.int xs.length, H, I.tok _, ⟨_, by simp only [List.size_toArray]; rw [hlen]⟩, q⟩
    · subst e'
      obtain ⟨its, r', pl, hz⟩ := I.tuple hx
      have hlen := r'.length
      exact len_tuple pl (by simp only [List.size_toArray]; omega) ⟨.int xs.length, H, I.tok _, ⟨_, by simp only [List.size_toArray]; rw [hlen]⟩, q⟩
  | _ => exact (show False from e).elim
end
end L2
namespace L2
open PySem PySem.Spec PyProof.Rows
/-! ### an instance, its attributes a map -/
structure ObjM (h : Heap) (x dx C : Addr) (mA : Str → Option Value) : Prop where
  obj : h.get? x = some (PySem.W.instObj C dx)
  ns : h.Ns1 dx mA
  ne : dx ≠ x
theorem lookIn_ns {h : Heap} {dx : Addr} {mA : Str → Option Value} (n : h.Ns1 dx mA) : ∃ od, h.get? dx = some od ∧ ∀ name, PySem.W.lookIn name od = some (mA name) := by
  obtain ⟨o, es, ep, ho, hd, hk, _, hm⟩ := n
  refine ⟨o, ho, fun name => ?_⟩
  have e := hm name
  unfold nsFind findBy at e
  rw [← Array.find?_toList] at e
  unfold PySem.W.lookIn
  rw [hd]
  dsimp only
  split
  · rename_i y q
    rw [q] at e
    exact congrArg some e
  · rename_i q
    rw [q] at e
    have a : es.toList.any (·.refKey) = false := by
      rw [List.any_eq_false]
      intro y hy
      obtain ⟨z, t, hkey⟩ := hk y (Array.mem_toList_iff.mp hy)
      simp [DictEntry.refKey, hkey]
    have a' : ¬ es.toList.any (·.refKey) = true := by rw [a]; exact Bool.false_ne_true
    rw [if_neg a']
    exact congrArg some e
theorem ObjM.look {h : Heap} {x dx C : Addr} {mA : Str → Option Value} (I : ObjM h x dx C mA) : ∃ od, PySem.W.InstAt h x (PySem.W.instObj C dx) C (some od) ∧ ∀ name, PySem.W.lookIn name od = some (mA name) :=
  let ⟨od, ho, hl⟩ := lookIn_ns I.ns
  ⟨od, ⟨I.obj, rfl, rfl, ho⟩, hl⟩
section
variable {prog : Program} {w : World} {A : Around} {E : Value → Shared → Prop} {s : Shared} {K : PySem.W.Frag} {x dx C f : Addr} {mA : Str → Option Value} {name : Str} {v : Value}
end
/-! ### the attributes as a list of pairs -/
section
variable {P : Program} {w : World} {H H' : Hp} {h h' : Heap} {a C dx : Addr} {fs fs' : List (Str × V)}
theorem ins_get (hok : HOk P w H h) (e : H a = some (.ins C dx fs)) : ∃ mA, ObjM h a dx C mA ∧ (∀ f, RelO (fs.lookup f) (mA f)) ∧ PySem.Within mA (fs.map (·.1)) ∧ fs.length ≤ 1000 ∧ H dx = some (.own a) := by
  obtain ⟨d, z, ne, ob, mA, n, r, q⟩ := (show ObjOk P w H h a (.ins C dx fs) from hok a _ e)
  exact ⟨mA, ⟨ob, n, ne⟩, r, q, z, d⟩
end
/-! ### what of the text a class must have -/
structure Cls (K : PySem.W.Frag) (C : Addr) : Prop where
  pg : PySem.W.plainGet K C Str.empty = true
  hd : PySem.W.hasDictIn K C = true
  po : PySem.W.plainOver K C = true
  sa : PySem.W.findIn K (.ref C) "__setattr__" = some (some (.builtin "object.__setattr__"))
theorem Cls.get {K : PySem.W.Frag} {C : Addr} (c : Cls K C) (f : Str) : PySem.W.plainGet K C f = true := c.pg
/-- a constant of the class -/
structure Con (K : PySem.W.Frag) (C : Addr) (f : Str) (v : V) (u : Value) : Prop where
  at_ : PySem.W.findIn K (.ref C) f = some (some u)
  rel : RelV v u
  get : PySem.W.specialIn K u "__get__" = some none
  cp : PySem.W.copiedNames.contains f = false
/-- a method: a plain def of the class or of one above it -/
structure Meth (K : PySem.W.Frag) (C : Addr) (m : Str) (f : Addr) : Prop where
  at_ : PySem.W.findIn K (.ref C) m = some (some (.ref f))
  fn : PySem.W.isFn K (.ref f) = true
  kp : PySem.W.keepIn K (.ref f) = true
section
variable {X : Cx} {pins : List (Addr × Obj)} {σ : St} {H : Hp} {s : Shared} {a C dx : Addr} {fs : List (Str × V)} {f : Str} {v : V} {A : Around} {E : Value → Shared → Prop}
/-- a new instance, tracked, without attributes -/
theorem Inv.made (I : Inv X pins σ H s) : Inv X pins σ (upd (upd H s.heap.objs.size (.own (s.heap.objs.size + 1))) (s.heap.objs.size + 1) (.ins C s.heap.objs.size []))
    { s with heap := (s.heap.push PySem.W.emptyDict).push (PySem.W.instObj C s.heap.objs.size) } := by
  have e1 : (s.heap.push PySem.W.emptyDict).get? s.heap.objs.size = some PySem.W.emptyDict := Heap.get?_push_size s.heap rfl
  have e2 : ((s.heap.push PySem.W.emptyDict).push (PySem.W.instObj C s.heap.objs.size)).get? (s.heap.objs.size + 1) = some (PySem.W.instObj C s.heap.objs.size) := by
    have := Heap.get?_push_size (s.heap.push PySem.W.emptyDict) (o := PySem.W.instObj C s.heap.objs.size) rfl
    rwa [Heap.size_push] at this
  have e3 : (s.heap.push PySem.W.emptyDict).Ns s.heap.objs.size (fun _ => none) := ⟨PySem.W.emptyDict, #[], _, e1, rfl, (fun e he => absurd he (by simp)), fun _ => rfl⟩
  have I1 := I.laid (a := s.heap.objs.size) (o := .own (s.heap.objs.size + 1)) (h' := s.heap.push PySem.W.emptyDict) (t' := s.toks) (fun b u q => Heap.get?_push_of_some _ q) (Nat.le_refl _) ⟨_, e1⟩
  refine I1.laid (a := s.heap.objs.size + 1) (o := .ins C s.heap.objs.size []) (t' := s.toks) (fun b u q => Heap.get?_push_of_some _ q) (Nat.le_of_eq (Heap.size_push _ _)) ?_
  have ne : s.heap.objs.size ≠ s.heap.objs.size + 1 := Nat.ne_of_lt (Nat.lt_succ_self _)
  refine ⟨by rw [upd_ne ne, upd_same], Nat.zero_le _, ne, e2, fun _ => none, (Heap.Ns1.of_empty e3).at fun o q => Heap.get?_push_of_some _ q, fun _ => True.intro, fun y hy => absurd rfl hy⟩
end
/-! ### readings and rules -/
section
variable {X : Cx} {o e value : Expr} {f : Str} {pos pos' tpos : Pos} {ta tv : TE}
end
/-! ### isinstance -/
section
variable {X : Cx} {pins : List (Addr × Obj)} {σ : St} {H : Hp} {s : Shared} {A : Around} {E : Value → Shared → Prop} {Q : Value → Shared → Prop} {c : Value} {b : Bool}
/-- the type of a value, as the fragment's deciders take it; for an instance its class -/
inductive TyOf (K : PySem.W.Frag) (H : Hp) : V → Value → Prop where
  | non : TyOf K H .non (.type "NoneType")
  | bl (x : Bool) : TyOf K H (.bl x) (.type "bool")
  | int (i : Int) : TyOf K H (.int i) (.type "int")
  | str (x : Str) : TyOf K H (.str x) (.type "str")
  | flt (x : UInt64) : TyOf K H (.flt x) (.type "float")
  | lst {a : Addr} {xs : List V} (e : H a = some (.lst xs)) : TyOf K H (.ref a) (.type "list")
  | frz {a : Addr} {o : Obj} {xs : List V} (e : H a = some (.frz o (.lst xs))) : TyOf K H (.ref a) (.type "list")
  | tup {a : Addr} {xs : List V} (e : H a = some (.tup xs)) : TyOf K H (.ref a) (.type "tuple")
  | dK {a : Addr} {kvs : List (Key × V)} (e : H a = some (.dK kvs)) : TyOf K H (.ref a) (.type "dict")
  | dT {a : Addr} {kvs : List (List Key × V)} (e : H a = some (.dT kvs)) : TyOf K H (.ref a) (.type "dict")
  | ins {a C dx : Addr} {fs : List (Str × V)} (e : H a = some (.ins C dx fs)) (cl : Cls K C) (ha : PySem.W.findIn K (.ref C) "__class__" = some (some (.builtin "object.__class__")))
      (hn : PySem.W.specialIn K (.builtin "object.__class__") "__get__" = some (some (.builtin "getset_descriptor.__get__"))) (htk : PySem.W.takesIn K (.builtin "object.__class__") = some true)
      (hm : PySem.W.mroIn K C (.type "object") = some true) : TyOf K H (.ref a) (.ref C)
/-- isinstance(x, c) for one class c, a built-in or an own one: kitOne's answer -/
theorem isinst_ok {x : V} {u t : Value} (I : Inv X pins σ H s) (rx : RelV x u) (ty : TyOf X.K H x t) (e : PySem.W.kitOne X.K t c = some b) (h : ∀ tk, Q (.bool b) { s with toks := tk }) :
    wpAny (model X.prog X.w) A (call (.builtin "isinstance") [u, c]) Q E s := by
  cases ty with
  | non => cases (show u = Value.none from rx); exact PySem.W.kia_one PySem.W.kitx_none I.kIn True.intro e (fun z => nomatch z) h
  | bl y => cases (show u = Value.bool y from rx); exact PySem.W.kia_one PySem.W.kitx_bool I.kIn True.intro e (fun z => nomatch z) h
  | int i => obtain ⟨t, q⟩ := (show ∃ t, u = Value.int i t from rx); cases q; exact PySem.W.kia_one PySem.W.kitx_int I.kIn True.intro e (fun z => nomatch z) h
  | str y => obtain ⟨t, q⟩ := (show ∃ t, u = Value.str y t from rx); cases q; exact PySem.W.kia_one PySem.W.kitx_str I.kIn True.intro e (fun z => nomatch z) h
  | flt y => obtain ⟨t, q⟩ := (show ∃ t, u = Value.float y t from rx); cases q; exact PySem.W.kia_one PySem.W.kitx_float I.kIn True.intro e (fun z => nomatch z) h
  | @lst a xs ea =>
    cases (show u = Value.ref a from rx)
    obtain ⟨_, _, n, _, h1⟩ := (show ObjOk X.prog X.w H s.heap a (.lst xs) from I.hok a _ ea)
    exact PySem.W.kia_one PySem.W.kitx_list I.kIn ⟨_, h1, rfl⟩ e (fun z => nomatch z) h
  | @frz a ob xs ea =>
    cases (show u = Value.ref a from rx)
    obtain ⟨_, _, _, n, _, h1⟩ := (show ObjOk X.prog X.w H s.heap a (.frz ob (.lst xs)) from I.hok a _ ea)
    exact PySem.W.kia_one PySem.W.kitx_list I.kIn ⟨_, h1, rfl⟩ e (fun z => nomatch z) h
  | @tup a xs ea =>
    cases (show u = Value.ref a from rx)
    obtain ⟨_, _, _, p⟩ := (show ObjOk X.prog X.w H s.heap a (.tup xs) from I.hok a _ ea)
    obtain ⟨o, h1, h2, _⟩ := p
    exact PySem.W.kia_one PySem.W.kitx_tuple I.kIn ⟨o, h1, h2⟩ e (fun z => nomatch z) h
  | @dK a kvs ea =>
    cases (show u = Value.ref a from rx)
    obtain ⟨_, _, vs, _, p⟩ := (show ObjOk X.prog X.w H s.heap a (.dK kvs) from I.hok a _ ea)
    obtain ⟨o, es, ep, h1, h2, _⟩ := p
    exact PySem.W.kia_one PySem.W.kitx_dict I.kIn ⟨o, h1, h2.1⟩ e (fun z => nomatch z) h
  | @dT a kvs ea =>
    cases (show u = Value.ref a from rx)
    obtain ⟨_, _, xs, _, o, es, ep, h1, h2, _⟩ := (show ObjOk X.prog X.w H s.heap a (.dT kvs) from I.hok a _ ea)
    exact PySem.W.kia_one PySem.W.kitx_dict I.kIn ⟨o, h1, h2.1⟩ e (fun z => nomatch z) h
  | @ins a C dx fs ea cl ha hn htk hm =>
    cases (show u = Value.ref a from rx)
    obtain ⟨mA, O, _⟩ := ins_get I.hok ea
    obtain ⟨od, J, _⟩ := O.look
    exact PySem.W.kia_one (PySem.W.kitx_own (cl.get _) cl.hd ha hn htk hm) I.kIn J e (fun z => nomatch z) h
end
end L2
namespace L2
open PySem PySem.Spec PyProof.Rows
/-! ### room -/
structure Room (k : Nat) (A : Around) : Prop where
  hd : A.handled = none
  dp : A.depth + 3 * k + 5 < recursionLimit
  un : A.units + 16 * k + 200 < cLine
theorem Room.mono {j k : Nat} {A : Around} (r : Room k A) (h : j ≤ k) : Room j A := ⟨r.hd, by have := r.dp; omega, by have := r.un; omega⟩
theorem Room.deeper {k : Nat} {A : Around} (r : Room (k + 1) A) (env : Env) : Room k (A.deeper env) :=
  ⟨r.hd, by have := r.dp; show A.depth + 1 + 3 * k + 5 < _; omega, by have := r.un; show A.units + 3 + 16 * k + 200 < _; omega⟩
theorem Room.in1 {k : Nat} {A : Around} (r : Room (k + 1) A) : Room k A.in1 :=
  ⟨r.hd, by have := r.dp; show A.depth + 3 * k + 5 < _; omega, by have := r.un; show A.units + 1 + 16 * k + 200 < _; omega⟩
theorem make_depth {A : Around} {C : Addr} {us : List Value} {kw : List (Str × Value)} : (A.under (.builtin "type.__call__" ⟨.ref C :: us, kw⟩)).depth = A.depth + 1 := by
  first | rfl | simp [Around.under, Code.weight, Code.isCreation, Code.isGuard, Code.isCaller, Code.frames, Code.isFrame, guardIds]
theorem make_units {A : Around} {C : Addr} {us : List Value} {kw : List (Str × Value)} : (A.under (.builtin "type.__call__" ⟨.ref C :: us, kw⟩)).units = A.units + 1 := by
  first | rfl | simp [Around.under, Code.cUnits, Code.frames, Code.isFrame]
theorem Room.make {k : Nat} {A : Around} (r : Room (k + 1) A) (C : Addr) (us : List Value) (kw : List (Str × Value)) : Room k (A.under (.builtin "type.__call__" ⟨.ref C :: us, kw⟩)) :=
  ⟨r.hd, by have := r.dp; rw [make_depth]; omega, by have := r.un; rw [make_units]; omega⟩
theorem Room.depth {k : Nat} {A : Around} (r : Room k A) : A.depth < recursionLimit := by have := r.dp; omega
theorem Room.units {k : Nat} {A : Around} (r : Room k A) : A.units + 64 < cLine := by have := r.un; omega
/-! ### argument lists and displays -/
def tNil : TA := fun _ H Q => Q [] H
def tCons (ta : TE) (tr : TA) : TA := fun σ H Q => ta σ H fun x H1 => tr σ H1 fun xs H2 => Q (x :: xs) H2
section
variable {X : Cx} {e : Expr} {es : List Expr} {te : TE} {t : TA} {pos : Pos}
theorem pa_nil : PA X [] tNil := fun _ _ _ _ H Q I h => Calls.spliced_nil ⟨[], H, I, .nil, h⟩
theorem pa_cons (ha : PE X e te) (hr : PA X es t) (hs : starEach (e :: es) X.env = (false, eval e X.env) :: starEach es X.env := by rfl) : PA X (e :: es) (tCons te t) := by
  intro pos pins s σ H Q I h
  rw [hs]
  show wpAny _ _ (spliced ((false, eval e X.env) :: backTo pos (starEach es X.env))) _ _ s
  refine Calls.spliced_cons (thn (ha pins s σ H _ I h) fun u s1 ⟨x, H1, I1, r1, q1⟩ => ?_)
  exact thn (hr pos pins s1 σ H1 _ I1 q1) fun us s2 ⟨xs, H2, I2, r2, q2⟩ => ⟨x :: xs, H2, I2, .cons r1 r2, q2⟩
/-- a tuple, a list of written items -/
def tTup (t : TA) : TE := fun σ H Q => t σ H fun xs H1 => xs.length ≤ sizeLine ∧ ∀ p, H1 p = none → Q (.ref p) (upd H1 p (.tup xs))
def tLst (t : TA) : TE := fun σ H Q => t σ H fun xs H1 => xs.length ≤ sizeLine ∧ ∀ p, H1 p = none → Q (.ref p) (upd H1 p (.lst xs))
theorem pe_tup {x1} (h : PA X es t) : PE X (.Tuple es x1 pos) (tTup t) := by
  intro pins s σ H Q I hq
  refine wpAny_Tuple_spliced (thn (h pos pins s σ H _ I hq) fun us s1 ⟨xs, H1, I1, r, z, q⟩ => ⟨by rw [← r.length]; exact z, ?_⟩)
  have hf : H1 s1.heap.objs.size = none := I1.hok.fresh (Nat.le_refl _)
  refine ⟨.ref s1.heap.objs.size, upd H1 s1.heap.objs.size (.tup xs), I1.laid (t' := s1.toks) (fun b u e => Heap.get?_push_of_some _ e) (Nat.le_refl _) ?_, rfl, q _ hf⟩
  exact ⟨z, us, r, ⟨_, Heap.get?_push_size _ rfl, rfl, _, rfl⟩⟩
theorem pe_lst (h : PA X es t) : PE X (.List es pos) (tLst t) := by
  intro pins s σ H Q I hq
  refine wpAny_List_spliced (thn (h pos pins s σ H _ I hq) fun us s1 ⟨xs, H1, I1, r, z, q⟩ => ⟨by rw [← r.length]; exact z, ?_⟩)
  have hf : H1 s1.heap.objs.size = none := I1.hok.fresh (Nat.le_refl _)
  refine ⟨.ref s1.heap.objs.size, upd H1 s1.heap.objs.size (.lst xs), I1.laid (t' := s1.toks) (fun b u e => Heap.get?_push_of_some _ e) (Nat.le_refl _) ?_, rfl, q _ hf⟩
  exact ⟨z, us, 0, r, Heap.get?_push_size _ rfl⟩
end
/-! ### what a def promises -/
/-- a def's promise: the bound arguments in the parameters' order, the heap, the wanted end, the wanted exception -/
abbrev Sp := List V → Hp → VK → XK → Prop
/-- how an exception lies behind a call (file 08 gives it): the callers' frames, abstract heap and state ahead of the call, the wish, the exception, the state -/
abbrev CXT := List Env → Hp → Shared → XK → Value → Shared → Prop
/-- the state at a call -/
structure Env0 (P : Program) (w : World) (K : PySem.W.Frag) (mg : Str → Option Value) (base : Heap) (A : Around) (outer : List Env) (s : Shared) (H : Hp) : Prop where
  frames : A.frames = some outer
  mod : Mod K mg base
  bs : ∀ b o, base.get? b = some o → s.heap.get? b = some o ∧ H b = none
  bsz : base.objs.size ≤ s.heap.objs.size
  funs : s.heap.FunFrames base outer
  frf : ∀ b ∈ frs outer, H b = none
  hok : HOk P w H s.heap
  bare : AllBare s.gens
/-- a call's end -/
def CE (outer : List Env) (P : Program) (w : World) (H : Hp) (s : Shared) (Q : VK) (u : Value) (s' : Shared) : Prop :=
  ∃ v H', s'.os = s.os ∧ AllBare s'.gens ∧ Un (frs outer) [] H H' s.heap s'.heap ∧ HOk P w H' s'.heap ∧ RelV v u ∧ Q v H'
def CR (CX : CXT) (outer : List Env) (P : Program) (w : World) (H : Hp) (s : Shared) (Q : VK) (E : XK) (r : Result) (s' : Shared) : Prop :=
  match r with
  | .ok (.ret u) => CE outer P w H s Q u s'
  | .ok _ => False
  | .error e => CX outer H s E e s'
structure FnOk (P : Program) (w : World) (K : PySem.W.Frag) (mg : Str → Option Value) (base : Heap) (CX : CXT) (k : Nat) (f : Addr) (fd : FuncData) (ps : List Str) (sp : Sp) : Prop where
  len : ∀ vs H Q E, sp vs H Q E → vs.length = ps.length
  run : ∀ (A : Around) (outer : List Env) (s : Shared) (H : Hp) (args : Args) (us : List Value) (vs : List V) (Q : VK) (E : XK), Room k A → Env0 P w K mg base A outer s H → BindsTo s fd args (ps.zip us) → Vals vs us → sp vs H Q E →
    codeAny (model P w) A (.call (.ref f) args) (CR CX outer P w H s Q E) s
theorem FnOk.mono {P : Program} {w : World} {K : PySem.W.Frag} {mg : Str → Option Value} {base : Heap} {CX : CXT} {j k : Nat} {f : Addr} {fd : FuncData} {ps : List Str} {sp : Sp} (F : FnOk P w K mg base CX j f fd ps sp) (h : j ≤ k) :
    FnOk P w K mg base CX k f fd ps sp := ⟨F.len, fun A outer s H args us vs Q E hr => F.run A outer s H args us vs Q E (hr.mono h)⟩
/-- a weaker promise -/
theorem FnOk.imp {P : Program} {w : World} {K : PySem.W.Frag} {mg : Str → Option Value} {base : Heap} {CX : CXT} {k : Nat} {f : Addr} {fd : FuncData} {ps : List Str} {sp sp' : Sp} (F : FnOk P w K mg base CX k f fd ps sp)
    (h : ∀ vs H Q E, sp' vs H Q E → sp vs H Q E) : FnOk P w K mg base CX k f fd ps sp' :=
  ⟨fun vs H Q E q => F.len vs H Q E (h _ _ _ _ q), fun A outer s H args us vs Q E hr he hb hv hs => F.run A outer s H args us vs Q E hr he hb hv (h _ _ _ _ hs)⟩
theorem Env0.make {P : Program} {w : World} {K : PySem.W.Frag} {mg : Str → Option Value} {base : Heap} {A : Around} {outer : List Env} {s : Shared} {H : Hp} (e : Env0 P w K mg base A outer s H) (C : Addr) (us : List Value) (kw : List (Str × Value)) :
    Env0 P w K mg base (A.under (.builtin "type.__call__" ⟨.ref C :: us, kw⟩)) outer s H := ⟨by first | exact e.frames | (simpa [Around.under, Code.envs, Code.isFrame, pushEnvs] using e.frames), e.mod, e.bs, e.bsz, e.funs, e.frf, e.hok, e.bare⟩
theorem Env0.in1 {P : Program} {w : World} {K : PySem.W.Frag} {mg : Str → Option Value} {base : Heap} {A : Around} {outer : List Env} {s : Shared} {H : Hp} (e : Env0 P w K mg base A outer s H) :
    Env0 P w K mg base A.in1 outer s H := ⟨e.frames, e.mod, e.bs, e.bsz, e.funs, e.frf, e.hok, e.bare⟩
section
variable {X : Cx} {pins : List (Addr × Obj)} {σ : St} {H : Hp} {s s' : Shared}
/-- from a body: what a callee wants -/
theorem Inv.env0 (I : Inv X pins σ H s) : Env0 X.prog X.w X.K X.mg X.base X.A X.stack s H :=
  ⟨I.ok.frames, I.ok.mod, I.bs, Nat.le_trans I.ok.bsz I.sz, I.stack, I.stkFree, I.hok, I.bare⟩
/-- behind a call -/
theorem Inv.after {Q : VK} {u : Value} (I : Inv X pins σ H s) (h : CE X.stack X.prog X.w H s Q u s') : EP X pins σ Q u s' := by
  obtain ⟨v, H', os, bare, un, hok, r, q⟩ := h
  obtain ⟨hh, g, d, t, os'⟩ := s'
  obtain rfl : os' = s.os := os
  exact ⟨v, H', I.call (h' := hh) (g' := g) (d' := d) (t' := t) (ch := []) un hok bare (fun b z => absurd z (by simp)), r, q⟩
end
/-! ### calls -/
/-- f(..): the written arguments, then the defaults dvs; E: what is wanted of an exception -/
def tCall (sp : Sp) (dvs : List V) (E : XK) (t : TA) : TE := fun σ H Q => t σ H fun vs H1 => sp (vs ++ dvs) H1 Q E
/-- how the parameters are bound: us the positional arguments, kw the keywords' values by name, ds the defaults that fill up -/
def Binds (K : PySem.W.Frag) (fd : FuncData) (ps : List Str) (ds : List Value) : Prop :=
  ∀ (s : Shared) (us : List Value), K.In s.heap → (us ++ ds).length = ps.length → BindsTo s fd ⟨us, []⟩ (ps.zip (us ++ ds))
/-- every parameter is given -/
theorem Binds.all {K : PySem.W.Frag} {fd : FuncData} {ps : List Str} (h : ∀ us : List Value, us.length = ps.length → bindArgs fd ⟨us, []⟩ = pure (ps.zip us)) : Binds K fd ps [] := fun s us _ hl => by
  rw [List.append_nil] at hl ⊢
  exact .of_eq (h us hl)
/-- an exception of a callee reaches what this body wants of exceptions -/
def Passes (CX : CXT) (X : Cx) (E : XK) : Prop := ∀ (pins : List (Addr × Obj)) (σ : St) (H : Hp) (s : Shared) (e : Value) (s' : Shared), Inv X pins σ H s → CX X.stack H s E e s' → X.xe e s'
section
variable {X : Cx} {CX : CXT} {k : Nat} {f C : Addr} {fd : FuncData} {ps : List Str} {sp : Sp} {dvs : List V} {ds : List Value} {E : XK} {x m : Str} {p pos apos : Pos} {e o : Expr} {es : List Expr} {ta : TE} {t : TA}
/-- the callee runs -/
theorem run_fn {pins : List (Addr × Obj)} {σ : St} {H : Hp} {s : Shared} {Q : VK} {us : List Value} {vs : List V} (F : FnOk X.prog X.w X.K X.mg X.base CX k f fd ps sp) (hr : Room k X.A) (hb : Binds X.K fd ps ds) (hd : Vals dvs ds) (hx : Passes CX X E)
    (I : Inv X pins σ H s) (r : Vals vs us) (h : sp (vs ++ dvs) H Q E) : wpAny (model X.prog X.w) X.A (call (.ref f) us) (EP X pins σ Q) X.xe s := by
  have r2 : Vals (vs ++ dvs) (us ++ ds) := r.append hd
  have hl : (us ++ ds).length = ps.length := by rw [← r2.length]; exact F.len _ _ _ _ h
  refine wpAny_call (codeAny_mono (F.run X.A X.stack s H ⟨us, []⟩ (us ++ ds) (vs ++ dvs) Q E hr I.env0 (hb s us I.kIn hl) r2 h) fun r s' hq => ?_)
  cases r with
  | error e => exact hx pins σ H s e s' I hq
  | ok fl =>
    cases fl with
    | ret u => exact I.after hq
    | next => exact False.elim hq
    | brk => exact False.elim hq
    | cont => exact False.elim hq
theorem pe_call (F : FnOk X.prog X.w X.K X.mg X.base CX k f fd ps sp) (hr : Room k X.A) (hg : Gl X x) (hm : X.mg x = some (.ref f)) (hk : PySem.W.keepIn X.K (.ref f) = true) (hb : Binds X.K fd ps ds) (hd : Vals dvs ds) (hx : Passes CX X E)
    (ha : PA X (e :: es) t) (hdb : (x == ("__debug__" : Str)) = false := by decide) (he : starEach (e :: es) X.env = (false, eval e X.env) :: starEach es X.env := by rfl) (hpl : (backTo pos (starEach es X.env)).any (·.1) = false := by rfl) :
    PE X (.Call (.Name x p) (e :: es) [] pos) (tCall sp dvs E t) := by
  intro pins s σ H Q I h
  refine wpAny_Call_Name_kw (ld_glob I hg hm ?_ hdb)
  refine PySem.W.callWith_K (h₀ := X.base) I.ok.mod.kin hk (thn (ha pos pins s σ H _ I h) fun us s1 ⟨vs, H1, I1, r, q⟩ => ⟨I1.kIn, ?_⟩) he hpl
  exact run_fn F hr hb hd hx I1 r q
/-- what a class must have to be made -/
structure Mk (K : PySem.W.Frag) (C f : Addr) : Prop where
  makes : PySem.W.makesIn K C = true
  init : PySem.W.findIn K (.ref C) "__init__" = some (some (.ref f))
  fn : PySem.W.isFn K (.ref f) = true
  kp : PySem.W.keepIn K (.ref C) = true
end
/-! ### keywords -/
section
variable {X : Cx} {CX : CXT} {k : Nat} {f C : Addr} {fd : FuncData} {ps ks : List Str} {sp : Sp} {E : XK} {x m : Str} {p pos apos kpos : Pos} {e o : Expr} {es : List Expr} {kws : List Keyword} {te ta : TE} {t tk : TA} {nm : Option Str}
/-- how a call with keywords binds: g puts the positional values us and the keywords' values ws (names ks) in the parameters' order, defaults among them -/
structure KBinds (K : PySem.W.Frag) (fd : FuncData) (ps ks : List Str) (g : List Value → List Value → List Value) (gV : List V → List V → List V) : Prop where
  to : ∀ (s : Shared) (us ws : List Value), K.In s.heap → (g us ws).length = ps.length → BindsTo s fd ⟨us, ks.zip ws⟩ (ps.zip (g us ws))
  rel : ∀ {vs : List V} {us : List Value} {zs : List V} {ws : List Value}, Vals vs us → Vals zs ws → Vals (gV vs zs) (g us ws)
variable {g : List Value → List Value → List Value} {gV : List V → List V → List V}
end
/-! ### a def's body keeps its promise -/
/-- names: the parameters first -/
structure FnScope (N P : List Str) (sc : Scope) : Prop where
  kind : sc.kind = .function
  co : sc.isCoroutine = false
  gen : sc.isGenerator = false
  nd : N.Nodup
  pre : N.take P.length = P
  par : ∀ x ∈ P, sc.names.lookup x = some .local ∨ sc.names.lookup x = some .cell
  nofree : ∀ y ∈ sc.names, y.2 ≠ .free
theorem bindL_out {kindOf : Str → Option NameKind} {x : Str} : ∀ {binds : List (Str × Value)} {m : Str → Option Value}, (∀ v, (x, v) ∉ binds) → bindL kindOf binds m x = m x
  | [], _, _ => rfl
  | (n, v) :: r, m, h => by
    unfold bindL
    rw [bindL_out fun w hw => h w (List.mem_cons_of_mem _ hw)]
    split
    · have : x ≠ n := by rintro rfl; exact h v List.mem_cons_self
      simp [this]
    · rfl
theorem bindC_out {kindOf : Str → Option NameKind} {x : Str} : ∀ {binds : List (Str × Value)} {m : Str → Option Value}, (∀ v, (x, v) ∉ binds) → bindC kindOf binds m x = m x
  | [], _, _ => rfl
  | (n, v) :: r, m, h => by
    unfold bindC
    rw [bindC_out fun w hw => h w (List.mem_cons_of_mem _ hw)]
    split
    · rfl
    · have : x ≠ n := by rintro rfl; exact h v List.mem_cons_self
      simp [this]
theorem bindL_get {kindOf : Str → Option NameKind} {x : Str} {v : Value} : ∀ {P : List Str} {vs : List Value} {i : Nat} {m : Str → Option Value}, P.Nodup → P[i]? = some x → vs[i]? = some v → kindOf x = some .local →
    bindL kindOf (P.zip vs) m x = some v
  | [], _, _, _, _, h, _, _ => by simp at h
  | _ :: _, [], _, _, _, _, h, _ => by simp at h
  | p :: P, w :: vs, 0, m, nd, h1, h2, hk => by
    simp at h1 h2; subst h1; subst h2
    show bindL kindOf ((p, w) :: P.zip vs) m p = _
    unfold bindL
    rw [bindL_out fun v hv => (List.nodup_cons.mp nd).1 (List.of_mem_zip hv).1, if_pos hk]
    simp
  | p :: P, w :: vs, i + 1, m, nd, h1, h2, hk => by
    show bindL kindOf ((p, w) :: P.zip vs) m x = _
    unfold bindL
    exact bindL_get (i := i) (List.nodup_cons.mp nd).2 (by simpa using h1) (by simpa using h2) hk
theorem bindC_get {kindOf : Str → Option NameKind} {x : Str} {v : Value} : ∀ {P : List Str} {vs : List Value} {i : Nat} {m : Str → Option Value}, P.Nodup → P[i]? = some x → vs[i]? = some v → kindOf x ≠ some .local →
    bindC kindOf (P.zip vs) m x = some v
  | [], _, _, _, _, h, _, _ => by simp at h
  | _ :: _, [], _, _, _, _, h, _ => by simp at h
  | p :: P, w :: vs, 0, m, nd, h1, h2, hk => by
    simp at h1 h2; subst h1; subst h2
    show bindC kindOf ((p, w) :: P.zip vs) m p = _
    unfold bindC
    rw [bindC_out fun v hv => (List.nodup_cons.mp nd).1 (List.of_mem_zip hv).1, if_neg hk]
    simp
  | p :: P, w :: vs, i + 1, m, nd, h1, h2, hk => by
    show bindC kindOf ((p, w) :: P.zip vs) m x = _
    unfold bindC
    exact bindC_get (i := i) (List.nodup_cons.mp nd).2 (by simpa using h1) (by simpa using h2) hk
/-- the names' values at the entry -/
def start (N : List Str) (vs : List V) : St := vs.map some ++ List.replicate (N.length - vs.length) none
/-- the context of a def's body, at its entry; an exception leaves the frame, then lies as CX says -/
def cxOf (CX : CXT) (P : Program) (w : World) (K : PySem.W.Frag) (mg : Str → Option Value) (base : Heap) (N : List Str) (qual : Str) (scope : Scope) (f : Addr) (cd : Value) (A : Around) (outer : List Env) (s : Shared) (H : Hp) (E : XK) : Cx where
  prog := P
  w := w
  K := K
  mg := mg
  base := base
  A := A.deeper (envOfC qual scope s.heap.objs.size f cd)
  N := N
  s₀ := s
  H₀ := H
  env := envOfC qual scope s.heap.objs.size f cd
  outer := outer
  stack := envOfC qual scope s.heap.objs.size f cd :: outer
  ex := []
  calm := true
  fn := fun _ => true
  pn := []
  xe := fun e s' => wpAny (model P w) (A.deeper (envOfC qual scope s.heap.objs.size f cd)) (leaving (envOfC qual scope s.heap.objs.size f cd) e) (fun _ s'' => CX outer H s E e s'') (fun e' s'' => CX outer H s E e' s'') s'
theorem cell_has {sc : Scope} {n : Nat} {x : Str} (h : sc.names.lookup x = some .cell) : ∃ c, (cellsFrom n sc.names []).lookup x = some c := by
  have q := PySem.W.cellsFrom_some sc.names n [] (.inl h)
  exact Option.isSome_iff_exists.mp q
theorem inv_start {CX : CXT} {P : Program} {w : World} {K : PySem.W.Frag} {mg : Str → Option Value} {base : Heap} {N ps : List Str} {qual : Str} {scope : Scope} {f : Addr} {cd : Value} {A : Around} {outer : List Env} {s s1 : Shared} {H : Hp} {E : XK} {us : List Value} {vs : List V}
    (S : FnScope N ps scope) (hd : A.handled = none) (e0 : Env0 P w K mg base A outer s H) (hl : vs.length = ps.length) (r : Vals vs us)
    (x : InCallC s s.heap.objs.size (bindL (envOfC qual scope s.heap.objs.size f cd).kindOf (ps.zip us) fun _ => none) (cellsFrom (s.heap.objs.size + 1) scope.names []) (bindC (envOfC qual scope s.heap.objs.size f cd).kindOf (ps.zip us) fun _ => none) s1) :
    Inv (cxOf CX P w K mg base N qual scope f cd A outer s H E) [] (start N vs) H s1 := by
  have hpl : ps.length ≤ N.length := by have := congrArg List.length S.pre; rw [List.length_take] at this; omega
  obtain ⟨h1, tk, rfl, hk⟩ := x.done
  have noA : ∀ b : Addr, b ∉ (cxOf CX P w K mg base N qual scope f cd A outer s H E).ex := fun b z => absurd (show b ∈ ([] : List Addr) from z) (by simp)
  refine ⟨⟨e0.mod, S.kind, rfl, rfl, Nat.le_refl _, fun y z c h1 h2 => ?_, fun y hy => ?_, fun y c _ h => ?_, fun _ => hd, Around.frames_deeper e0.frames, .inr ⟨rfl, rfl⟩, fun b z => absurd z (noA b), e0.bs, e0.bsz, fun b _ _ => noA b, fun b z => absurd z (noA b), e0.funs, e0.frf⟩,
    rfl, e0.bare, Un.kept hk, ⟨_, x.toInCall.ns, fun i y v h1 h2 h3 => ?_⟩, fun y c h => ⟨_, x.cell y c h⟩, e0.hok.fresh (Nat.le_refl _), fun y c h => ?_, fun p hp => absurd (show p ∈ ([] : List (Addr × Obj)) from hp) (by simp), e0.hok.kept hk, ?_⟩
  · exact name_of_addr x.apart (PySem.mem_of_lookup h1) (PySem.mem_of_lookup h2)
  · have hy : scope.names.lookup y = some .cell ∨ scope.names.lookup y = some .free := hy
    rcases hy with hy | hy
    · exact cell_has hy
    · exact absurd rfl (S.nofree _ (PySem.mem_of_lookup hy))
  · exact Nat.le_of_lt (x.above y c (PySem.mem_of_lookup h))
  · have hi : i < vs.length := by
      unfold start at h2
      by_cases hi : i < vs.length
      · exact hi
      · rw [List.getElem?_append_right (by simpa using hi)] at h2
        rw [List.getElem?_replicate] at h2
        split at h2 <;> cases h2
    have ha : vs[i]? = some v := by
      unfold start at h2
      rw [List.getElem?_append_left (by simpa using hi), List.getElem?_map] at h2
      cases e : vs[i]? with
      | none => rw [e] at h2; cases h2
      | some a => rw [e] at h2; cases h2; rfl
    obtain ⟨u, hu, rv⟩ := r.get ha
    have hp : ps[i]? = some y := by
      rw [← S.pre, List.getElem?_take_of_lt (by omega)]; exact h1
    have ndP : ps.Nodup := by rw [← S.pre]; exact S.nd.sublist (List.take_sublist _ _)
    refine ⟨u, rv, ?_⟩
    rcases S.par y (List.mem_of_getElem? hp) with k | k
    · exact .inl ⟨k, bindL_get ndP hp hu k⟩
    · obtain ⟨c, e⟩ := cell_has (n := s.heap.objs.size + 1) k
      refine .inr ⟨.inl k, c, e, ?_⟩
      have q := x.cell y c e
      rw [bindC_get ndP hp hu (by show scope.names.lookup y ≠ _; rw [k]; decide)] at q
      exact q
  · exact e0.hok.fresh (Nat.le_of_lt (x.above y c (PySem.mem_of_lookup h)))
  · unfold start
    show _ = N.length
    rw [List.length_append, List.length_map, List.length_replicate]
    omega
/-- THE RULE: a def (or a method) of the text, by its body. The body's reading t is chosen for each entry; it is run at the parameters' values -/
theorem fn_of {CX : CXT} {P : Program} {w : World} {K : PySem.W.Frag} {mg : Str → Option Value} {base : Heap} {k : Nat} {f : Addr} {name qual : Str} {params : Arguments} {body : List Stmt} {scope : Scope} {dV kV doc pm cdv ct oc : Value} {an od : Option Addr}
    {osl : Array (Option Value)} {N ps : List Str} {sp : Sp} (lk : K.lookup f = some ⟨oc, od, .func (PySem.W.fnOf name qual params body scope dV kV doc pm an cdv ct), osl⟩) (hcd : PySem.W.codeIn K cdv qual = true) (S : FnScope N ps scope)
    (len : ∀ vs H Q E, sp vs H Q E → vs.length = ps.length)
    (hbody : ∀ (A : Around) (outer : List Env) (s : Shared) (H : Hp) (vs : List V) (Q : VK) (E : XK), Room k (A.deeper (envOfC qual scope s.heap.objs.size f cdv)) → sp vs H Q E →
      ∃ t, PSs (cxOf CX P w K mg base N qual scope f cdv A outer s H E) body t ∧ t { nx := fun _ H' => Q .non H', rt := Q } (start N vs) H) :
    FnOk P w K mg base CX (k + 1) f (PySem.W.fnOf name qual params body scope dV kV doc pm an cdv ct) ps sp := by
  refine ⟨len, fun A outer s H args us vs Q E hr e0 hb r hsp => ?_⟩
  have hl := len _ _ _ _ hsp
  have KX : K.In s.heap := e0.mod.kin.keeps fun b o e => (e0.bs b o e).1
  have lim : s.heap.NoLimit := e0.mod.nolimit.keeps fun b o e => (e0.bs b o e).1
  have hkind : ∀ y ∈ ps.zip us, scope.names.lookup y.1 = some .local ∨ (scope.names.lookup y.1 = some .cell ∧ ((cellsFrom (s.heap.objs.size + 1) scope.names []).lookup y.1).isSome = true) := fun ⟨n, v⟩ hy => by
    rcases S.par n (List.of_mem_zip hy).1 with q | q
    · exact .inl q
    · exact .inr ⟨q, PySem.W.cellsFrom_some _ _ _ (.inl q)⟩
  refine codeAny_call_function hr.depth (KX _ _ lk) rfl S.co S.gen rfl (PySem.W.codeRec_of KX hcd) (hb _ _ _ _ ?_)
  refine wpAny_newFunctionEnv_cells S.kind hkind fun env he s1 x => ?_
  subst he
  refine ⟨lim.keeps x.toInCall.keep, codeAny_func ?_⟩
  obtain ⟨t, ht, hq⟩ := hbody A outer s H vs Q E (hr.deeper _) hsp
  have I : Inv (cxOf CX P w K mg base N qual scope f cdv A outer s H E) [] (start N vs) H s1 := inv_start S hr.hd e0 hl r x
  refine wpAny_mono (ht [] s1 (start N vs) H _ I hq) (fun fl s' hs => ?_) fun e s' hs => hs
  have fin : ∀ {σ' : St} {H' : Hp} {v : V} {u : Value}, Inv (cxOf CX P w K mg base N qual scope f cdv A outer s H E) [] σ' H' s' → RelV v u → Q v H' → CE outer P w H s Q u s' :=
    fun {σ' H' v u} J rv q => ⟨v, H', J.os, J.bare, J.base, J.hok, rv, q⟩
  cases fl with
  | ret u =>
    obtain ⟨v, σ', H', J, rv, q⟩ := hs
    exact fin J rv q
  | next =>
    obtain ⟨σ', H', J, q⟩ := hs
    exact fin (v := V.non) (u := Value.none) J rfl q
  | brk =>
    obtain ⟨_, _, _, q⟩ := hs
    exact False.elim q
  | cont =>
    obtain ⟨_, _, _, q⟩ := hs
    exact False.elim q
end L2
namespace L2
open PySem PySem.Spec PyProof.Rows
section
variable {X : Cx} {x : Str} {p pos : Pos} {e : Expr} {es : List Expr} {t : TA} {id T : String} {r : List V → Hp → VK → Prop}
def tCB (r : List V → Hp → VK → Prop) (t : TA) : TE := fun σ H Q => t σ H fun vs H1 => r vs H1 Q
/-- f(e, ..), f a built-in function -/
theorem pe_callB (hc : CallR X (.builtin id) r) (hg : Gl X x) (hm : X.mg x = none) (hv : bootBuiltins x = some (.builtin id)) (ha : PA X (e :: es) t) (hn : x ≠ "__name__" := by decide) (hdb : (x == ("__debug__" : Str)) = false := by decide)
    (he : starEach (e :: es) X.env = (false, eval e X.env) :: starEach es X.env := by rfl) (hpl : (backTo pos (starEach es X.env)).any (·.1) = false := by rfl) : PE X (.Call (.Name x p) (e :: es) [] pos) (tCB r t) := by
  intro pins s σ H Q I h
  refine wpAny_Call_Name_kw (ld_blt I hg hm hv ?_ hn hdb)
  exact PyProof.Rows.callWith_builtin1 (thn (ha pos pins s σ H _ I h) fun us s1 ⟨vs, H1, I1, r1, q1⟩ => hc pins s1 σ H1 vs us Q I1 r1 q1) he hpl
/-- T(e, ..), T a built-in type -/
theorem pe_callTy (hc : CallR X (.type T) r) (hg : Gl X x) (hm : X.mg x = none) (hv : bootBuiltins x = some (.type T)) (ha : PA X (e :: es) t) (hn : x ≠ "__name__" := by decide) (hdb : (x == ("__debug__" : Str)) = false := by decide)
    (he : starEach (e :: es) X.env = (false, eval e X.env) :: starEach es X.env := by rfl) (hpl : (backTo pos (starEach es X.env)).any (·.1) = false := by rfl) : PE X (.Call (.Name x p) (e :: es) [] pos) (tCB r t) := by
  intro pins s σ H Q I h
  refine wpAny_Call_Name_kw (ld_blt I hg hm hv ?_ hn hdb)
  exact PyProof.Rows.callWith_type1 (thn (ha pos pins s σ H _ I h) fun us s1 ⟨vs, H1, I1, r1, q1⟩ => hc pins s1 σ H1 vs us Q I1 r1 q1) he hpl
end
end L2
namespace HT
open PySem PyProof.Rows
section
open PySem.SeqAt
open PySem.AutoSeq1 (wpAny_loadPart')
open PySem.MeetsSeq PySem.MeetsSeq2 PySem.MeetsSeq3
end
section
variable {prog : Program} {w : World} {A : Around} {E : Value → Shared → Prop} {s : Shared}
/-- t + u, t not empty -/
theorem cat_tup {t b : Addr} {vs ws : List Value} {Q : Value → Shared → Prop} (ht : IsTup s.heap t vs.toArray) (hb : IsTup s.heap b ws.toArray) (hv : vs ≠ [])
    (h1 : ws = [] → Q (.ref t) s) (h2 : ws ≠ [] → Q (.ref s.heap.objs.size) { s with heap := s.heap.push { cls := .type "tuple", data := .seq (vs ++ ws).toArray } })
    (hsz : vs.length + ws.length ≤ sizeLine) : wpAny (model prog w) A (binaryOp .Add (.ref t) (.ref b)) Q E s := by
  obtain ⟨⟨cls, dd, data, sl⟩, ho, hc, n, hd⟩ := id ht
  obtain ⟨⟨cls2, dd2, data2, sl2⟩, ho2, hc2, n2, hd2⟩ := id hb
  simp only at hc hd hc2 hd2
  subst hc hd hc2 hd2
  have e : vs.toArray ++ ws.toArray = (vs ++ ws).toArray := by simp
  by_cases hw : ws = []
  · exact concat_meets ⟨_, ho, rfl⟩ ⟨_, ho2, rfl⟩ noFill_tuple_add seq_tuple_add PySem.F.slot_tuple_add PySem.F.entry_tuple_add (PySem.F.args_tuple_add_2 _ _)
      (tuple_addW1 t b vs.toArray ws.toArray n n2 dd dd2 sl sl2 (by simpa using hv) (by simp [hw])) ⟨ho, ho2, h1 hw⟩
  · refine concat_meets ⟨_, ho, rfl⟩ ⟨_, ho2, rfl⟩ noFill_tuple_add seq_tuple_add PySem.F.slot_tuple_add PySem.F.entry_tuple_add (PySem.F.args_tuple_add_2 _ _)
      (tuple_addW2 t b vs.toArray ws.toArray n n2 dd dd2 sl sl2 (by simpa using hv) (by simpa using hw) (by rw [List.size_toArray, List.size_toArray]; exact hsz)) ⟨ho, ho2, ?_⟩
    rw [e]
    exact h2 hw
/-! ### t[a:b], not the whole -/
/-- a slice's bound as a place among n (d where it is left out) -/
def sIx (n d : Nat) : Option Int → Nat
  | none => d
  | some v => if v < 0 then (v + (n : Int)).toNat else min v.toNat n
theorem sIx_none (n d : Nat) : sIx n d none = d := rfl
theorem sIx_nat (n d k : Nat) : sIx n d (some (k : Int)) = min k n := by
  show (if (k : Int) < 0 then ((k : Int) + (n : Int)).toNat else min (k : Int).toNat n) = min k n
  rw [if_neg (by omega), Int.toNat_natCast]
theorem sIx_le (n d : Nat) (hd : d ≤ n) (o : Option Int) : sIx n d o ≤ n := by
  cases o with
  | none => exact hd
  | some v =>
    show (if v < 0 then (v + (n : Int)).toNat else min v.toNat n) ≤ n
    by_cases hv : v < 0
    · rw [if_pos hv]; omega
    · rw [if_neg hv]; exact Nat.min_le_right _ _
theorem clip_eq (v : Int) (n d : Nat) : (if v < 0 then max (v + (n : Int)) 0 else min v (n : Int)) = ((sIx n d (some v) : Nat) : Int) := by
  show (if v < 0 then max (v + (n : Int)) 0 else min v (n : Int)) = (((if v < 0 then (v + (n : Int)).toNat else min v.toNat n) : Nat) : Int)
  by_cases hv : v < 0
  · simp only [if_pos hv]; omega
  · simp only [if_neg hv]; omega
theorem adjust_gen (lo hi : Option Int) (n : Nat) : Builtin.Slice.sliceAdjust lo hi 1 (n : Int) = (((sIx n 0 lo : Nat) : Int), ((sIx n n hi : Nat) : Int)) := by
  have h1 : ¬ ((1 : Int) < 0) := by omega
  unfold Builtin.Slice.sliceAdjust
  simp only [h1, if_false]
  refine Prod.ext ?_ ?_
  · cases lo with
    | none => rfl
    | some v => exact clip_eq v n 0
  · cases hi with
    | none => rfl
    | some v => exact clip_eq v n n
theorem places_gen (i j : Nat) : Builtin.Slice.slicePlaces (i : Int) (j : Int) 1 = j - i := by
  unfold Builtin.Slice.slicePlaces
  have h1 : (1 : Int) > 0 := by omega
  simp only [h1, if_true, Int.ediv_one]
  split <;> omega
theorem slicePart_ {v : Value} {o : Option Int} {Q : Option Int → Shared → Prop} (p : IsPart v o) (h : Q o s) : wpAny (model prog w) A (Builtin.Slice.slicePartIndex v) Q E s := by
  cases p with
  | none => exact slicePart_none h
  | int i t => exact slicePart_int h
theorem sliceApplied_gen {sl : Addr} {vl vu : Value} {lo hi : Option Int} {n : Nat} {Q : Int × Int × Nat → Shared → Prop} (hs : s.heap.IsSliceOf sl vl vu .none) (pl : IsPart vl lo) (pu : IsPart vu hi)
    (h : Q (((sIx n 0 lo : Nat) : Int), 1, sIx n n hi - sIx n 0 lo) s) : wpAny (model prog w) A (Builtin.Slice.sliceApplied (.ref sl) (pure (n : Int))) Q E s := by
  obtain ⟨os, hos, hcs, hds⟩ := id hs
  unfold Builtin.Slice.sliceApplied Builtin.Slice.sliceFields
  refine wpAny_bind (wpAny_bind (wpAny_field hos hds (x := vl) rfl (wpAny_bind (wpAny_field hos hds (x := vu) rfl (wpAny_bind (wpAny_field hos hds (x := .none) rfl (wpAny_pure ?_)))))))
  refine wpAny_bind (slicePart_none ?_)
  show wpAny _ _ (if ((1 : Int) == 0) = true then _ else _) _ _ s
  rw [if_neg (by decide)]
  refine wpAny_bind (slicePart_ pl (wpAny_bind (slicePart_ pu (wpAny_bind (wpAny_pure ?_)))))
  show wpAny _ _ (match Builtin.Slice.sliceAdjust lo hi 1 (n : Int) with | (lo, hi) => pure (lo, (1 : Int), Builtin.Slice.slicePlaces lo hi 1)) _ _ s
  rw [adjust_gen lo hi n]
  show wpAny _ _ (pure (((sIx n 0 lo : Nat) : Int), (1 : Int), Builtin.Slice.slicePlaces ((sIx n 0 lo : Nat) : Int) ((sIx n n hi : Nat) : Int) 1)) _ _ s
  rw [places_gen]
  exact wpAny_pure h
theorem pick_gen (xs : Array Value) (i k : Nat) : ((List.range k).filterMap fun (m : Nat) => xs[((i : Int) + (m : Int) * 1).toNat]?).toArray = ((xs.toList.drop i).take k).toArray := by
  have e : (fun (m : Nat) => xs[((i : Int) + (m : Int) * 1).toNat]?) = fun m => xs[i + m]? := by
    funext m
    have : ((i : Int) + (m : Int) * 1).toNat = i + m := by omega
    rw [this]
  rw [e]
  have := pick_run xs i k
  rw [List.filterMap_map] at this
  have e2 : ((fun x => xs[x]?) ∘ fun x => i + x) = fun m => xs[i + m]? := rfl
  rw [e2] at this
  rw [this]
theorem getItem_tuple_cut {t sl : Addr} {items : Array Value} {vl vu : Value} {lo hi : Option Int} {Q : Value → Shared → Prop} (ht : IsTup s.heap t items) (hs : s.heap.IsSliceOf sl vl vu .none) (pl : IsPart vl lo) (pu : IsPart vu hi)
    (hw : ¬ (sIx items.size 0 lo = 0 ∧ sIx items.size items.size hi = items.size))
    (h : Q (.ref s.heap.objs.size) { s with heap := s.heap.push { cls := .type "tuple", data := .seq ((items.toList.drop (sIx items.size 0 lo)).take (sIx items.size items.size hi - sIx items.size 0 lo)).toArray } })
    (hsz : items.size ≤ sizeLine) : wpAny (model prog w) A (getItem (.ref t) (.ref sl)) Q E s := by
  have htake : sizeOk (.seq ((items.toList.drop (sIx items.size 0 lo)).take (sIx items.size items.size hi - sIx items.size 0 lo)).toArray) := by
    show ((items.toList.drop (sIx items.size 0 lo)).take (sIx items.size items.size hi - sIx items.size 0 lo)).toArray.size ≤ sizeLine
    rw [List.size_toArray, List.length_take, List.length_drop, Array.length_toList]
    omega
  have hj : sIx items.size items.size hi ≤ items.size := sIx_le _ _ (Nat.le_refl _) hi
  obtain ⟨os, hos, hcs, hds⟩ := id hs
  have hTs : s.TypeIs (.ref sl) "slice" := ⟨os, hos, hcs⟩
  unfold getItem
  try with_reducible refine wpAny_holding ?_
  first | refine wpAny_bind (wpAny_pure ?_) | skip
  refine wpAny_bind (wpAny_sequenceKey ht.typeIs (by decide) ?_)
  refine wpAny_bind (wpAny_callSpecial?_slot (name := Str.ofString "__getitem__") ht.typeIs PyProof.Rows.slot_tuple_getitem
    (wpAny_call_entry PyProof.Rows.slot_tuple_getitem ht.typeIs entry_tuple_getitem ?_ (args_tuple_getitem _ _)))
  show wpAny _ _ (Builtin.Tuple.tupleItemsOf (.ref t) >>= _) _ _ s
  refine wpAny_bind (tupleItemsOf_ ht ?_)
  refine wpAny_bind (wpAny_typeOf hTs ?_)
  rw [if_pos (by decide)]
  refine wpAny_bind (sliceApplied_gen hs pl pu ?_)
  have hno : ¬ ((((sIx items.size 0 lo : Nat) : Int) == 0 && (1 : Int) == 1 && (sIx items.size items.size hi - sIx items.size 0 lo) == items.size) = true) := by
    intro q
    rw [Bool.and_eq_true, Bool.and_eq_true] at q
    have q1 : ((sIx items.size 0 lo : Nat) : Int) = 0 := eq_of_beq q.1.1
    have q2 : sIx items.size items.size hi - sIx items.size 0 lo = items.size := eq_of_beq q.2
    exact hw ⟨by omega, by omega⟩
  show wpAny _ _ (if (((sIx items.size 0 lo : Nat) : Int) == 0 && (1 : Int) == 1 && (sIx items.size items.size hi - sIx items.size 0 lo) == items.size) = true then _ else _) _ _ s
  rw [if_neg hno, pick_gen]
  first
    | exact wpAny_bind (m := Builtin.Tuple.tupleExact _) (wpAny_newObj_type (wpAny_pure ⟨_, rfl, wpAny_pure h⟩) htake)
    | exact wpAny_bind (m := Builtin.Tuple.tupleExact _) (wpAny_newObj_type (wpAny_bind (wpAny_pure (wpAny_pure ⟨_, rfl, wpAny_pure h⟩))) htake)
    | exact wpAny_bind (wpAny_bind (m := Builtin.Tuple.tupleExact _) (wpAny_newObj_type (wpAny_pure (wpAny_pure ⟨_, rfl, wpAny_pure h⟩)) htake))
    | exact wpAny_bind (wpAny_bind (m := Builtin.Tuple.tupleExact _) (wpAny_newObj_type (wpAny_pure ⟨_, rfl, wpAny_pure h⟩) htake))
end
end HT
namespace L2
open PySem PySem.Spec PyProof.Rows
/-! ### the parts of a slice -/
abbrev TO := St → Hp → (Option Int → Hp → Prop) → Prop
/-- a slice's part (left out, or an int) -/
def PO (X : Cx) (e : Option Expr) (t : TO) : Prop :=
  ∀ (pins : List (Addr × Obj)) (s : Shared) (σ : St) (H : Hp) (Q : Option Int → Hp → Prop), Inv X pins σ H s → t σ H Q →
    wpAny (model X.prog X.w) X.A (evalPart e X.env) (fun u s' => ∃ o H', Inv X pins σ H' s' ∧ IsPart u o ∧ Q o H') X.xe s
def tNoPart : TO := fun _ H Q => Q none H
def tPart (t : TE) : TO := fun σ H Q => t σ H fun x H1 => ∃ i, x = .int i ∧ Q (some i) H1
section
variable {X : Cx} {e : Expr} {te : TE} {lo hi : Option Expr} {tl th : TO} {pos p2 : Pos}
theorem po_none : PO X none tNoPart := by
  intro pins s σ H Q I h
  rw [evalPart_none]
  exact wpAny_pure ⟨none, H, I, .none, h⟩
theorem po_some (h : PE X e te) : PO X (some e) (tPart te) := by
  intro pins s σ H Q I hw
  rw [evalPart_some]
  refine thn (h pins s σ H _ I hw) fun u s1 ⟨x, H1, I1, r1, q1⟩ => ?_
  obtain ⟨i, rfl, q⟩ := q1
  obtain ⟨t, rfl⟩ := r1
  exact ⟨some i, H1, I1, .int i t, q⟩
/-- what a slice of a value is, by values: the slice object stands at sl -/
def SlR (X : Cx) (r : V → Option Int → Option Int → Hp → VK → Prop) : Prop :=
  ∀ (pins : List (Addr × Obj)) (s : Shared) (σ : St) (H : Hp) (x : V) (v vl vu : Value) (lo hi : Option Int) (sl : Addr) (Q : VK), Inv X pins σ H s → RelV x v → s.heap.IsSliceOf sl vl vu .none → IsPart vl lo → IsPart vu hi → r x lo hi H Q →
    ∃ T id, typeLookup (.type T) "__getitem__" = pure (some (.builtin id)) ∧ s.TypeIs v T ∧ wpAny (model X.prog X.w) X.A (getItem v (.ref sl)) (EP X pins σ Q) X.xe s
theorem SlR.or {r r' : V → Option Int → Option Int → Hp → VK → Prop} (h : SlR X r) (h' : SlR X r') : SlR X (fun x lo hi H Q => r x lo hi H Q ∨ r' x lo hi H Q) := by
  intro pins s σ H x v vl vu lo hi sl Q I rx hs pl pu q
  rcases q with q | q
  · exact h pins s σ H x v vl vu lo hi sl Q I rx hs pl pu q
  · exact h' pins s σ H x v vl vu lo hi sl Q I rx hs pl pu q
def tSl (r : V → Option Int → Option Int → Hp → VK → Prop) (te : TE) (tl th : TO) : TE := fun σ H Q => te σ H fun x H1 => tl σ H1 fun l H2 => th σ H2 fun u H3 => r x l u H3 Q
/-- a[lo:hi], any a -/
theorem pe_slice {r : V → Option Int → Option Int → Hp → VK → Prop} (hr : SlR X r) (he : PE X e te) (hl : PO X lo tl) (hu : PO X hi th) : PE X (.Subscript e (.Slice lo hi none p2) pos) (tSl r te tl th) := by
  intro pins s σ H Q I h
  refine Subscript_ (thn (he pins s σ H _ I h) fun v s1 ⟨x, H1, I1, r1, q1⟩ => ?_)
  refine wpAny_Slice (thn (hl pins s1 σ H1 _ I1 q1) fun vl s2 ⟨l, H2, I2, pl, q2⟩ => thn (hu pins s2 σ H2 _ I2 q2) fun vu s3 ⟨u, H3, I3, pu, q3⟩ => ?_)
  rw [evalPart_none]
  refine wpAny_pure ?_
  have I4 : Inv X pins σ H3 { s3 with heap := s3.heap.push { cls := .type "slice", data := .fields #[vl, vu, .none] } } := I3.kept (t' := s3.toks) fun b ob q => Heap.get?_push_of_some _ q
  obtain ⟨T, id, hT, ht, hg⟩ := hr pins { s3 with heap := s3.heap.push { cls := .type "slice", data := .fields #[vl, vu, .none] } } σ H3 x v vl vu l u s3.heap.objs.size Q I4 r1 (Heap.IsSliceOf.new ..) pl pu q3
  show wpAny (model X.prog X.w) X.A (subscriptTail e (.Slice lo hi none p2) v (.ref s3.heap.objs.size)) (EP X pins σ Q) X.xe { s3 with heap := s3.heap.push { cls := .type "slice", data := .fields #[vl, vu, .none] } }
  exact tail_any (ops := [.ref s3.heap.objs.size, v]) ht hT hg (by with_unfolding_all rfl)
/-- the items of xs[lo:hi] -/
def cutV (xs : List V) (lo hi : Option Int) : List V := (xs.drop (HT.sIx xs.length 0 lo)).take (HT.sIx xs.length xs.length hi - HT.sIx xs.length 0 lo)
theorem cutV_length (xs : List V) (lo hi : Option Int) : (cutV xs lo hi).length ≤ xs.length := by
  unfold cutV
  rw [List.length_take, List.length_drop]
  omega
/-- t[lo:hi], not the whole of it (the whole would be t itself) -/
def rSlT (K : PySem.W.Frag) : V → Option Int → Option Int → Hp → VK → Prop := fun x lo hi H Q => ∃ a xs, x = .ref a ∧ SqT K H a xs ∧
  ¬ (HT.sIx xs.length 0 lo = 0 ∧ HT.sIx xs.length xs.length hi = xs.length) ∧ ∀ p, H p = none → Q (.ref p) (upd H p (.tup (cutV xs lo hi)))
theorem sl_tup : SlR X (rSlT X.K) := by
  intro pins s σ H x v vl vu lo hi sl Q I rx hs pl pu h
  obtain ⟨a, xs, rfl, hx, hw, q⟩ := h
  cases rx
  obtain ⟨its, r, ht, hz⟩ := I.tuple hx
  have hlen : its.toArray.size = xs.length := by rw [List.size_toArray]; exact r.length.symm
  refine ⟨"tuple", _, PyProof.Rows.slot_tuple_getitem.lookup, ht.typeIs, ?_⟩
  refine HT.getItem_tuple_cut ht hs pl pu (by rw [hlen]; exact hw) ?_ (by rw [hlen]; exact hz)
  rw [hlen]
  refine ⟨.ref s.heap.objs.size, _, I.laid (t' := s.toks) (o := .tup (cutV xs lo hi)) (fun b ob q => Heap.get?_push_of_some _ q) (Nat.le_refl _) ?_, rfl, q _ (I.hok.fresh (Nat.le_refl _))⟩
  exact ⟨Nat.le_trans (cutV_length xs lo hi) hz, _, (r.drop (HT.sIx xs.length 0 lo)).take (HT.sIx xs.length xs.length hi - HT.sIx xs.length 0 lo), IsTup.new _ _⟩
/-! ### t < u, t + u -/
/-- t + u, t not empty: u empty gives t itself -/
def rCatT (K : PySem.W.Frag) : R2 := fun x y H Q => ∃ a b xs ys, x = .ref a ∧ y = .ref b ∧ SqT K H a xs ∧ SqT K H b ys ∧ xs ≠ [] ∧ xs.length + ys.length ≤ sizeLine ∧
  (ys = [] → Q (.ref a) H) ∧ (ys ≠ [] → ∀ p, H p = none → Q (.ref p) (upd H p (.tup (xs ++ ys))))
theorem Vals.nil_iff {xs : List V} {us : List Value} (r : Vals xs us) : us = [] ↔ xs = [] := by
  cases r with
  | nil => simp
  | cons _ _ => simp
theorem op_catT : OpR X (binaryOp .Add) (rCatT X.K) := by
  intro pins s σ H x y v u Q I rx ry h
  obtain ⟨a, b, xs, ys, rfl, rfl, ha, hb, hx, hz, q1, q2⟩ := h
  cases rx
  cases ry
  obtain ⟨its, r1, p1, _⟩ := I.tuple ha
  obtain ⟨its2, r2, p2, _⟩ := I.tuple hb
  refine HT.cat_tup p1 p2 (fun z => hx (r1.nil_iff.mp z)) (fun z => ⟨.ref a, H, I, rfl, q1 (r2.nil_iff.mp z)⟩) (fun z => ?_) (by rw [← r1.length, ← r2.length]; exact hz)
  refine ⟨.ref s.heap.objs.size, _, I.laid (t' := s.toks) (o := .tup (xs ++ ys)) (fun b ob q => Heap.get?_push_of_some _ q) (Nat.le_refl _) ?_, rfl, q2 (fun w => z (r2.nil_iff.mpr w)) _ (I.hok.fresh (Nat.le_refl _))⟩
  exact ⟨by rw [List.length_append]; exact hz, _, r1.append r2, IsTup.new _ _⟩
end
end L2
namespace L2
open PySem PySem.Spec PyProof.Rows
/-! ### places -/
/-- the place that an index of any sign means -/
def ixN (n : Nat) (i : Int) : Option Nat := if 0 ≤ i then (if i < n then some i.toNat else none) else if -(n : Int) ≤ i then some (i + n).toNat else none
def atI {α : Type} (xs : List α) (i : Int) : Option α := (ixN xs.length i).bind fun j => xs[j]?
theorem ixN_seq {n : Nat} {i : Int} {j : Nat} (h : ixN n i = some j) : seqIndex? i n = some j ∧ j < n ∧ -(n : Int) ≤ i ∧ i < n := by
  unfold ixN at h
  by_cases h0 : 0 ≤ i
  · rw [if_pos h0] at h
    by_cases h1 : i < n
    · rw [if_pos h1] at h
      have e : i.toNat = j := Option.some.inj h
      exact ⟨by rw [seqIndex_of h0 h1, e], by omega, by omega, h1⟩
    · rw [if_neg h1] at h; cases h
  · rw [if_neg h0] at h
    by_cases h1 : -(n : Int) ≤ i
    · rw [if_pos h1] at h
      have e : (i + n).toNat = j := Option.some.inj h
      exact ⟨by rw [seqIndex_neg (by omega) h1, e], by omega, h1, by omega⟩
    · rw [if_neg h1] at h; cases h
theorem atI_get {α : Type} {xs : List α} {i : Int} {v : α} (h : atI xs i = some v) : ∃ j, seqIndex? i xs.length = some j ∧ xs[j]? = some v ∧ j < xs.length ∧ -(xs.length : Int) ≤ i ∧ i < xs.length := by
  unfold atI at h
  cases e : ixN xs.length i with
  | none => rw [e] at h; cases h
  | some j =>
    rw [e] at h
    obtain ⟨h1, h2, h3, h4⟩ := ixN_seq e
    exact ⟨j, h1, h, h2, h3, h4⟩
theorem atI_nat {α : Type} {xs : List α} {j : Nat} {v : α} (h : xs[j]? = some v) : atI xs (j : Int) = some v := by
  have hj : j < xs.length := (List.getElem?_eq_some_iff.mp h).1
  have e : ixN xs.length (j : Int) = some j := by
    unfold ixN
    rw [if_pos (by omega), if_pos (by omega)]; simp
  unfold atI; rw [e]; exact h
/-! ### what may be subscripted -/
/-- what stands as an index of a plain subscript -/
def PlainIx (b : Expr) : Prop := ∀ o i, subscripted b false o i = operate [o, i] (getItem o i)
/-- a subscript by values -/
def IxR (X : Cx) (r : R2) : Prop :=
  ∀ (value slice : Expr) (pins : List (Addr × Obj)) (s : Shared) (σ : St) (H : Hp) (x y : V) (v u : Value) (Q : VK), Inv X pins σ H s → RelV x v → RelV y u → r x y H Q →
    subscripted slice false v u = operate [v, u] (getItem v u) → wpAny (model X.prog X.w) X.A (subscriptTail value slice v u) (EP X pins σ Q) X.xe s
/-- a call of a builtin's method by values: the receiver, the arguments -/
def MtR (X : Cx) (id : String) (r : V → List V → Hp → VK → Prop) : Prop :=
  ∀ (pins : List (Addr × Obj)) (s : Shared) (σ : St) (H : Hp) (x : V) (xs : List V) (v : Value) (us : List Value) (Q : VK), Inv X pins σ H s → RelV x v → Vals xs us → r x xs H Q →
    wpAny (model X.prog X.w) X.A (call (.builtin id) (v :: us)) (EP X pins σ Q) X.xe s
section
variable {X : Cx} {a b : Expr} {ta tb : TE} {pos : Pos}
theorem IxR.or {r r' : R2} (h : IxR X r) (h' : IxR X r') : IxR X (fun x y H Q => r x y H Q ∨ r' x y H Q) := by
  intro value slice pins s σ H x y v u Q I rx ry q hs
  rcases q with q | q
  · exact h value slice pins s σ H x y v u Q I rx ry q hs
  · exact h' value slice pins s σ H x y v u Q I rx ry q hs
theorem MtR.or {id : String} {r r' : V → List V → Hp → VK → Prop} (h : MtR X id r) (h' : MtR X id r') : MtR X id (fun x xs H Q => r x xs H Q ∨ r' x xs H Q) := by
  intro pins s σ H x xs v us Q I rx rs q
  rcases q with q | q
  · exact h pins s σ H x xs v us Q I rx rs q
  · exact h' pins s σ H x xs v us Q I rx rs q
/-- a[b] -/
theorem pe_ix {r : R2} (hr : IxR X r) (ha : PE X a ta) (hb : PE X b tb) (hs : PlainIx b) : PE X (.Subscript a b pos) (tOp r ta tb) := by
  intro pins s σ H Q I h
  exact Subscript_ (binT ha hb I h fun v u s2 x y H2 I2 rx ry q => hr a b pins s2 σ H2 x y v u Q I2 rx ry q (hs _ _))
def rIxL (K : PySem.W.Frag) : R2 := fun x y H Q => ∃ p xs i v, x = .ref p ∧ y = .int i ∧ SqL K H p xs ∧ atI xs i = some v ∧ Q v H
def rIxT (K : PySem.W.Frag) : R2 := fun x y H Q => ∃ p xs i v, x = .ref p ∧ y = .int i ∧ SqT K H p xs ∧ atI xs i = some v ∧ Q v H
def rIxS : R2 := fun x y H Q => ∃ z i c, x = .str z ∧ y = .int i ∧ z.length ≤ sizeLine ∧ atI z.cps.toList i = some c ∧ Q (.str ⟨#[c]⟩) H
theorem ix_list : IxR X (rIxL X.K) := by
  intro value slice pins s σ H x y v u Q I rx ry h hs
  obtain ⟨p, xs, i, z, rfl, rfl, hq, he, q⟩ := h
  cases rx
  obtain ⟨t, rfl⟩ := ry
  obtain ⟨its, r, pl, hz⟩ := I.list hq
  obtain ⟨j, h1, h2, h3, h4, h5⟩ := atI_get he
  obtain ⟨w, ew, rw'⟩ := r.get h2
  have hl := r.length
  have hn := line63
  have fin : EP X pins σ Q w s := ⟨z, H, I, rw', q⟩
  by_cases h0 : 0 ≤ i
  · have hj : i.toNat = j := by
      rw [seqIndex_of h0 h5] at h1
      exact Option.some.inj h1
    exact item_listR pl.isList h0 (by omega) (by rw [hj]; simpa using ew) fin hs
  · have hj : (i + (its.toArray.size : Int)).toNat = j := by
      rw [seqIndex_neg (by omega) h4] at h1
      rw [List.size_toArray, ← hl]
      exact Option.some.inj h1
    exact subscriptTail_builtinR (x := w) pl.isList.typeIs slot_list_getitem.lookup
      (wpAny_getItem_list_neg (Q := fun r s' => r = w ∧ EP X pins σ Q r s') pl.isList (by omega) (by rw [List.size_toArray] <;> omega) (by omega) (by rw [hj]; simpa using ew) ⟨rfl, fin⟩) hs
theorem ix_tup : IxR X (rIxT X.K) := by
  intro value slice pins s σ H x y v u Q I rx ry h hs
  obtain ⟨p, xs, i, z, rfl, rfl, hq, he, q⟩ := h
  cases rx
  obtain ⟨t, rfl⟩ := ry
  obtain ⟨its, r, pl, hz⟩ := I.tuple hq
  obtain ⟨j, h1, h2, h3, h4, h5⟩ := atI_get he
  obtain ⟨w, ew, rw'⟩ := r.get h2
  have hl := r.length
  have hn := line63
  have fin : EP X pins σ Q w s := ⟨z, H, I, rw', q⟩
  exact subscriptTail_builtinR (x := w) pl.typeIs slot_tuple_getitem.lookup
    (getItem_tuple (j := j) (Q := fun r s' => r = w ∧ EP X pins σ Q r s') pl (by omega) (by omega) (by rw [List.size_toArray, ← hl]; exact h1) (by simpa using ew) ⟨rfl, fin⟩) hs
theorem ix_str : IxR X rIxS := by
  intro value slice pins s σ H x y v u Q I rx ry h hs
  obtain ⟨z, i, c, rfl, rfl, hz, he, q⟩ := h
  obtain ⟨t, rfl⟩ := rx
  obtain ⟨t', rfl⟩ := ry
  obtain ⟨j, h1, h2, h3, h4, h5⟩ := atI_get he
  have hl : z.cps.toList.length = z.length := by simp [Str.length]
  rw [hl] at h1 h4 h5
  have hn := line63
  exact tail_any (typeIs_str s z t) slot_str_getitem.lookup (getItem_str (c := c) (by
    have e1 : decide (i < -(2 ^ 63 : Int)) = false := decide_eq_false (by omega)
    have e2 : decide (i ≥ 2 ^ 63) = false := decide_eq_false (by omega)
    rw [e1, e2, Bool.or_false]) (by rw [h1]; simpa using h2) ⟨.str ⟨#[c]⟩, H, I.tok _, ⟨_, rfl⟩, q⟩) hs
/-- list, tuple or str -/
def rIx (K : PySem.W.Frag) : R2 := fun x y H Q => rIxL K x y H Q ∨ rIxT K x y H Q ∨ rIxS x y H Q
theorem ix_seq : IxR X (rIx X.K) := ix_list.or (ix_tup.or ix_str)
/-! ### xs[i] = v, any sign -/
/-- the list's object behind a store -/
theorem mapSeq_set (its : List Value) (n j : Nat) (u : Value) : Obj.mapSeq (·.setIfInBounds j u) { cls := .type "list", data := .seq its.toArray n } = { cls := .type "list", data := .seq (its.set j u).toArray n } := by
  simp [Obj.mapSeq]
theorem Inv.lst {pins : List (Addr × Obj)} {σ : St} {H : Hp} {s : Shared} {p : Addr} {xs : List V} (I : Inv X pins σ H s) (h : H p = some (.lst xs)) :
    ∃ (its : List Value) (n : Nat), Vals xs its ∧ s.heap.get? p = some { cls := .type "list", data := .seq its.toArray n } ∧ xs.length ≤ sizeLine := by
  obtain ⟨z, its, n, r, e⟩ := I.hok p _ h
  exact ⟨its, n, r, e, z⟩
/-- the list at p is written by an update of its object -/
theorem Inv.lstUpd {pins : List (Addr × Obj)} {σ : St} {H : Hp} {s : Shared} {p : Addr} {xs ys : List V} {its its' : List Value} {n n' : Nat} {f : Obj → Obj} (I : Inv X pins σ H s) (h : H p = some (.lst xs))
    (ho : s.heap.get? p = some { cls := .type "list", data := .seq its.toArray n }) (hf : f { cls := .type "list", data := .seq its.toArray n } = { cls := .type "list", data := .seq its'.toArray n' }) (r : Vals ys its') (hz : ys.length ≤ sizeLine) (t : Nat) :
    Inv X pins σ (upd H p (.lst ys)) { s with heap := s.heap.update p f, toks := t } := by
  have e : (s.heap.update p f).get? p = some { cls := .type "list", data := .seq its'.toArray n' } := by
    rw [Heap.get?_update_self f ho (by rw [hf] <;> rfl), hf]
  refine I.write (x := p) (e := p) (by rw [h]; trivial) (.inl rfl) (fun b u hb q => (Heap.get?_update_other _ _ (Ne.symm hb)).trans q) ⟨_, e⟩ ?_
  exact ⟨hz, its', n', r, e⟩
def rSetL : V → V → V → Hp → (Hp → Prop) → Prop := fun o i v H Q => ∃ p xs k j, o = .ref p ∧ i = .int k ∧ H p = some (.lst xs) ∧ ixN xs.length k = some j ∧ Q (upd H p (.lst (xs.set j v)))
theorem set_list : PSet X rSetL := by
  intro pins s σ H o i v ov iv u Q I ro ri rv h
  obtain ⟨p, xs, k, j, rfl, rfl, hp, hj, q⟩ := h
  cases ro
  obtain ⟨t, rfl⟩ := ri
  obtain ⟨its, n, r, ho, hz⟩ := I.lst hp
  obtain ⟨h1, h2, h3, h4⟩ := ixN_seq hj
  have hl := r.length
  have hn := line63
  have I' : Inv X pins σ (upd H p (.lst (xs.set j v))) { s with heap := s.heap.update p (Obj.mapSeq (·.setIfInBounds j u)) } :=
    I.lstUpd hp ho (mapSeq_set its n j u) (r.set rv j) (by rw [List.length_set]; exact hz) s.toks
  by_cases h0 : 0 ≤ k
  · have hk : k.toNat = j := by
      rw [seqIndex_of h0 h4] at h1
      exact Option.some.inj h1
    exact PySem.W.ki_setAt ho h0 (by omega) (by rw [List.size_toArray, ← hl]; exact h4) (by rw [hk]; exact ⟨_, I', q⟩)
  · have hk : (k + (its.toArray.size : Int)).toNat = j := by
      rw [seqIndex_neg (by omega) h3] at h1
      rw [List.size_toArray, ← hl]
      exact Option.some.inj h1
    exact PySem.W.ki_setBack ho (by omega) (by rw [List.size_toArray, ← hl]; exact h3) (by omega) (by rw [hk]; exact ⟨_, I', q⟩)
/-! ### slices -/
theorem slice_bounds (lo hi : Option Int) (n : Nat) : (sliceBounds lo hi none n).1 = ((HT.sIx n 0 lo : Nat) : Int) ∧ (sliceBounds lo hi none n).2.1 = ((HT.sIx n n hi : Nat) : Int) ∧ (sliceBounds lo hi none n).2.2 = 1 := by
  refine ⟨?_, ?_, rfl⟩
  · cases lo with
    | none => simp [sliceBounds, HT.sIx]
    | some i =>
      simp only [sliceBounds, HT.sIx, Option.getD_none, show (1 : Int) > 0 by decide, if_true]
      by_cases h : i < 0
      · simp only [h, if_true] <;> omega
      · simp only [h, if_false] <;> omega
  · cases hi with
    | none => simp [sliceBounds, HT.sIx]
    | some i =>
      simp only [sliceBounds, HT.sIx, Option.getD_none, show (1 : Int) > 0 by decide, if_true]
      by_cases h : i < 0
      · simp only [h, if_true] <;> omega
      · simp only [h, if_false] <;> omega
theorem slicePick_cut (its : List Value) (lo hi : Option Int) : slicePick its.toArray lo hi none = ((its.drop (HT.sIx its.length 0 lo)).take (HT.sIx its.length its.length hi - HT.sIx its.length 0 lo)).toArray := by
  obtain ⟨h1, h2, h3⟩ := slice_bounds lo hi its.toArray.size
  unfold slicePick
  rw [h1, h2, h3]
  simp only [sliceRange_one, pick_run, List.size_toArray] <;> rfl
/-- xs[lo:hi] of a list: a new list -/
def rSlL (K : PySem.W.Frag) : V → Option Int → Option Int → Hp → VK → Prop := fun x lo hi H Q => ∃ a xs, x = .ref a ∧ SqL K H a xs ∧ ∀ p, H p = none → Q (.ref p) (upd H p (.lst (cutV xs lo hi)))
theorem sl_list : SlR X (rSlL X.K) := by
  intro pins s σ H x v vl vu lo hi sl Q I rx hs pl pu h
  obtain ⟨a, xs, rfl, hx, q⟩ := h
  cases rx
  obtain ⟨its, r, ht, hz⟩ := I.list hx
  have hlen := r.length
  refine ⟨"list", _, slot_list_getitem.lookup, ht.isList.typeIs, ?_⟩
  refine wpAny_getItem_list_slice ht.isList hs pl pu .none (by simp) ?_ (by rw [List.size_toArray] <;> omega)
  rw [slicePick_cut, ← hlen]
  refine ⟨.ref s.heap.objs.size, _, I.laid (t' := s.toks) (o := .lst (cutV xs lo hi)) (fun b ob q => Heap.get?_push_of_some _ q) (Nat.le_refl _) ?_, rfl, q _ (I.hok.fresh (Nat.le_refl _))⟩
  exact ⟨Nat.le_trans (cutV_length xs lo hi) hz, _, 0, (r.drop (HT.sIx xs.length 0 lo)).take (HT.sIx xs.length xs.length hi - HT.sIx xs.length 0 lo), Heap.get?_push_size _ rfl⟩
/-! ### in, not in: flat items -/
def flatV : V → Bool
  | .non => true
  | .bl _ => true
  | .int _ => true
  | .str _ => true
  | _ => false
/-- == of flat values -/
def eqV : V → V → Bool
  | .non, .non => true
  | .bl a, .bl b => a == b
  | .bl a, .int b => (if a then 1 else 0) == b
  | .int a, .bl b => a == (if b then 1 else 0)
  | .int a, .int b => a == b
  | .str a, .str b => a == b
  | _, _ => false
theorem eqAt_V {A : Around} {s : Shared} {y x : V} {u v : Value} (ry : RelV y u) (rx : RelV x v) (fy : flatV y = true) (fx : flatV x = true) : SeqAt.EqAt A s u v (eqV y x) := by
  cases y with
  | non =>
    cases ry
    cases x with
    | non => cases rx; exact SeqAt.EqAt.same _
    | bl b => cases rx; exact SeqAt.EqAt.none_bool b
    | int b => obtain ⟨t, rfl⟩ := rx; exact SeqAt.EqAt.none_int b t
    | str b => obtain ⟨t, rfl⟩ := rx; exact SeqAt.EqAt.none_str b t
    | _ => exact absurd (show false = true from fx) Bool.false_ne_true
  | bl a =>
    cases ry
    cases x with
    | non => cases rx; exact SeqAt.EqAt.bool_none a
    | bl b => cases rx; exact SeqAt.EqAt.bool_bool a b
    | int b => obtain ⟨t, rfl⟩ := rx; exact SeqAt.EqAt.bool_int a b t
    | str b => obtain ⟨t, rfl⟩ := rx; exact SeqAt.EqAt.bool_str a b t
    | _ => exact absurd (show false = true from fx) Bool.false_ne_true
  | int a =>
    obtain ⟨t', rfl⟩ := ry
    cases x with
    | non => cases rx; exact SeqAt.EqAt.int_none a t'
    | bl b => cases rx; exact SeqAt.EqAt.int_bool a t' b
    | int b => obtain ⟨t, rfl⟩ := rx; exact SeqAt.EqAt.int_int a t' b t
    | str b => obtain ⟨t, rfl⟩ := rx; exact SeqAt.EqAt.int_str a t' b t
    | _ => exact absurd (show false = true from fx) Bool.false_ne_true
  | str a =>
    obtain ⟨t', rfl⟩ := ry
    cases x with
    | non => cases rx; exact SeqAt.EqAt.str_none a t'
    | bl b => cases rx; exact SeqAt.EqAt.str_bool a t' b
    | int b => obtain ⟨t, rfl⟩ := rx; exact SeqAt.EqAt.str_int a t' b t
    | str b => obtain ⟨t, rfl⟩ := rx; exact SeqAt.EqAt.str_str a t' b t
    | _ => exact absurd (show false = true from fx) Bool.false_ne_true
  | _ => exact absurd (show false = true from fy) Bool.false_ne_true
/-- the items' answers, read off the values (a value's own answer does not lean on its token) -/
def eqU (x : V) (u : Value) : Bool := match u with
  | .none => eqV .non x
  | .bool b => eqV (.bl b) x
  | .int i _ => eqV (.int i) x
  | .str z _ => eqV (.str z) x
  | _ => false
theorem eqU_of {x y : V} {u : Value} (r : RelV y u) (f : flatV y = true) : eqU x u = eqV y x := by
  cases y with
  | non => cases r; rfl
  | bl b => cases r; rfl
  | int i => obtain ⟨t, rfl⟩ := r; rfl
  | str z => obtain ⟨t, rfl⟩ := r; rfl
  | _ => exact absurd (show false = true from f) Bool.false_ne_true
theorem any_eqU {x : V} : ∀ {xs : List V} {us : List Value}, Vals xs us → xs.all flatV = true → us.any (eqU x) = xs.any fun y => eqV y x
  | _, _, .nil, _ => rfl
  | y :: xs, u :: us, .cons r t, f => by
    rw [List.all_cons, Bool.and_eq_true] at f
    rw [List.any_cons, List.any_cons, eqU_of r f.1, any_eqU t f.2]
theorem mem_eqAt {A : Around} {s : Shared} {x : V} {v : Value} (rx : RelV x v) (fx : flatV x = true) : ∀ {xs : List V} {us : List Value}, Vals xs us → xs.all flatV = true → ∀ u ∈ us, SeqAt.EqAt A s u v (eqU x u)
  | _, _, .nil, _ => fun u hu => by cases hu
  | y :: xs, u :: us, .cons r t, f => fun u' hu => by
    rw [List.all_cons, Bool.and_eq_true] at f
    rcases List.mem_cons.mp hu with rfl | hu
    · rw [eqU_of r f.1]; exact eqAt_V r rx f.1 fx
    · exact mem_eqAt rx fx t f.2 u' hu
def inV (x : V) (xs : List V) : Bool := xs.any fun y => eqV y x
/-- x in a list or tuple of flat items -/
def rIn (K : PySem.W.Frag) (neg : Bool) : R2 := fun x y H Q => ∃ p xs, y = .ref p ∧ (SqL K H p xs ∨ SqT K H p xs) ∧ flatV x = true ∧ xs.all flatV = true ∧ Q (.bl (if neg then !inV x xs else inV x xs)) H
theorem op_in_seq : OpR X (compareOp .In) (rIn X.K false) := by
  intro pins s σ H x y v u Q I rx ry h
  obtain ⟨p, xs, rfl, hq, fx, fs, q⟩ := h
  cases ry
  rcases hq with hq | hq
  · obtain ⟨its, r, pl, hz⟩ := I.list hq
    refine SeqAt.in_listAt (eqU x) pl.isList (fun w hw => mem_eqAt rx fx r fs w (by simpa using hw)) ⟨.bl _, H, I, rfl, ?_⟩
    rw [show its.toArray.any (eqU x) = its.any (eqU x) by simp, any_eqU r fs]
    exact q
  · obtain ⟨its, r, pl, hz⟩ := I.tuple hq
    refine SeqAt.in_tupleAt (eqU x) pl (fun w hw => mem_eqAt rx fx r fs w (by simpa using hw)) ⟨.bl _, H, I, rfl, ?_⟩
    rw [show its.toArray.any (eqU x) = its.any (eqU x) by simp, any_eqU r fs]
    exact q
theorem op_notIn_seq : OpR X (compareOp .NotIn) (rIn X.K true) := by
  intro pins s σ H x y v u Q I rx ry h
  obtain ⟨p, xs, rfl, hq, fx, fs, q⟩ := h
  cases ry
  rcases hq with hq | hq
  · obtain ⟨its, r, pl, hz⟩ := I.list hq
    refine SeqAt.notIn_listAt (eqU x) pl.isList (fun w hw => mem_eqAt rx fx r fs w (by simpa using hw)) ⟨.bl _, H, I, rfl, ?_⟩
    rw [show its.toArray.any (eqU x) = its.any (eqU x) by simp, any_eqU r fs]
    exact q
  · obtain ⟨its, r, pl, hz⟩ := I.tuple hq
    refine SeqAt.notIn_tupleAt (eqU x) pl (fun w hw => mem_eqAt rx fx r fs w (by simpa using hw)) ⟨.bl _, H, I, rfl, ?_⟩
    rw [show its.toArray.any (eqU x) = its.any (eqU x) by simp, any_eqU r fs]
    exact q
/-! ### len, list(x), tuple(x) of any list or tuple that is read -/
theorem CallR.or {f : Value} {r r' : List V → Hp → VK → Prop} (h : CallR X f r) (h' : CallR X f r') : CallR X f (fun xs H Q => r xs H Q ∨ r' xs H Q) := by
  intro pins s σ H xs us Q I rs q
  rcases q with q | q
  · exact h pins s σ H xs us Q I rs q
  · exact h' pins s σ H xs us Q I rs q
theorem call_tuple_of : CallR X (.type "tuple") (fun xs H Q => ∃ p ys, xs = [.ref p] ∧ ((SqL X.K H p ys ∧ ∀ l, H l = none → Q (.ref l) (upd H l (.tup ys))) ∨ (SqT X.K H p ys ∧ Q (.ref p) H))) := by
  intro pins s σ H xs us Q I r h
  obtain ⟨p, ys, rfl, h⟩ := h
  obtain ⟨u, rfl, rx⟩ := vals1 r
  cases rx
  rcases h with ⟨hq, q⟩ | ⟨hq, q⟩
  · obtain ⟨its, r', pl, hz⟩ := I.list hq
    have hlen := r'.length
    refine call_tuple_list pl.isList (fun h' kp => ?_) (by simp only [List.size_toArray] <;> omega)
    have I1 : Inv X pins σ H { s with heap := h' } := I.kept (t' := s.toks) kp
    have I2 : Inv X pins σ (upd H h'.objs.size (.tup ys)) { s with heap := h'.push { cls := .type "tuple", data := .seq its.toArray } } :=
      I1.laid (t' := s.toks) (fun b o e => Heap.get?_push_of_some _ e) (Nat.le_refl _) (show ObjOk X.prog X.w _ _ _ (.tup ys) from ⟨hz, its, r', IsTup.new _ _⟩)
    exact ⟨.ref h'.objs.size, _, I2, rfl, q _ (I1.hok.fresh (Nat.le_refl _))⟩
  · obtain ⟨its, r', pl, hz⟩ := I.tuple hq
    exact call_tuple_same pl ⟨.ref p, H, I, rfl, q⟩
/-! ### the call of a builtin's method: o.m(..) -/
/-- the value is of that builtin type -/
def tyV (K : PySem.W.Frag) (T : String) (x : V) (H : Hp) : Prop := match x with
  | .str _ => T = "str"
  | .int _ => T = "int"
  | .ref p => (T = "list" ∧ ∃ xs, SqL K H p xs) ∨ (T = "tuple" ∧ ∃ o, K.lookup p = some o ∧ o.cls = .type "tuple" ∧ o.dict = none) ∨
      (T = "dict" ∧ ((∃ kvs, H p = some (.dK kvs)) ∨ ∃ kvs, H p = some (.dT kvs))) ∨ (T = "set" ∧ ∃ ks, H p = some (.set ks))
  | _ => False
theorem tyV_is {pins : List (Addr × Obj)} {σ : St} {H : Hp} {s : Shared} {T : String} {x : V} {v : Value} (I : Inv X pins σ H s) (r : RelV x v) (ty : tyV X.K T x H) :
    s.TypeIs v T ∧ ∀ a, v = .ref a → ∃ ob, s.heap.get? a = some ob ∧ ob.dict = none := by
  cases x with
  | str z =>
    obtain ⟨t, rfl⟩ := r
    cases (show T = "str" from ty)
    exact ⟨typeIs_str s z t, fun _ e => nomatch e⟩
  | int i =>
    obtain ⟨t, rfl⟩ := r
    cases (show T = "int" from ty)
    exact ⟨typeIs_int s i t, fun _ e => nomatch e⟩
  | ref p =>
    cases r
    rcases ty with ⟨rfl, xs, hq⟩ | ⟨rfl, o, hk, hc, hd⟩ | ⟨rfl, hk⟩ | ⟨rfl, ks, hk⟩
    · obtain ⟨its, _, pl, _⟩ := I.list hq
      refine ⟨pl.isList.typeIs, fun a e => ?_⟩
      cases e
      obtain ⟨o, n, e, c, hd, _⟩ := pl
      exact ⟨o, e, hd⟩
    · refine ⟨⟨o, I.kIn p o hk, hc⟩, fun a e => ?_⟩
      cases e
      exact ⟨o, I.kIn _ o hk, hd⟩
    · have z : ∃ o, s.heap.get? p = some o ∧ o.ExactDict := by
        rcases hk with ⟨kvs, hk⟩ | ⟨kvs, hk⟩
        · obtain ⟨_, _, _, _, o, _, _, e, ex, _⟩ := I.hok p _ hk
          exact ⟨o, e, ex⟩
        · obtain ⟨_, _, _, _, o, _, _, e, ex, _⟩ := I.hok p _ hk
          exact ⟨o, e, ex⟩
      obtain ⟨o, e, ex⟩ := z
      refine ⟨⟨o, e, ex.1⟩, fun a e2 => ?_⟩
      cases e2
      exact ⟨o, e, ex.2.1⟩
    · obtain ⟨o, _, _, _, _, e, ex, _⟩ := I.hok p _ hk
      refine ⟨⟨o, e, ex.1⟩, fun a e2 => ?_⟩
      cases e2
      exact ⟨o, e, ex.2.1⟩
  | _ => exact False.elim ty
def tBM (K : PySem.W.Frag) (T : String) (r : V → List V → Hp → VK → Prop) (to : TE) (t : TA) : TE := fun σ H Q => to σ H fun x H1 => tyV K T x H1 ∧ t σ H1 fun xs H2 => r x xs H2 Q
variable {o e : Expr} {es : List Expr} {to : TE} {t : TA} {name : Str} {apos cpos : Pos} {T id : String} {r : V → List V → Hp → VK → Prop}
theorem pe_bm (pa : PlainAttrs T) (slot : Slot T name id) (hty : typeOf (.builtin id) = pure (.type "method_descriptor")) (hm : MtR X id r) (ho : PE X o to) (ha : PA X (e :: es) t)
    (hbase : attributeBase o name X.env (eval o X.env) = eval o X.env := by rfl)
    (hfew : ((backTo cpos (starEach (e :: es) X.env)).all (fun x => !x.1) && (backToKw cpos (keywordEach [] X.env)).all (fun x => x.1.isSome)
      && decide ((e :: es).length + ([] : List Keyword).length + (if ([] : List Keyword).isEmpty then 0 else 1) < 30)) = true := by rfl)
    (hline : (apos.endLine == cpos.line) = true := by rfl) (hs : starEach (e :: es) X.env = (false, eval e X.env) :: starEach es X.env := by rfl) (hplain : (backTo cpos (starEach es X.env)).any (·.1) = false := by rfl) :
    PE X (.Call (.Attribute o name apos) (e :: es) [] cpos) (tBM X.K T r to t) := by
  intro pins s σ H Q I h
  refine wpAny_Call_method_late hbase hfew hline rfl (thn (ho pins s σ H _ I h) fun v s1 ⟨x, H1, I1, r1, ty, q1⟩ => ?_)
  obtain ⟨h1, h2⟩ := tyV_is I1 r1 ty
  refine ⟨T, id, pa, slot, hty, h1, h2, ?_⟩
  have hA := ha cpos pins s1 σ H1 _ I1 q1
  rw [hs] at hA ⊢
  refine Calls.callWith_builtin (by show (false || (backTo cpos (starEach es X.env)).any (·.1)) = false; rw [hplain] <;> rfl) (Calls.evalArgs_plain ?_)
  exact thn hA fun us s2 ⟨vs, H2, I2, r2, q2⟩ => hm pins s2 σ H2 x vs v us Q I2 r1 r2 q2
/- xs.append(e), list.index on a module's tuple .. are MtR facts of 06m -/
end
end L2
namespace L2
open PySem PySem.Spec PyProof.Rows
def MtM (X : Cx) (id : String) (r : V → List V → Hp → VK → Prop) : Prop :=
  ∀ (pins : List (Addr × Obj)) (s : Shared) (σ : St) (H : Hp) (x : V) (xs : List V) (v : Value) (us : List Value) (Q : VK), Inv X pins σ H s → RelV x v → Vals xs us → r x xs H Q →
    wpAny (model X.prog X.w) X.A (call (.builtin id) (v :: us)) (EP X pins σ Q) X.xe s
/-! ### lists of values -/
theorem Vals.one : ∀ {x : V} {us : List Value}, Vals [x] us → ∃ u, us = [u] ∧ RelV x u
  | _, _, .cons r .nil => ⟨_, rfl, r⟩
theorem Vals.two : ∀ {x y : V} {us : List Value}, Vals [x, y] us → ∃ u v, us = [u, v] ∧ RelV x u ∧ RelV y v
  | _, _, _, .cons r (.cons q .nil) => ⟨_, _, rfl, r, q⟩
theorem Vals.zero : ∀ {us : List Value}, Vals [] us → us = []
  | _, .nil => rfl
theorem Vals.eraseIdx : ∀ {xs : List V} {us : List Value} (i : Nat), Vals xs us → Vals (xs.eraseIdx i) (us.eraseIdx i)
  | _, _, _, .nil => .nil
  | _, _, 0, .cons _ t => t
  | _, _, i + 1, .cons r t => .cons r (Vals.eraseIdx i t)
theorem Vals.reverse {xs : List V} {us : List Value} (h : Vals xs us) : Vals xs.reverse us.reverse := by
  induction h with
  | nil => exact .nil
  | cons r t ih => rw [List.reverse_cons, List.reverse_cons]; exact Vals.append ih (.cons r .nil)
theorem Vals.rep {xs : List V} {us : List Value} (h : Vals xs us) : ∀ k : Nat, Vals (List.replicate k xs).flatten (List.replicate k us).flatten
  | 0 => .nil
  | k + 1 => by
    rw [List.replicate_succ, List.replicate_succ, List.flatten_cons, List.flatten_cons]
    exact Vals.append h (Vals.rep h k)
theorem len_erase {α : Type} : ∀ (l : List α) (i : Nat), (l.eraseIdx i).length ≤ l.length
  | [], _ => Nat.le_refl _
  | _ :: _, 0 => Nat.le_succ _
  | _ :: r, i + 1 => Nat.succ_le_succ (len_erase r i)
theorem foldl_rep (its : List Value) : ∀ (k : Nat) (acc : List Value),
    List.foldl (fun x1 x2 => x1 ++ x2) acc.toArray (List.replicate k its.toArray) = (acc ++ (List.replicate k its).flatten).toArray
  | 0, acc => by simp
  | k + 1, acc => by
    have e : acc.toArray ++ its.toArray = (acc ++ its).toArray := by simp
    have e2 : (acc ++ its) ++ (List.replicate k its).flatten = acc ++ (List.replicate (k + 1) its).flatten := by
      rw [List.replicate_succ, List.flatten_cons, List.append_assoc]
    rw [← e2, ← foldl_rep its k (acc ++ its), ← e, List.replicate_succ, List.foldl_cons]
section
variable {X : Cx} {pins : List (Addr × Obj)} {σ : St} {H : Hp} {s : Shared} {l b : Addr} {xs ys zs : List V}
/-! ### the two steps: a tracked list is rewritten, a new list is laid -/
theorem Inv.lset {its its' : List Value} {n : Nat} {f : Array Value → Array Value} {t' : Nat} (I : Inv X pins σ H s) (hH : H l = some (.lst xs))
    (e : s.heap.get? l = some { cls := .type "list", data := .seq its.toArray n }) (hf : f its.toArray = its'.toArray) (hv : Vals ys its') (hz : ys.length ≤ sizeLine) :
    Inv X pins σ (upd H l (.lst ys)) { s with heap := s.heap.update l (Obj.mapSeq f), toks := t' } := by
  have q := PySem.IsL.update e f
  rw [hf] at q
  refine I.write (x := l) (e := l) (by rw [hH]; exact trivial) (.inl rfl) (fun b' u hb hu => (Heap.get?_update_other s.heap (Obj.mapSeq f) (Ne.symm hb)).trans hu) ⟨_, q⟩ ?_
  exact ⟨hz, its', _, hv, q⟩
theorem Inv.lnew {its : List Value} {t' : Nat} (I : Inv X pins σ H s) (hv : Vals ys its) (hz : ys.length ≤ sizeLine) :
    Inv X pins σ (upd H s.heap.objs.size (.lst ys)) { s with heap := s.heap.push { cls := .type "list", data := .seq its.toArray }, toks := t' } :=
  I.laid (fun _ _ q => Heap.get?_push_of_some _ q) (Nat.le_refl _) ⟨hz, its, 0, hv, Heap.get?_push_size _ rfl⟩
theorem Inv.fresh (I : Inv X pins σ H s) : H s.heap.objs.size = none := I.hok.fresh (Nat.le_refl _)
theorem Inv.lstM (I : Inv X pins σ H s) (hH : H l = some (.lst xs)) : xs.length ≤ sizeLine ∧ ∃ (its : List Value) (n : Nat), Vals xs its ∧ xs.length = its.length ∧ s.heap.get? l = some { cls := .type "list", data := .seq its.toArray n } := by
  obtain ⟨z, its, n, r, e⟩ := I.hok l _ hH
  exact ⟨z, its, n, r, r.length, e⟩
theorem notLongL {n : Nat} (h : n ≤ sizeLine) : Builtin.List.listTooLong n = false := by
  unfold Builtin.List.listTooLong
  exact decide_eq_false (by omega)
end
section
variable {X : Cx}
/-! ### methods -/
def rAppend : V → List V → Hp → VK → Prop := fun x vs H Q => ∃ l xs y, x = .ref l ∧ vs = [y] ∧ H l = some (.lst xs) ∧ xs.length < sizeLine ∧ Q .non (upd H l (.lst (xs ++ [y])))
theorem mt_append : MtM X "list.append" rAppend := by
  intro pins s σ H x vs v us Q I rx rv h
  obtain ⟨l, xs, y, rfl, rfl, hH, hz, q⟩ := h
  cases rx
  obtain ⟨u, rfl, ru⟩ := rv.one
  obtain ⟨z, its, n, r, hl, e⟩ := I.lstM hH
  refine call_meets F.slot_list_append ⟨_, e, rfl⟩ F.entry_list_append (F.args_list_append_2 _ _) (PySem.list_append l its.toArray n u (by rw [List.size_toArray]; omega)) ⟨e, ?_⟩
  refine ⟨.non, _, I.lset (its' := its ++ [u]) hH e (by simp) (r.append (.cons ru .nil)) ?_, rfl, q⟩
  rw [List.length_append, List.length_singleton]
  omega
def rPopAt : V → List V → Hp → VK → Prop := fun x vs H Q => ∃ l xs i k y, x = .ref l ∧ vs = [.int i] ∧ H l = some (.lst xs) ∧ -(2 ^ 63) ≤ i ∧ i < 2 ^ 63 ∧ seqIndex? i xs.length = some k ∧ xs[k]? = some y ∧ Q y (upd H l (.lst (xs.eraseIdx k)))
theorem mt_popAt : MtM X "list.pop" rPopAt := by
  intro pins s σ H x vs v us Q I rx rv h
  obtain ⟨l, xs, i, k, y, rfl, rfl, hH, h1, h2, hk, hy, q⟩ := h
  cases rx
  obtain ⟨u, rfl, ru⟩ := rv.one
  obtain ⟨t, rfl⟩ := ru
  obtain ⟨z, its, n, r, hl, e⟩ := I.lstM hH
  obtain ⟨w, hw, rw'⟩ := r.get hy
  refine call_meets F.slot_list_pop ⟨_, e, rfl⟩ F.entry_list_pop (F.args_list_pop_2 _ _)
    (MeetsSeq.list_pop_at l its.toArray n i t k w (fitsIndex_both h1 h2) (by rw [List.size_toArray, ← hl]; exact hk) (by rw [← Array.getElem?_toList]; exact hw) (by rw [List.size_toArray]; omega)) ⟨e, ?_⟩
  refine ⟨y, _, I.lset (its' := its.eraseIdx k) hH e ?_ (r.eraseIdx k) ?_, rw', q⟩
  · show its.toArray.eraseIdxIfInBounds k = (its.eraseIdx k).toArray
    rw [List.eraseIdxIfInBounds_toArray]
  · have := len_erase xs k
    omega
/-! ### list + list, list += list, list * int -/
def rCat : R2 := fun x y H Q => ∃ l b xs zs, x = .ref l ∧ y = .ref b ∧ H l = some (.lst xs) ∧ H b = some (.lst zs) ∧ xs.length + zs.length ≤ sizeLine ∧ ∀ p, H p = none → Q (.ref p) (upd H p (.lst (xs ++ zs)))
theorem op_cat : OpR X (binaryOp .Add) rCat := by
  intro pins s σ H x y v u Q I rx ry h
  obtain ⟨l, b, xs, zs, rfl, rfl, hH, hB, hz, q⟩ := h
  cases rx
  cases ry
  obtain ⟨z, its, n, r, hl, e⟩ := I.lstM hH
  obtain ⟨z2, its2, n2, r2, hl2, e2⟩ := I.lstM hB
  refine PySem.P.add_list e e2 ?_ (by rw [List.size_toArray, List.size_toArray]; omega)
  have ea : its.toArray ++ its2.toArray = (its ++ its2).toArray := by simp
  rw [ea]
  exact ⟨.ref _, _, I.lnew (t' := s.toks) (r.append r2) (by rw [List.length_append]; omega), rfl, q _ I.fresh⟩
/-- a list times an int (a negative one is nothing) -/
def rRep : R2 := fun x y H Q => ∃ l k xs, x = .ref l ∧ y = .int k ∧ H l = some (.lst xs) ∧ -(2 ^ 63) ≤ k ∧ k < 2 ^ 63 ∧ xs.length * k.toNat ≤ sizeLine ∧
  ∀ p, H p = none → Q (.ref p) (upd H p (.lst (List.replicate k.toNat xs).flatten))
theorem len_rep {α : Type} (xs : List α) (k : Nat) : (List.replicate k xs).flatten.length = k * xs.length := by
  induction k with
  | zero => simp
  | succ k ih => rw [List.replicate_succ, List.flatten_cons, List.length_append, ih, Nat.succ_mul, Nat.add_comm]
theorem op_rep : OpR X (binaryOp .Mult) rRep := by
  intro pins s σ H x y v u Q I rx ry h
  obtain ⟨l, k, xs, rfl, rfl, hH, h1, h2, hz, q⟩ := h
  cases rx
  obtain ⟨t, rfl⟩ := ry
  obtain ⟨z, its, n, r, hl, e⟩ := I.lstM hH
  have hlen : its.toArray.size * k.toNat ≤ sizeLine := by rw [List.size_toArray, ← hl]; exact hz
  have hcap : ¬ its.toArray.size * k.toNat > (2 ^ 63 - 1) / 8 := by
    have : (sizeLine : Nat) ≤ (2 ^ 63 - 1) / 8 := by decide
    omega
  have hfit : ¬ (!Builtin.List.listFitsIndex k) = true := by
    rw [fitsIndex_both h1 h2]
    exact Bool.false_ne_true
  have hlong : ¬ Builtin.List.listTooLong (its.toArray.size * k.toNat) = true := by
    rw [notLongL hlen]
    exact Bool.false_ne_true
  have hnew : List.foldl (fun x1 x2 => x1 ++ x2) #[] (List.replicate (if its.toArray.isEmpty = true then 0 else k.toNat) its.toArray) = (List.replicate k.toNat its).flatten.toArray := by
    have f0 : ∀ m : Nat, List.foldl (fun x1 x2 => x1 ++ x2) #[] (List.replicate m its.toArray) = (List.replicate m its).flatten.toArray := fun m => by
      have := foldl_rep its m []
      rw [List.nil_append] at this
      exact this
    rw [f0]
    cases its with
    | nil => simp
    | cons a r' => rw [if_neg (by simp)]
  refine wpAny_binaryOp_repeat_ref (T := "list") (U := "int") (by decide) ⟨_, e, rfl⟩ (fun s' => typeIs_int s' k t) noFill_list_mul F.fills_int_mul F.slot_int_rmul repeat_list F.slot_int_index.lookup
    (call_meets F.slot_int_rmul (typeIs_int s k t) F.entry_int_rmul (F.args_int_rmul_2 _ _) (int___rmul___int_list k t l its.toArray n)
      ⟨e, rfl, ⟨_, e, rfl⟩, call_meets F.slot_list_mul ⟨_, e, rfl⟩ F.entry_list_mul (F.args_list_mul_2 _ _) (AutoListH.list___mul___list_int_3 l its.toArray n k t hfit hcap hlong) ⟨e, ?_⟩⟩)
  rw [hnew]
  exact ⟨.ref _, _, I.lnew (t' := s.toks) (r.rep k.toNat) (by rw [len_rep, Nat.mul_comm]; exact hz), rfl, q _ I.fresh⟩
/-! ### del xs[i] -/
end
/-! ### xs[a:b] = ys -/
section
variable {prog : Program} {w : World} {A : Around} {E : Value → Shared → Prop} {s : Shared}
theorem bounds_run {a c n : Nat} (hac : a ≤ c) (hc : c ≤ n) : sliceBounds (some (a : Int)) (some (c : Int)) none n = ((a : Int), (c : Int), 1) := by
  simp only [sliceBounds, Option.getD_none]
  have h1 : ¬ ((a : Int) < 0) := by omega
  have h2 : ¬ ((c : Int) < 0) := by omega
  simp only [h1, h2, if_false, show (1 : Int) > 0 by decide, if_true]
  congr 1
  · omega
  · congr 1; omega
set_option maxRecDepth 100000 in
/-- list.__setitem__ with a slice of step one and another list -/
theorem setItem_slice {l b sl : Addr} {items new : Array Value} {n n2 : Nat} {vl vu : Value} {a c : Nat} {Q : Unit → Shared → Prop}
    (e : s.heap.get? l = some { cls := .type "list", data := .seq items n }) (e2 : s.heap.get? b = some { cls := .type "list", data := .seq new n2 }) (hne : l ≠ b)
    (hs : s.heap.IsSliceOf sl vl vu .none) (pl : IsPart vl (some (a : Int))) (pu : IsPart vu (some (c : Int))) (hac : a ≤ c) (hc : c ≤ items.size)
    (hsz : items.size + new.size ≤ sizeLine) (h : Q () { s with heap := s.heap.update l (Obj.mapSeq fun xs => xs.extract 0 a ++ new ++ xs.extract c xs.size) }) :
    wpAny (model prog w) A (setItem (.ref l) (.ref sl) (.ref b)) Q E s := by
  have hl : s.heap.IsList l items := PySem.IsL.isList e
  have hb : s.heap.IsList b new := PySem.IsL.isList e2
  obtain ⟨os, hos, hcs, hds⟩ := id hs
  have hTs : s.TypeIs (.ref sl) "slice" := ⟨os, hos, hcs⟩
  have hstep : ¬ ((rawPart none == rawInt 0) = true) := Bool.false_ne_true
  have hsame : Builtin.List.listSameRef (.ref l) (.ref b) = false := by
    unfold Builtin.List.listSameRef
    exact beq_eq_false_iff_ne.mpr hne
  have hmax : (max (a : Int) (c : Int)).toNat = c := by omega
  have hz' : ((fun xs : Array Value => xs.extract 0 a ++ new ++ xs.extract c xs.size) items).size ≤ sizeLine + 1 := by
    simp only [Array.size_append, Array.size_extract]
    omega
  unfold setItem
  try with_reducible refine wpAny_holding ?_
  first | refine wpAny_bind (wpAny_pure ?_) | skip
  refine wpAny_bind (wpAny_sequenceKey hl.typeIs (by decide) ?_)
  refine wpAny_bind (wpAny_callSpecial?_slot (name := Str.ofString "__setitem__") hl.typeIs slot_list_setitem
    (wpAny_call_entry slot_list_setitem hl.typeIs entry_list_setitem ?_ (args_list_setitem _ _ _)))
  show wpAny _ _ (Builtin.List.listSubscript? (.ref sl) >>= _) _ _ s
  refine wpAny_bind ?_
  unfold Builtin.List.listSubscript?
  refine wpAny_bind (wpAny_specialOf hTs slice_no_index ?_)
  simp only [Option.isNone_none, if_true]
  refine wpAny_pure ?_
  show wpAny _ _ (typeOf (.ref sl) >>= _) _ _ s
  refine wpAny_bind (wpAny_typeOf hTs ?_)
  first
    | rw [if_neg (by decide)]
    | refine PySem.W.KFB.if_not (by decide) ?_
  rw [listSliceParts_eq]
  refine wpAny_bind (wpAny_bind (wpAny_field hos hds (x := .none) rfl (wpAny_bind (wpAny_listPart .none ?_))))
  rw [if_neg hstep]
  refine wpAny_bind (wpAny_field hos hds (x := vl) rfl (wpAny_bind (wpAny_listPart pl ?_)))
  refine wpAny_bind (wpAny_field hos hds (x := vu) rfl (wpAny_bind (wpAny_listPart pu (wpAny_pure ?_))))
  first
    | simp only [hsame, Bool.false_eq_true, if_false]
    | refine PySem.W.KFB.if_not hsame ?_
    | (dsimp only
       rw [if_neg (by rw [hsame]; exact Bool.false_ne_true)])
  refine wpAny_bind (m := Builtin.List.listAllItems (.ref b) "must assign iterable to extended slice") ?_
  unfold Builtin.List.listAllItems
  refine wpAny_bind (wpAny_typeOf hb.typeIs ?_)
  first
    | refine PySem.W.KFB.if_so (by decide) ?_
    | rw [if_pos (by decide)]
    | simp only [beq_self_eq_true, Bool.true_or, if_true]
  unfold Builtin.List.listItems
  refine wpAny_bind (wpAny_seqItems e2 rfl (wpAny_pure ?_))
  refine wpAny_bind (wpAny_bind (wpAny_seqItems e rfl (wpAny_pure ?_)))
  refine wpAny_bind (wpAny_of_eq ((sliceIndices_raw (some (a : Int)) (some (c : Int)) none items.size (by simp)).trans (congrArg (pure : Int × Int × Int → Sem (Int × Int × Int)) (bounds_run hac hc))) ?_)
  show wpAny _ _ (if ((1 : Int) == 1) = true then _ else _) _ _ s
  rw [if_pos (by decide)]
  refine wpAny_bind (wpAny_rule ?_)
  first
    | simp only [notLongL hsz, Bool.false_eq_true, if_false]
    | refine PySem.W.KFB.if_not (notLongL hsz) ?_
  first | refine wpAny_bind (wpAny_pure ?_) | skip
  show wpAny _ _ (updateSeq l (fun xs => xs.extract 0 ((a : Int)).toNat ++ new ++ xs.extract (max (a : Int) (c : Int)).toNat xs.size) >>= _) _ _ s
  rw [hmax, Int.toNat_natCast]
  refine wpAny_bind (wpAny_updateSeq (hz := Nat.le_trans (Nat.le_add_right _ _) hsz) (_hz' := hz') e rfl ?_)
  refine wpAny_bind (wpAny_letGo ?_)
  first
    | exact wpAny_bind (wpAny_pure (wpAny_pure ⟨.none, rfl, wpAny_pure h⟩))
    | exact wpAny_pure ⟨.none, rfl, wpAny_pure h⟩
end
section
variable {X : Cx}
end
end L2
namespace Att
open PySem PySem.W PySem.Calls PyProof.Rows
/-! ### the script -/
theorem ints_of_wellAll {P : Params} {h : Heap} : ∀ (ns : List Int) (vs : List Value), WellAll P h vs (ns.map WData.int) → IntsAre vs ns := by
  intro ns
  induction ns with
  | nil =>
    intro vs w
    rw [List.map_nil] at w
    cases w
    exact .nil
  | cons n ns ih =>
    intro vs w
    rw [List.map_cons] at w
    cases w with
    | cons a b =>
      cases a
      exact .cons _ _ (ih _ b)
theorem script_of {l : OpenLaw} {n : Nat} (hn : l.most = some n) {P : Params} {h : Heap} {args : List WData} {vals : List Value}
    (hpre : l.row.toRowW.claim.pre args = true) (hwl : WellAll P h vals args) :
    ∃ a vs ns, vals = [Value.ref a] ∧ args = [WData.list (ns.map WData.int)] ∧ h.get? a = some { cls := .type "list", data := .seq vs.toArray } ∧ IntsAre vs ns ∧ ns.length ≤ n := by
  have hsh : WShape.hasAll [] args [.list .int] = true := (pre_splitW hpre).1
  have hc : l.pre.holds [] { args := args } = true := (pre_splitW hpre).2
  obtain ⟨d, r, rfl, h1, h2⟩ := hasAllW_cons hsh
  obtain rfl := hasAllW_nil h2
  obtain ⟨xs, rfl, h3⟩ := hasW_list h1
  obtain ⟨ns, rfl⟩ := items_int h3
  have hlen : ns.length ≤ n := by
    unfold OpenLaw.pre at hc
    have h4 : (WTm.not (.lt (.lit (.int (n : Int))) (.len (.arg 0)))).holds [] { args := [.list (ns.map .int)] } = true := by
      have h4 := (holds_andW hc).1
      rw [hn] at h4
      exact h4
    have h5 := condW_of h4 (w_not (w_lt w_lit (w_len_list (w_arg rfl))))
    rw [List.length_map] at h5
    refine Nat.le_of_not_lt fun q => ?_
    have q' : (n : Int) < ((ns.length : Nat) : Int) := by omega
    first
      | (rw [decide_eq_true q'] at h5; exact absurd h5 (by decide))
      | (simp at h5; omega)
  cases hwl with
  | cons w1 w2 =>
    cases w2
    cases w1 with
    | list ho hall => exact ⟨_, _, ns, rfl, rfl, ho, ints_of_wellAll ns _ hall, hlen⟩
theorem post_true (l : OpenLaw) (args : List WData) : l.row.toRowW.claim.post args (.bool true) args = true :=
  postW_of (r := l.row.toRowW) (X := (true == true))
    (show WShape.has [] (.bool true) .bool = true by first | rfl | decide | simp [WShape.has, WShape.arms, WShape.armsAll])
    (show (WTm.eq .res (.lit (.bool true))).value [] { args := args, res := some (.bool true), after := args } = some (.bool (true == true)) from w_eq_bool (w_res rfl) w_lit) rfl
/-! ### the attachment: holds_open's last premise (the goal 'hc' behind k_head) from a wpAny of the law's body -/
/-- the same from a codeAny of the CALL (for a layer whose function contracts speak of calls) -/
theorem attach_call {l : OpenLaw} {n : Nat} {q : Program} {loose : List Str} {XP : (Str → Option Value) → Heap → Prop} {YP : World → Heap → Prop} {d : DefRec}
    (hn : l.most = some n) (hdf : d.params.defaults = [])
    (call : ∀ (w : World) (s₀ s₁ : Shared) (mg mb : Str → Option Value) (fa : Addr) (o : Obj) (pm cd doc : Value) (a : Addr) (vs : List Value) (ns : List Int),
      Ground q loose [] XP w s₀ mg mb s₁.heap → YP w s₁.heap →
      s₁.heap.get? fa = some o → o.data = .func (docDef d.name d.params d.body d.scope pm cd doc) → s₁.heap.CodeRec cd d.name → mg d.name = some (.ref fa) →
      s₁.heap.get? a = some { cls := .type "list", data := .seq vs.toArray } → IntsAre vs ns → ns.length ≤ n → s₁.gens = #[] →
      codeAny (model l.prog w) callerA (.call (.ref fa) ⟨[.ref a], []⟩) (fun r s' => r = .ok (.ret (.bool true)) ∧ OldK s₁.heap s'.heap ∧ s'.os = s₁.os ∧ AllBare s'.gens) s₁) :
    WalkO q loose XP YP l.row.toRowW d [] (fun f vs => PySem.call f vs) := by
  intro w s₀ s₁ mg mb G Y fa o pm cd doc dV kV ho hd hcd hD hmg hg args vals as hpre hlay hrd hwl hlo
  obtain rfl : dV = .none := Dflts.none hD hdf
  obtain rfl : kV = .none := Dflts.noKw hD
  obtain ⟨a, vs, ns, rfl, rfl, hobj, hints, hlen⟩ := script_of hn hpre hwl
  refine enter_call (codeAny_mono (call w s₀ s₁ mg mb fa o pm cd doc a vs ns G Y ho (fd_plain hd) hcd hmg hobj hints hlen hg) fun r s' hq => ?_)
  obtain ⟨rfl, h2, h3, h4⟩ := hq
  exact ⟨.inl ⟨.bool true, .bool true, [], rfl, fun _ => rfl, .bool true, post_true l _, fun _ => ⟨List.Pairwise.nil, fun _ hm => (nomatch hm)⟩⟩, h2, h3, h4⟩
/-! ### rules over ANY heap (no ledger) from facts about the written part K: the library's own take a ledger (News) for what they write -/
section
variable {prog : Program} {w : World} {A : Around} {E : Value → Shared → Prop} {s : Shared} {K : Frag}
/-! the whole heap as the ledger: makes every rule that writes through a ledger a rule over any heap -/
def ledger (h : Heap) (L d : Addr) : List (Addr × Obj) := (List.range h.objs.size).filterMap fun a => if a = L ∨ a = d then none else (h.get? a).map fun o => (a, o)
end
end Att
namespace L2
open PySem PySem.Spec PyProof.Rows
theorem vals_ints : ∀ {vs : List Value} {ns : List Int}, IntsAre vs ns → Vals (ns.map V.int) vs
  | _, _, .nil => .nil
  | _, _, .cons n t h => .cons ⟨t, rfl⟩ (vals_ints h)
/-- nothing is tracked but the script, known to the object (or it is an object of the module) -/
def Only (H : Hp) : Prop := ∀ b, H b = none ∨ ∃ o xs, H b = some (.frz o (.lst xs))
/-- THE HEAD: the law's promise, at the heap behind the top. F, the promise of the law's def, may use that base is part of the heap (so K.In base, base.Ns mainGlobals mg stand in Mod) -/
theorem law_call {P : Program} {w : World} {K : PySem.W.Frag} {mg mb : Str → Option Value} {CX : CXT} {k : Nat} {fa a : Addr} {fd : FuncData} {x : Str} {sp : Sp} {s₁ : Shared} {vs : List Value} {ns : List Int}
    (KX : K.In s₁.heap) (hns : s₁.heap.Ns mainGlobals mg) (hb : s₁.heap.Ns builtinsNs mb) (hbb : ∀ x : Str, x ≠ "__name__" → mb x = bootBuiltins x) (hlim : s₁.heap.NoLimit) (hg : s₁.gens = #[])
    (ha : s₁.heap.get? a = some { cls := .type "list", data := .seq vs.toArray }) (hi : IntsAre vs ns) (hl : ns.length ≤ sizeLine) (hr : Room k callerA)
    (F : ∀ base : Heap, K.In base → base.Ns mainGlobals mg → FnOk P w K mg base CX k fa fd [x] sp) (hbind : ∀ (s : Shared) (u : Value), BindsTo s fd ⟨[u], []⟩ [(x, u)])
    (hsp : ∀ H : Hp, Only H → SqL K H a (ns.map V.int) → sp [.ref a] H (fun v _ => v = .bl true) fun _ _ _ => False)
    (hCX : ∀ H e s', CX [] H s₁ (fun _ _ _ => False) e s' → False) :
    codeAny (model P w) callerA (.call (.ref fa) ⟨[.ref a], []⟩) (fun r s' => r = .ok (.ret (.bool true)) ∧ OldK s₁.heap s'.heap ∧ s'.os = s₁.os ∧ AllBare s'.gens) s₁ := by
  have rv := vals_ints hi
  have lenV := hi.length
  -- from an abstract heap in which nothing but the script may be tracked
  have core : ∀ H : Hp, Only H → SqL K H a (ns.map V.int) → HOk P w H s₁.heap → (∀ b, H b ≠ none → b = a) → (H a ≠ none → K.lookup a = none) →
      codeAny (model P w) callerA (.call (.ref fa) ⟨[.ref a], []⟩) (fun r s' => r = .ok (.ret (.bool true)) ∧ OldK s₁.heap s'.heap ∧ s'.os = s₁.os ∧ AllBare s'.gens) s₁ := by
    intro H hO hS hok hA hK
    have base_of : ∀ {b : Addr} {o : Obj}, s₁.heap.get? b = some o → H b = none → (hidT s₁.heap H).get? b = some o := fun e n => hidT_get e n
    have noA : ∀ {b : Addr} {o : Obj} {es : Array DictEntry} {ep : Nat}, s₁.heap.get? b = some o → o.data = .dict es ep → H b = none := fun {b o es ep} e d => by
      cases q : H b with
      | none => rfl
      | some u =>
        have e' : b = a := hA b (by rw [q]; simp)
        subst e'
        rw [ha] at e; cases e
        have d' : Data.seq vs.toArray _ = Data.dict es ep := d
        cases d'
    have nsK : ∀ {b : Addr} {m : Str → Option Value}, s₁.heap.Ns b m → (hidT s₁.heap H).Ns b m := fun {b m} ⟨o, es, ep, e, d, r⟩ => ⟨o, es, ep, base_of e (noA e d), d, r⟩
    have hKb : K.In (hidT s₁.heap H) := fun b o e => base_of (KX b o e) (by
      cases q : H b with
      | none => rfl
      | some u =>
        have e' : b = a := hA b (by rw [q]; simp)
        subst e'
        rw [hK (by rw [q]; simp)] at e; cases e)
    have hM : Mod K mg (hidT s₁.heap H) := ⟨hKb, nsK hns, ⟨mb, nsK hb, hbb⟩, let ⟨mc, h1, h2⟩ := hlim; ⟨mc, nsK h1, h2⟩⟩
    have e0 : Env0 P w K mg (hidT s₁.heap H) callerA [] s₁ H := ⟨rfl, hM, fun b o e => of_hidT e, Nat.le_of_eq (hidT_size _ _), trivial, fun b hb => absurd (show b ∈ ([] : List Addr) from hb) (by simp), hok, .of_eq hg⟩
    refine codeAny_mono ((F _ hKb (nsK hns)).run callerA [] s₁ H ⟨[.ref a], []⟩ [.ref a] [.ref a] _ _ hr e0 (hbind s₁ (.ref a)) (.cons rfl .nil) (hsp H hO hS)) fun r s' h => ?_
    cases r with
    | error e => exact (hCX H e s' h).elim
    | ok fl =>
      cases fl with
      | next => exact False.elim h
      | brk => exact False.elim h
      | cont => exact False.elim h
      | ret u =>
        obtain ⟨v, H', os, bare, un, hok', r', q⟩ := h
        have q' : v = .bl true := q
        subst q'
        obtain rfl : u = Value.bool true := r'
        refine ⟨rfl, OldK.of_keep fun b o e => ?_, os, bare⟩
        cases q : H b with
        | none => exact un.keep b o e q (by intro z; exact absurd (show b ∈ ([] : List Addr) from z) (by simp)) (by simp)
        | some u =>
          rcases hO b with z | ⟨ob, xs, z⟩
          · rw [q] at z; cases z
          · have z2 := un.frzs b ob _ z
            obtain ⟨e1, _⟩ := hok b _ z
            obtain ⟨e2, _⟩ := hok' b _ z2
            rw [e] at e1; cases e1
            exact e2
  cases hk : K.lookup a with
  | some o =>
    -- the script is one of the module's own objects
    have e := KX a o hk
    rw [ha] at e
    cases e
    refine core (fun _ => none) (fun _ => .inl rfl) (.inr ⟨_, vs.toArray, _, hk, rfl, rfl, rfl, by rw [List.size_toArray, lenV]; exact hl, by simpa using rv⟩) (fun b u z => by have z' : (none : Option HO) = some u := z; cases z') (fun b z => absurd rfl z) fun z => absurd rfl z
  | none =>
    refine core (fun b => if b = a then some (.frz { cls := .type "list", data := .seq vs.toArray } (.lst (ns.map V.int))) else none) (fun b => ?_) (.inl (.inr ⟨{ cls := .type "list", data := .seq vs.toArray }, if_pos rfl⟩)) (fun b u z => ?_) (fun b z => ?_) fun _ => hk
    · by_cases hb : b = a
      · exact .inr ⟨_, _, if_pos hb⟩
      · exact .inl (if_neg hb)
    · by_cases hb : b = a
      · have z' := (if_pos hb).symm.trans z
        cases z'
        subst hb
        exact ⟨ha, by rw [List.length_map]; exact hl, vs, _, rv, ha⟩
      · have z' := (if_neg hb).symm.trans z
        cases z'
    · by_cases hb : b = a
      · exact hb
      · exact absurd (if_neg hb) z
end L2
namespace L2
open PySem PySem.Spec PyProof.Rows
abbrev KOf {K : PySem.W.Frag} {h : Heap} (_ : K.In h) : PySem.W.Frag := K
/-- the goal that k_head leaves (case hc), from the law's promise. F gives the function object fd (K's own) once, then the promise over every base -/
theorem walk_of {l : PySem.W.OpenLaw} {n k : Nat} {q : Program} {loose : List Str} {XP : (Str → Option Value) → Heap → Prop} {YP : World → Heap → Prop} {d : DefRec} {K : Params → PySem.W.Frag} {CX : World → CXT} {sp : World → Sp} {x : Str}
    (hn : l.most = some n) (hn2 : n ≤ sizeLine) (hdf : d.params.defaults = []) (hr : Room k callerA)
    (hY : ∀ (w : World) (h : Heap), YP w h → (K w.params).In h)
    (F : ∀ (w : World) (mg : Str → Option Value) (fa : Addr) (h : Heap), (K w.params).In h → h.Ns mainGlobals mg → mg d.name = some (.ref fa) →
      ∃ fd : FuncData, (∀ (s : Shared) (u : Value), BindsTo s fd ⟨[u], []⟩ [(x, u)]) ∧
        ∀ base : Heap, (K w.params).In base → base.Ns mainGlobals mg → FnOk l.prog w (K w.params) mg base (CX w) k fa fd [x] (sp w))
    (hsp : ∀ (w : World) (H : Hp) (a : Addr) (ns : List Int), ns.length ≤ n → Only H → SqL (K w.params) H a (ns.map V.int) → sp w [.ref a] H (fun v _ => v = .bl true) fun _ _ _ => False)
    (hCX : ∀ (w : World) (H : Hp) (s : Shared) (e : Value) (s' : Shared), CX w [] H s (fun _ _ _ => False) e s' → False) :
    PySem.W.WalkO q loose XP YP l.row.toRowW d [] (fun f vs => PySem.call f vs) := by
  refine Att.attach_call hn hdf fun w s₀ s₁ mg mb fa o pm cd doc a vs ns G Y ho hd hcd hmg hobj hints hlen hg => ?_
  have KX := hY w _ Y
  obtain ⟨fd, hb, hF⟩ := F w mg fa _ KX G.T.g hmg
  exact law_call KX G.T.g G.T.b G.T.builtins G.T.nolimit hg hobj hints (Nat.le_trans hlen hn2) hr hF hb (fun H hO hS => hsp w H a ns hlen hO hS) fun H e s' => hCX w H s₁ e s'
end L2
/- THE LAST THEOREM (shape; LID, My.* are yours):
   My.Adr: a structure of the addresses that your layer names (classes, functions); My.Txt K t: a structure (Prop) of the equations over K;
   My.txt_mk : {K} {implicit addresses ..} (e1 : nsIn K mainGlobals "law" = some (some (.ref f))) (e2 : K.lookup f = some ⟨oc, od, .func (fnOf "law" "law" params body scope dV kV doc pm an cdv ct), sl⟩) (e3 : codeIn K cdv "law" = true) .. : ∃ t, My.Txt K t
set_option maxRecDepth 100000 in
set_option maxHeartbeats 0 in
theorem PySem.Challenge.cw_LID_holds : PySem.Challenge.rw_LID.Holds := by
  w_on; o_law; k_head; (case hw => w_witness2)
  k_fill
  refine L2.walk_of (l := PySem.Challenge.rw_LID) (n := 63) (k := 40) (x := "script") (CX := fun w => ..) (sp := fun _ => My.sp_law) rfl (by decide) rfl ⟨rfl, by decide, by decide⟩ (fun w h Y => PySem.W.kIn_of Y) ?F ?S ?C
  case F =>
    intro w mg fa h KX G hmg
    have T : ∃ t, My.Txt (L2.KOf KX) t := by
      dsimp only [L2.KOf]                          -- K must stand as «<heap const> w.params» for k_is
      refine' My.txt_mk ?e1 ?e2 ?e3 ..
      (case e1 => PySem.W.k_is)                    -- in the order: a name -> its address -> its object -> its parts
      (case e2 => PySem.W.k_is)
      ..
    obtain ⟨t, T⟩ := T
    have e0 := hmg.symm.trans (PySem.W.mg_of KX G T.law)
    cases e0                                       -- fa is the law's own address
    exact ⟨_, fun s u => .of_eq rfl, fun base kb nb => My.law_fn T kb nb⟩     -- if «.of_eq rfl» comes too early: refine' ⟨_, ?b, fun base kb nb => My.law_fn T kb nb⟩; exact fun s u => .of_eq rfl
  case S => exact fun w H a ns hl hO hS => ..
  case C => exact ..
(the tactic k_is has no namespace: write k_is) -/
/-! SHORT WORDS over the layer: a def of the text, its body, what a loop and a test want. -/
namespace L2
open PySem PySem.Spec PyProof.Rows
/-! ### the text by places -/
def defArgs (s : Stmt) : Arguments := match s with
  | .FunctionDef _ a _ _ _ _ _ _ _ _ => a
  | _ => { posonlyargs := [], args := [], vararg := none, kwonlyargs := [], kw_defaults := [], kwarg := none, defaults := [] }
def defBody (s : Stmt) : List Stmt := match s with
  | .FunctionDef _ _ b _ _ _ _ _ _ _ => b
  | _ => []
def defScope (s : Stmt) : Scope := match s with
  | .FunctionDef _ _ _ _ _ _ sc _ _ _ => sc
  | _ => { kind := .function, names := [], isGenerator := false, isCoroutine := false }
/-! ### no exception leaves a def -/
abbrev CX0 : CXT := fun _ _ _ _ _ _ => False
abbrev E0 : XK := fun _ _ _ => False
theorem pass0 {X : Cx} : Passes CX0 X E0 := fun _ _ _ _ _ _ _ h => h.elim
/-! ### a def (or method) of the text as it stands behind the top -/
structure Fun (K : PySem.W.Frag) (x qual : Str) (st : Stmt) (f : Addr) (fd : FuncData) : Prop where
  ex : ∃ (oc : Value) (od : Option Addr) (kV doc pm : Value) (an : Option Addr) (cdv ct : Value) (osl : Array (Option Value)),
    fd = PySem.W.fnOf x qual (defArgs st) (defBody st) (defScope st) .none kV doc pm an cdv ct ∧ K.lookup f = some ⟨oc, od, .func fd, osl⟩ ∧ PySem.W.codeIn K cdv qual = true
  kp : PySem.W.keepIn K (.ref f) = true
section
variable {P : Program} {w : World} {K : PySem.W.Frag} {mg : Str → Option Value} {base : Heap}
/-- THE RULE for a def: its body as a term of rules, and the reading of that term -/
theorem Fun.ok {x qual : Str} {st : Stmt} {f : Addr} {fd : FuncData} {N ps : List Str} {k : Nat} {sp : Sp} (F : Fun K x qual st f fd) (S : FnScope N ps (defScope st)) (len : ∀ vs H Q E, sp vs H Q E → vs.length = ps.length)
    (hbody : ∀ (cdv : Value) (A : Around) (outer : List Env) (s : Shared) (H : Hp) (vs : List V) (Q : VK) (E : XK), Room k (A.deeper (envOfC qual (defScope st) s.heap.objs.size f cdv)) → sp vs H Q E →
      ∃ t, PSs (cxOf CX0 P w K mg base N qual (defScope st) f cdv A outer s H E).nox (defBody st) t ∧ t { nx := fun _ H' => Q .non H', rt := Q } (start N vs) H) : FnOk P w K mg base CX0 (k + 1) f fd ps sp := by
  obtain ⟨oc, od, kV, doc, pm, an, cdv, ct, osl, rfl, lk, hcd⟩ := F.ex
  refine fn_of lk hcd S len fun A outer s H vs Q E hr hsp => ?_
  obtain ⟨t, h, q⟩ := hbody cdv A outer s H vs Q E hr hsp
  exact ⟨t, h.nox, q⟩
/-- how its arguments bind (no defaults): h is «fun _ _ _ _ _ _ us hl => match us, hl with | [_, _], _ => rfl», one _ a parameter -/
theorem Fun.binds {x qual : Str} {st : Stmt} {f : Addr} {fd : FuncData} {ps : List Str} (F : Fun K x qual st f fd)
    (h : ∀ (kV doc pm : Value) (an : Option Addr) (cdv ct : Value) (us : List Value), us.length = ps.length → bindArgs (PySem.W.fnOf x qual (defArgs st) (defBody st) (defScope st) .none kV doc pm an cdv ct) ⟨us, []⟩ = pure (ps.zip us)) : Binds K fd ps [] := by
  obtain ⟨oc, od, kV, doc, pm, an, cdv, ct, osl, rfl, lk, hcd⟩ := F.ex
  exact .all (h kV doc pm an cdv ct)
theorem fun_mk {x qual : Str} {st : Stmt} {f : Addr} {oc : Value} {od an : Option Addr} {osl : Array (Option Value)} {kV doc pm cdv ct : Value} (l : K.lookup f = some ⟨oc, od, .func (PySem.W.fnOf x qual (defArgs st) (defBody st) (defScope st) .none kV doc pm an cdv ct), osl⟩)
    (c : PySem.W.codeIn K cdv qual = true) (k : PySem.W.keepIn K (.ref f) = true) : Fun K x qual st f (PySem.W.fnOf x qual (defArgs st) (defBody st) (defScope st) .none kV doc pm an cdv ct) := ⟨⟨oc, od, kV, doc, pm, an, cdv, ct, osl, rfl, l, c⟩, k⟩
end
/-! ### expressions in short: the name that stands in the i-th slot -/
section
variable {X : Cx}
end
/-! ### tests -/
/-! ### heaps -/
/-- all that was tracked is as it was -/
def Same (H H' : Hp) : Prop := ∀ b o, H b = some o → H' b = some o
theorem Same.refl (H : Hp) : Same H H := fun _ _ h => h
theorem Same.trans {H H1 H2 : Hp} (a : Same H H1) (b : Same H1 H2) : Same H H2 := fun c o h => b c o (a c o h)
theorem Same.free {H H' : Hp} (e : Same H H') {l : Addr} (h : H' l = Option.none) : H l = Option.none := by
  cases q : H l with
  | none => rfl
  | some o =>
    rw [e l o q] at h
    cases h
theorem Same.seq {K : PySem.W.Frag} {H H' : Hp} {a : Addr} {xs : List V} (e : Same H H') (h : SqL K H a xs) : SqL K H' a xs := by
  rcases h with (h | ⟨o, h⟩) | h
  · exact .inl (.inl (e _ _ h))
  · exact .inl (.inr ⟨o, e _ _ h⟩)
  · exact .inr h
end L2
set_option Elab.async false
set_option linter.all false
set_option maxRecDepth 100000
/-! A comprehension over one clause, as a rule of the hand layer. -/
namespace L2
open PySem PySem.Spec PyProof.Rows
/-- the tests of a clause, one after the other -/
abbrev testsM (ifs : List Expr) (env : Env) : Sem Bool :=
  forIn ifs true fun c r => if r = true then do { let ok ← isTrue c env (eval c env); pure (ForInStep.yield ok) } else pure (ForInStep.yield r)
theorem comp_loop {prog : Program} {w : World} {A : Around} {R : Result → Shared → Prop} {s : Shared} {elt target iter : Expr}
    {ifs : List Expr} {scope : Scope} {pos : Pos} {it acc : Value} {env : Env} (I : Nat → Shared → Prop)
    (turn : ∀ n s, I n s → wpAny (model prog w) A (pyNext it) (fun r s1 => match r with
      | none => R (.ok .next) s1
      | some v => wpAny (model prog w) A (letOwnedTupleGo target it v) (fun _ s2 =>
          wpAny (model prog w) A (assign target env v) (fun _ s3 =>
            wpAny (model prog w) A (testsM ifs env) (fun ok s4 =>
              if ok = true then wpAny (model prog w) A (eval elt env) (fun x s5 =>
                wpAny (model prog w) A (call (.builtin "list.append") [acc, x]) (fun _ s6 => ∃ m, m < n ∧ I m s6)
                  (notedBy (model prog w) A env fun e s' => R (.error e) s') s5)
                  (notedBy (model prog w) A env fun e s' => R (.error e) s') s4
              else ∃ m, m < n ∧ I m s4)
              (notedBy (model prog w) A env fun e s' => R (.error e) s') s3)
            (notedBy (model prog w) A env fun e s' => R (.error e) s') s2)
          (notedBy (model prog w) A env fun e s' => R (.error e) s') s1)
      (notedBy (model prog w) A env fun e s' => R (.error e) s') s)
    (n : Nat) (h : I n s) :
    codeAny (model prog w) A (.compLoop (.ListComp elt [⟨target, iter, ifs, 0⟩] scope pos) 0 it acc env) R s := by
  refine codeAny_loop rfl I (fun n s hI => ?_) n h
  show wpAny _ A ((compTurn (.ListComp elt [⟨target, iter, ifs, 0⟩] scope pos) 0 it acc env).onRaise
    (fun x => do noteFrame x env; theTreesLotGoes x)) _ _ s
  refine wpAny_noted ?_
  rw [compTurn_list]
  refine wpAny_bind (wpAny_standAt (wpAny_bind (wpAny_mono (turn n s hI) (fun r s1 h1 => ?_) fun _ _ z => z)))
  cases r with
  | none => exact wpAny_pure h1
  | some v =>
    refine wpAny_bind (wpAny_mono h1 (fun _ s2 h2 => ?_) fun _ _ z => z)
    refine wpAny_bind (wpAny_mono h2 (fun _ s3 h3 => wpAny_bind (wpAny_mono h3 (fun ok s4 h4 => ?_) fun _ _ z => z)) fun _ _ z => z)
    cases ok with
    | false => exact wpAny_pure ⟨rfl, h4⟩
    | true =>
      refine wpAny_bind (wpAny_bind (wpAny_mono h4 (fun x s5 h5 => wpAny_bind (wpAny_mono h5 (fun _ s6 h6 => ?_) fun _ _ z => z)) fun _ _ z => z))
      exact wpAny_pure (wpAny_pure ⟨rfl, h6⟩)
/-! ### the block's names -/
/-- the cells that a comprehension's block captures -/
def capCells (env : Env) : List (Str × NameKind) → List (Str × Addr) → List (Str × Addr)
  | [], acc => acc
  | (n, k) :: r, acc => capCells env r (if k == .free then match env.cells.lookup n with | some c => (n, c) :: acc | none => acc else acc)
theorem closure_eq {env : Env} : ∀ (names : List (Str × NameKind)) (acc : List (Str × Addr)), (∀ x ∈ names, x.2 = .free → ∃ c, env.cells.lookup x.1 = some c) →
    (forIn names acc fun (x : Str × NameKind) (r : List (Str × Addr)) => (if (x.2 == NameKind.free) = true then do { let c ← cellOf env x.1; pure (ForInStep.yield ((x.1, c) :: r)) } else pure (ForInStep.yield r) : Sem (ForInStep (List (Str × Addr))))) = (pure (capCells env names acc) : Sem _)
  | [], acc, _ => by rw [List.forIn_nil]; rfl
  | (n, k) :: r, acc, h => by
    rw [List.forIn_cons]
    have hr : ∀ x ∈ r, x.2 = .free → ∃ c, env.cells.lookup x.1 = some c := fun x hx => h x (List.mem_cons_of_mem _ hx)
    by_cases hk : k = .free
    · subst hk
      obtain ⟨c, hc⟩ := h (n, .free) List.mem_cons_self rfl
      have hc' : env.cells.lookup n = some c := hc
      simp only [capCells, beq_self_eq_true, if_true, cellOf, hc', pure_bind]
      exact closure_eq r _ hr
    · have hb : (k == NameKind.free) = false := by simpa using hk
      simp only [capCells, hb, Bool.false_eq_true, if_false, pure_bind]
      exact closure_eq r _ hr
theorem closureFor_eq {scope : Scope} {env : Env} (h : ∀ x ∈ scope.names, x.2 = .free → ∃ c, env.cells.lookup x.1 = some c) :
    closureFor scope env = pure (capCells env scope.names []) := by
  unfold closureFor
  exact congrArg (fun m : Sem (List (Str × Addr)) => m >>= fun z => pure z) (closure_eq scope.names [] h)
theorem cap_from {env : Env} : ∀ (names : List (Str × NameKind)) (acc : List (Str × Addr)) {x : Str} {c : Addr}, (capCells env names acc).lookup x = some c →
    env.cells.lookup x = some c ∨ acc.lookup x = some c
  | [], acc, x, c, h => .inr h
  | (n, k) :: r, acc, x, c, h => by
    rcases cap_from r _ h with q | q
    · exact .inl q
    · by_cases hk : (k == NameKind.free) = true
      · rw [if_pos hk] at q
        cases e : env.cells.lookup n with
        | none => rw [e] at q; exact .inr q
        | some c' =>
          rw [e] at q
          simp only [List.lookup_cons] at q
          cases hx : x == n with
          | true =>
            rw [hx] at q
            cases q
            have : x = n := by simpa using hx
            subst this
            exact .inl e
          | false => rw [hx] at q; exact .inr q
      · rw [if_neg hk] at q
        exact .inr q
theorem cap_stay {env : Env} {x : Str} {c : Addr} (hc : env.cells.lookup x = some c) : ∀ (names : List (Str × NameKind)) (acc : List (Str × Addr)),
    acc.lookup x = some c → (capCells env names acc).lookup x = some c
  | [], acc, h => h
  | (n, k) :: r, acc, h => by
    refine cap_stay hc r _ ?_
    by_cases hk : (k == NameKind.free) = true
    · rw [if_pos hk]
      cases e : env.cells.lookup n with
      | none => exact h
      | some c' =>
        simp only [List.lookup_cons]
        cases hx : x == n with
        | true =>
          have : x = n := by simpa using hx
          subst this
          rw [hc] at e
          exact e.symm
        | false => exact h
    · rw [if_neg hk]; exact h
theorem cap_has {env : Env} {x : Str} {c : Addr} (hc : env.cells.lookup x = some c) : ∀ (names : List (Str × NameKind)) (acc : List (Str × Addr)),
    (x, NameKind.free) ∈ names → (capCells env names acc).lookup x = some c
  | [], _, h => absurd h (by simp)
  | (n, k) :: r, acc, h => by
    rcases List.mem_cons.mp h with e | h
    · cases e
      refine cap_stay hc r _ ?_
      rw [if_pos (by simp), hc]
      simp [List.lookup_cons]
    · exact cap_has hc r _ h
theorem relabel_lookup {sc : Scope} {env : Env} {x : Str} {k : NameKind} (h : (relabel sc env).names.lookup x = some k) :
    ∃ k0, sc.names.lookup x = some k0 ∧ (k = k0 ∨ (k = .cell ∧ k0 = .free)) := by
  unfold relabel at h
  dsimp only at h
  generalize sc.names = ns at h ⊢
  induction ns with
  | nil => simp at h
  | cons a r ih =>
    obtain ⟨n, k1⟩ := a
    simp only [List.map_cons] at h
    by_cases hc : (k1 == NameKind.free && env.scope.kind == .function && env.kindOf n == some .cell) = true
    · rw [if_pos hc] at h
      simp only [List.lookup_cons] at h ⊢
      cases hx : x == n with
      | true =>
        rw [hx] at h
        cases h
        refine ⟨k1, rfl, .inr ⟨rfl, ?_⟩⟩
        simp only [Bool.and_eq_true] at hc
        simpa using hc.1.1
      | false => rw [hx] at h; exact ih h
    · rw [if_neg hc] at h
      simp only [List.lookup_cons] at h ⊢
      cases hx : x == n with
      | true => rw [hx] at h; cases h; exact ⟨_, rfl, .inl rfl⟩
      | false => rw [hx] at h; exact ih h
theorem relabel_free {sc : Scope} {env : Env} {x : Str} (h : sc.names.lookup x = some .free) :
    (relabel sc env).names.lookup x = some .cell ∨ (relabel sc env).names.lookup x = some .free := by
  unfold relabel
  dsimp only
  generalize sc.names = ns at h ⊢
  induction ns with
  | nil => simp at h
  | cons a r ih =>
    obtain ⟨n, k1⟩ := a
    simp only [List.map_cons]
    simp only [List.lookup_cons] at h
    by_cases hc : (k1 == NameKind.free && env.scope.kind == .function && env.kindOf n == some .cell) = true
    · rw [if_pos hc]
      simp only [List.lookup_cons]
      cases hx : x == n with
      | true => exact .inl rfl
      | false => rw [hx] at h; exact ih h
    · rw [if_neg hc]
      simp only [List.lookup_cons]
      cases hx : x == n with
      | true => rw [hx] at h; exact .inr h
      | false => rw [hx] at h; exact ih h
/-- what a comprehension's block may be: its names N', of which slot i is the caller's slot j where cap says so -/
structure CS (X : Cx) (sc : Scope) (N' : List Str) (cap : List (Option Nat)) : Prop where
  kind : sc.kind = .function
  nocell : ∀ y ∈ sc.names, y.2 ≠ .cell
  loc : ∀ x ∈ sc.names, x.2 = .local → sc.names.lookup x.1 = some .local
  fr : ∀ x ∈ sc.names, x.2 = .free → X.env.kindOf x.1 = some .cell ∨ X.env.kindOf x.1 = some .free
  len : cap.length = N'.length
  capt : ∀ (i j : Nat), cap[i]? = some (some j) → ∃ x, N'[i]? = some x ∧ X.N[j]? = some x ∧ sc.names.lookup x = some .free
def capSt (cap : List (Option Nat)) (σ : St) : St := cap.map fun o => match o with | some j => (σ[j]?).join | none => none
/-- the block's context -/
def Cx.comp (X : Cx) (N' : List Str) (sc : Scope) (s : Shared) (H : Hp) (fp : List Addr) (xe : Value → Shared → Prop) : Cx :=
  { X with N := N', s₀ := s, H₀ := H, env := compEnvC sc (capCells X.env sc.names []) s.heap.objs.size X.env, outer := X.stack, stack := X.stack, ex := fp, fn := fun _ => false, pn := [], xe := xe }
section
variable {X : Cx} {pins : List (Addr × Obj)} {σ : St} {H : Hp} {s : Shared} {sc : Scope} {N' : List Str} {cap : List (Option Nat)} {fp : List Addr} {xe : Value → Shared → Prop} {h' : Heap}
theorem CS.cells (S : CS X sc N' cap) (I : Inv X pins σ H s) : ∀ x ∈ sc.names, x.2 = .free → ∃ c, X.env.cells.lookup x.1 = some c := fun x hx hf =>
  I.ok.has x.1 (S.fr x hx hf)
theorem Inv.compIn {t : Nat} (I : Inv X pins σ H s) (S : CS X sc N' cap) (hf : ∀ b ∈ fp, FpOk X pins H b) (hlt : ∀ b ∈ fp, b < s.heap.objs.size)
    (hns : h'.Ns s.heap.objs.size fun _ => none) (hk : ∀ b o, s.heap.get? b = some o → h'.get? b = some o) :
    Inv (X.comp N' sc s H fp xe) [] (capSt cap σ) H { s with heap := h', toks := t } := by
  have hfrom : ∀ {x c}, (capCells X.env sc.names []).lookup x = some c → X.env.cells.lookup x = some c := fun {x c} q => by
    rcases cap_from _ _ q with z | z
    · exact z
    · simp at z
  have hlook : ∀ {x}, ((relabel sc X.env).names.lookup x = some .cell ∨ (relabel sc X.env).names.lookup x = some .free) → sc.names.lookup x = some .free := fun {x} q => by
    rcases q with q | q
    · obtain ⟨k0, e, z⟩ := relabel_lookup q
      rcases z with z | z
      · subst z; exact absurd rfl (S.nocell _ (PySem.mem_of_lookup e))
      · rw [e, z.2]
    · obtain ⟨k0, e, z⟩ := relabel_lookup q
      rcases z with z | z
      · rw [e, z]
      · cases z.1
  refine ⟨⟨I.ok.mod, ?_, I.ok.glob, I.ok.blt, Nat.le_refl _, fun x y c h1 h2 => I.ok.inj x y c (hfrom h1) (hfrom h2), fun x hx => ?_, fun x c q => absurd (show false = true from q) (by decide), I.ok.hd, I.ok.frames, .inl rfl, fun b hb => ⟨?_, fun x c q => ?_⟩,
      I.bs, Nat.le_trans I.ok.bsz I.sz, fun b o e hb => ?_, fun b hb hz => ?_, I.stack, I.stkFree⟩,
    rfl, I.bare, Un.kept hk, ⟨_, hns, fun i x v h1 h2 h3 => ?_⟩, fun x c q => ?_, I.hok.fresh (Nat.le_refl _), fun x c q => I.freeC x c (hfrom q), fun p hp => absurd (show p ∈ ([] : List (Addr × Obj)) from hp) (by simp), I.hok.kept hk, ?_⟩
  · exact S.kind
  · have e := hlook hx
    have e2 := PySem.mem_of_lookup e
    obtain ⟨c, hc⟩ := I.ok.has x (S.fr _ e2 rfl)
    exact ⟨c, cap_has hc _ _ e2⟩
  · exact Nat.ne_of_lt (hlt b hb)
  · exact (hf b hb).2.2.2.2.1 x c (hfrom q)
  · rcases (hf b hb).2.2.2.1 with z | z
    · exact I.ok.noex b o e z
    · exact absurd (Nat.lt_of_lt_of_le (Heap.lt_size e) (Nat.le_trans I.ok.bsz z)) (Nat.lt_irrefl _)
  · rcases List.mem_cons.mp (I.stkSub b hz) with z | z
    · exact (hf b hb).2.1 z
    · exact (hf b hb).2.2.1 z
  · have h2' : (cap.map fun o => match o with | some j => (σ[j]?).join | none => none)[i]? = some (some v) := h2
    rw [List.getElem?_map] at h2'
    cases e : cap[i]? with
    | none => rw [e] at h2'; cases h2'
    | some o =>
      rw [e] at h2'
      cases o with
      | none => simp at h2'
      | some j =>
        have hj : σ[j]? = some (some v) := by
          have h4 : (σ[j]?).join = some v := by simpa using h2'
          cases e2 : σ[j]? with
          | none => rw [e2] at h4; simp at h4
          | some o2 => rw [e2] at h4; simp at h4; rw [h4]
        obtain ⟨y, n1, n2, n3⟩ := S.capt i j e
        have ey : y = x := by
          have h1' : N'[i]? = some x := h1
          rw [n1] at h1'; exact Option.some.inj h1'
        subst ey
        have hm := PySem.mem_of_lookup n3
        have hkind := S.fr _ hm rfl
        obtain ⟨m, hn, hl⟩ := I.loc
        have vis : Vis X.env.scope y := by
          rcases hkind with z | z
          · exact .inr (.inl z)
          · exact .inr (.inr z)
        obtain ⟨u, r, l⟩ := hl j y v n2 hj vis
        refine ⟨u, r, .inr ?_⟩
        rcases l with ⟨z, _⟩ | ⟨_, c, hc, hcell⟩
        · have z' : X.env.kindOf y = some .local := z
          rcases hkind with q | q <;> (have q' : X.env.kindOf y = _ := q; rw [z'] at q'; cases q')
        · obtain ⟨o, ho, hd⟩ := hcell
          exact ⟨relabel_free n3, c, cap_has hc _ _ hm, o, hk c o ho, hd⟩
  · obtain ⟨v, o, ho, hd⟩ := I.cell x c (hfrom q)
    exact ⟨v, o, hk c o ho, hd⟩
  · show (cap.map _).length = N'.length
    rw [List.length_map]; exact S.len
theorem Inv.compOut {pins' : List (Addr × Obj)} {σ' : St} {H' : Hp} {s' : Shared} (I : Inv X pins σ H s) (hf : ∀ b ∈ fp, FpOk X pins H b)
    (J : Inv (X.comp N' sc s H fp xe) pins' σ' H' s') (hs : Heap.SameBut s.heap.objs.size s'.heap h') : Inv X pins σ H' { s' with heap := h' } := by
  have hu : Un (frs X.stack) fp H H' s.heap s'.heap := J.base
  have hC : H' s.heap.objs.size = none := J.free
  have lt : ∀ {b : Addr} {o : Obj}, s.heap.get? b = some o → b ≠ s.heap.objs.size := fun e => Nat.ne_of_lt (Heap.lt_size e)
  refine I.call' (s' := { s' with heap := h' }) (ch := fp) J.os ⟨fun b o e n h1 h2 => ?_, fun b o e n h1 h2 => ?_, hu.free, fun b o e h1 => ?_, hu.tups, hu.frzs, hu.tbls⟩ (fun b u e => ?_) J.bare (fun b hb => ⟨(hf b hb).2.2.2.1, (hf b hb).2.1, (hf b hb).2.2.2.2.1, (hf b hb).2.2.2.2.2⟩)
  · exact (hs.2 b (lt e)).trans (hu.keep b o e n h1 h2)
  · obtain ⟨sl, q⟩ := hu.slot b o e n h1 h2
    exact ⟨sl, (hs.2 b (lt e)).trans q⟩
  · obtain ⟨o', q⟩ := hu.there b o e h1
    exact ⟨o', (hs.2 b (lt e)).trans q⟩
  · refine (J.hok b u e).stay (fun c v hc q => ?_) (fun _ q => q) fun _ _ q => q
    have ne : c ≠ s.heap.objs.size := by
      rintro rfl
      rcases hc with z | z
      · rw [← z, hC] at e; cases e
      · rw [hC] at z; cases z
    exact (hs.2 c ne).trans q
end
end L2
set_option Elab.async false
set_option linter.all false
set_option maxRecDepth 100000
namespace L2
open PySem PySem.Spec PyProof.Rows
/-- the tests of a clause -/
def PTs (X : Cx) (ifs : List Expr) (t : TT) : Prop :=
  ∀ (pins : List (Addr × Obj)) (s : Shared) (σ : St) (H : Hp) (Q : Bool → Hp → Prop), Inv X pins σ H s → t σ H Q → wpAny (model X.prog X.w) X.A (testsM ifs X.env) (TP X pins σ Q) X.xe s
def tTests0 : TT := fun _ H Q => Q true H
def tTests (t r : TT) : TT := fun σ H Q => t σ H fun b H1 => if b = true then r σ H1 Q else Q false H1
theorem tests_off {X : Cx} {E : Value → Shared → Prop} {Q : Bool → Shared → Prop} : ∀ {ifs : List Expr} {s : Shared}, Q false s →
    wpAny (model X.prog X.w) X.A (forIn ifs false fun c r => if r = true then do { let ok ← isTrue c X.env (eval c X.env); pure (ForInStep.yield ok) } else pure (ForInStep.yield r)) Q E s
  | [], s, h => by rw [List.forIn_nil]; exact wpAny_pure h
  | c :: r, s, h => by
    rw [List.forIn_cons]
    refine wpAny_bind ?_
    rw [if_neg (by decide)]
    exact wpAny_pure (tests_off h)
theorem pts_nil {X : Cx} : PTs X [] tTests0 := fun pins s σ H Q I h => by
  unfold testsM
  rw [List.forIn_nil]
  exact wpAny_pure ⟨H, I, h⟩
theorem pts_cons {X : Cx} {c : Expr} {r : List Expr} {t u : TT} (h1 : PT X c t) (h2 : PTs X r u) : PTs X (c :: r) (tTests t u) := fun pins s σ H Q I h => by
  unfold testsM
  rw [List.forIn_cons]
  refine wpAny_bind ?_
  rw [if_pos rfl]
  refine wpAny_bind (thn (h1 pins s σ H _ I h) fun b s1 ⟨H1, I1, q1⟩ => wpAny_pure ?_)
  cases b with
  | true => exact h2 pins s1 σ H1 Q I1 (by simpa using q1)
  | false => exact tests_off ⟨H1, I1, by simpa using q1⟩
/-- the comprehension's reading -/
def compRun (cap : List (Option Nat)) (g : TG) (ti : TT) (te : TE) (σ : St) (J : It) (D : Addr) (Q : Hp → Prop) (H : Hp) : Prop :=
  ∃ W : Nat → Nat → Hp → Prop, (∃ m, W 0 m H) ∧ ∀ i m H, W i m H →
    (J.stop i H ∧ Q H) ∨ (J.go i H ∧ ∀ x H1, J.yld i H x H1 → g x (capSt cap σ) H1 fun σ2 H2 => (∀ (j : Nat) v, (capSt cap σ)[j]? = some (some v) → σ2[j]? = some (some v)) ∧
      ti σ2 H2 fun ok H3 => if ok = true then te σ2 H3 fun v H4 => ∃ acc, H4 D = some (.lst acc) ∧ acc.length < sizeLine ∧ ∃ m', m' < m ∧ W (i + 1) m' (upd H4 D (.lst (acc ++ [v])))
        else ∃ m', m' < m ∧ W (i + 1) m' H3)
section
variable {X : Cx} {elt tg iter : Expr} {ifs : List Expr} {sc : Scope} {pos : Pos} {N' : List Str} {cap : List (Option Nat)} {g : TG} {ti : TT} {te : TE}
theorem comp_core {pins : List (Addr × Obj)} {σ : St} {H2 : Hp} {s2 : Shared} {it : Addr} {fp : List Addr} {tn : Nat → Heap → Prop} {J : It} {E : Value → Shared → Prop} {RR : Value → Addr → Result → Shared → Prop} {Q : Addr → Hp → Prop}
    (hc : X.calm = true) (S : CS X sc N' cap) (hg : ∀ s H fp xe, PG (X.comp N' sc s H fp xe) tg g) (ht : ∀ s H fp xe, PTs (X.comp N' sc s H fp xe) ifs ti) (he : ∀ s H fp xe, PE (X.comp N' sc s H fp xe) elt te)
    (I2 : Inv X pins σ H2 s2) (T : Turn X.prog X.w X.K tg J fp it tn) (st2 : tn 0 s2.heap) (f2 : ∀ b ∈ fp, FpOk X pins H2 b)
    (hq : ∀ D, H2 D = none → compRun cap g ti te σ J D (Q D) (upd H2 D (.lst [])))
    (hRR : ∀ (D : Addr) (s3 : Shared) (H3 : Hp) (xe : Value → Shared → Prop) (H' : Hp) (pins' : List (Addr × Obj)) (σ' : St) (s' : Shared), Inv X pins σ H3 s3 → (∀ b ∈ fp, FpOk X pins H3 b) → Inv (X.comp N' sc s3 H3 fp xe) pins' σ' H' s' → Q D H' → RR (.ref D) s3.heap.objs.size (.ok .next) s') :
    wpAny (model X.prog X.w) X.A (newList []) (fun acc s3 => wpAny (model X.prog X.w) X.A (newFunctionEnv sc X.env.globals (capCells X.env sc.names []) [] X.env.qual none .none (some X.env)) (fun cenv s4 =>
      codeAny (model X.prog X.w) X.A (.compStart (.ListComp elt [⟨tg, iter, ifs, 0⟩] sc pos) 0 (.ref it) acc { cenv with scope := relabel sc X.env }) (RR acc cenv.locals) s4) E s3) E s2 := by
  refine wpAny_newObj_type ?_
  have I3 := I2.lnew (ys := []) (its := []) (t' := s2.toks) .nil (Nat.zero_le _)
  have hfr : H2 s2.heap.objs.size = none := I2.fresh
  have lt2 : ∀ b ∈ fp, b < s2.heap.objs.size := fun b hb => by
    obtain ⟨o, e, _⟩ := T.obj _ _ st2 b hb
    exact Heap.lt_size e
  generalize hD : s2.heap.objs.size = D at I3 hfr lt2 ⊢
  have r0 := hq D hfr
  generalize hs3 : ({ s2 with heap := s2.heap.push { cls := .type "list", data := .seq ([] : List Value).toArray }, toks := s2.toks } : Shared) = s3 at I3
  have f3 : ∀ b ∈ fp, FpOk X pins (upd H2 D (.lst [])) b := fun b hb => ⟨by rw [upd_ne (Nat.ne_of_lt (lt2 b hb))]; exact (f2 b hb).1, (f2 b hb).2⟩
  have kp3 : ∀ b o, s2.heap.get? b = some o → s3.heap.get? b = some o := fun b o e => by rw [← hs3]; exact Heap.get?_push_of_some _ e
  have st3 : tn 0 s3.heap := T.keep _ _ _ st2 fun b hb o e => kp3 b o e
  have lt3 : ∀ b ∈ fp, b < s3.heap.objs.size := fun b hb => by
    obtain ⟨o, e, _⟩ := T.obj _ _ st3 b hb
    exact Heap.lt_size e
  generalize upd H2 D (.lst []) = H3 at I3 r0 f3
  refine wpAny_newFunctionEnv S.nocell (fun x hx => absurd hx (by simp)) (fun h1 hns hsb => ?_) S.kind
  have kp4 : ∀ b o, s3.heap.get? b = some o → h1.get? b = some o := fun b o e => by
    rw [hsb.2 b (Nat.ne_of_lt (Heap.lt_size e))]
    exact Heap.get?_push_of_some _ e
  have hns' : h1.Ns s3.heap.objs.size fun _ => none := hns
  have st4 : tn 0 h1 := T.keep _ _ _ st3 fun b hb o e => kp4 b o e
  have frees : ∀ b ∈ fp, H3 b = none := fun b hb => (f3 b hb).1
  -- the loop
  have loop : codeAny (model X.prog X.w) X.A (.compLoop (.ListComp elt [⟨tg, iter, ifs, 0⟩] sc pos) 0 (.ref it) (.ref D) (compEnvC sc (capCells X.env sc.names []) s3.heap.objs.size X.env))
      (RR (.ref D) s3.heap.objs.size) { s3 with heap := h1, toks := s3.toks + ([] : List (Str × Value)).length } := by
    let xe : Value → Shared → Prop := notedBy (model X.prog X.w) X.A (compEnvC sc (capCells X.env sc.names []) s3.heap.objs.size X.env) fun e s' => RR (.ref D) s3.heap.objs.size (.error e) s'
    have I4 : Inv (X.comp N' sc s3 H3 fp xe) [] (capSt cap σ) H3 { s3 with heap := h1, toks := s3.toks + ([] : List (Str × Value)).length } := I3.compIn S f3 lt3 hns' kp4
    have stat : ∀ {H' : Hp}, (∀ b ∈ fp, H' b = none) → ∀ b ∈ fp, FpOk (X.comp N' sc s3 H3 fp xe) [] H' b := fun hn b hb => by
      obtain ⟨q1, q2⟩ := I4.ok.exf b hb
      exact ⟨hn b hb, q1, I4.ok.exfs b hb, .inl hb, q2, fun p hp => absurd (show p ∈ ([] : List (Addr × Obj)) from hp) (by simp)⟩
    obtain ⟨W, ⟨m0, w0⟩, turn⟩ := r0
    refine comp_loop (fun n s' => ∃ i H', Inv (X.comp N' sc s3 H3 fp xe) [] (capSt cap σ) H' s' ∧ tn i s'.heap ∧ (∀ b ∈ fp, H' b = none) ∧ W i n H') ?_ m0 ⟨0, H3, I4, st4, frees, w0⟩
    rintro n s5 ⟨i, H5, I5, st5, fr5, w5⟩
    rcases turn i n H5 w5 with ⟨stop, qn⟩ | ⟨go, step⟩
    · refine thn (T.done (X.comp N' sc s3 H3 fp xe) rfl rfl rfl hc i [] s5 _ H5 xe I5 (stat fr5) st5 stop) fun r s6 ⟨hr, I6⟩ => ?_
      subst hr
      exact hRR D s3 H3 xe H5 [] _ s6 I3 f3 I6 qn
    · refine thn (T.item (X.comp N' sc s3 H3 fp xe) rfl rfl rfl hc i [] s5 _ H5 xe I5 (stat fr5) st5 go) fun r s6 ⟨u, hr, h6⟩ => ?_
      subst hr
      refine thn h6 fun _ s7 ⟨x, H7, I7, r7, y7, st7, fr7⟩ => ?_
      have I7' := I7.pinned (stat fr7) (T.obj _ _ st7)
      refine thn (hg s3 H3 fp xe _ s7 _ H7 x u _ I7' r7 (step x H7 y7)) fun _ s8 ⟨σ8, H8, I8, k8, q8⟩ => ?_
      refine thn (ht s3 H3 fp xe _ s8 σ8 H8 _ I8 q8) fun ok s9 ⟨H9, I9, q9⟩ => ?_
      have again : ∀ {σa : St} {Ha : Hp} {sa : Shared}, Inv (X.comp N' sc s3 H3 fp xe) ([] ++ pinsAt fp s7.heap) σa Ha sa → (∀ (j : Nat) v, (capSt cap σ)[j]? = some (some v) → σa[j]? = some (some v)) →
          Inv (X.comp N' sc s3 H3 fp xe) [] (capSt cap σ) Ha sa ∧ tn (i + 1) sa.heap ∧ ∀ b ∈ fp, Ha b = none := fun {σa Ha sa} Ia ka => by
        refine ⟨Ia.unpinned.weak (I5.len.trans Ia.len.symm) ka, T.keep _ _ _ st7 fun b hb o e => (Ia.pin (b, o) (List.mem_append_right _ (List.mem_append_right _ (mem_pinsAt hb e)))).1, fun b hb => ?_⟩
        obtain ⟨o, e, d⟩ := T.obj _ _ st7 b hb
        exact (Ia.pin (b, o) (List.mem_append_right _ (List.mem_append_right _ (mem_pinsAt hb e)))).2.1
      cases ok with
      | false =>
        have q9' : ∃ m', m' < n ∧ W (i + 1) m' H9 := by simpa using q9
        obtain ⟨m', hm, w9⟩ := q9'
        obtain ⟨a1, a2, a3⟩ := again I9 k8
        exact ⟨m', hm, i + 1, H9, a1, a2, a3, w9⟩
      | true =>
        rw [if_pos rfl] at q9
        refine thn (he s3 H3 fp xe _ s9 σ8 H9 _ I9 q9) fun v sa ⟨y, Ha, Ia, ra, acc, ea, za, m', hm, wa⟩ => ?_
        refine thn (mt_append (X := X.comp N' sc s3 H3 fp xe) _ sa σ8 Ha (.ref D) [y] (.ref D) [v] (fun _ H' => H' = upd Ha D (.lst (acc ++ [y]))) Ia rfl (.cons ra .nil) ⟨D, acc, y, rfl, rfl, ea, za, rfl⟩) fun _ sb ⟨_, Hb, Ib, _, eb⟩ => ?_
        subst eb
        obtain ⟨a1, a2, a3⟩ := again Ib k8
        exact ⟨m', hm, i + 1, _, a1, a2, a3, wa⟩
  exact codeAny_compStart_list loop (T.self _ 0 _ _ _ st4 loop)
/-- [elt for tg in iter if ..] -/
def tComp (cap : List (Option Nat)) (wi : TI) (g : TG) (ti : TT) (te : TE) : TE := fun σ H Q => wi σ H fun J H1 => ∀ D, H1 D = none → compRun cap g ti te σ J D (fun H' => Q (.ref D) H') (upd H1 D (.lst []))
theorem pe_comp {wi : TI} (hc : X.calm = true) (S : CS X sc N' cap) (hi : PI X tg iter wi) (hg : ∀ s H fp xe, PG (X.comp N' sc s H fp xe) tg g) (ht : ∀ s H fp xe, PTs (X.comp N' sc s H fp xe) ifs ti)
    (he : ∀ s H fp xe, PE (X.comp N' sc s H fp xe) elt te) (hs : ∀ x, foldedSetIterable iter X.env x = pure x := by intro _; rfl) : PE X (.ListComp elt [⟨tg, iter, ifs, 0⟩] sc pos) (tComp cap wi g ti te) := by
  intro pins s σ H Q I h
  rw [eval_ListComp]
  refine wpAny_comprehension_free (use := none) rfl hs (closureFor_eq (S.cells I)) S.kind S.loc (thn (hi pins s σ H _ I h) fun v s1 h1 => thn h1 fun itv s2 h2 => ?_)
  obtain ⟨it, fp, tn, J, H2, e, I2, T, st2, f2, rq⟩ := h2
  subst e
  refine comp_core (RR := fun acc C => compPost (model X.prog X.w) X.A X.xe none (EP X pins σ Q) acc C) (Q := fun D H' => Q (.ref D) H') hc S hg ht he I2 T st2 f2 rq ?_
  intro D s3 H3 xe H' pins' σ' s' I3 f3 J3 q
  obtain ⟨m, hn, _⟩ := id J3.loc
  exact ⟨m, hn, fun h' hs => ⟨.ref D, H', I3.compOut f3 J3 hs, rfl, q⟩⟩
/-- y = [elt for tg in iter if ..], y a plain local name -/
def sComp (cap : List (Option Nat)) (wi : TI) (g : TG) (ti : TT) (te : TE) (i : Nat) : TS := fun D σ H => wi σ H fun J H1 => ∀ d, H1 d = none → compRun cap g ti te σ J d (fun H' => D.nx (σ.set i (some (.ref d))) H') (upd H1 d (.lst []))
theorem ps_comp {wi : TI} {y : Str} {py spos : Pos} {i : Nat} (hc : X.calm = true) (S : CS X sc N' cap) (hi : PI X tg iter wi) (hg : ∀ s H fp xe, PG (X.comp N' sc s H fp xe) tg g) (ht : ∀ s H fp xe, PTs (X.comp N' sc s H fp xe) ifs ti)
    (he : ∀ s H fp xe, PE (X.comp N' sc s H fp xe) elt te) (hN : X.N.Nodup) (hy : X.N[i]? = some y) (hl : X.env.scope.names.lookup y = some .local)
    (hsw : swapsWith (.ListComp elt [⟨tg, iter, ifs, 0⟩] sc pos) (some (.Name y py)) spos.line X.env = pure true := by rfl) (hs : ∀ x, foldedSetIterable iter X.env x = pure x := by intro _; rfl) :
    PS X (.Assign [.Name y py] (.ListComp elt [⟨tg, iter, ifs, 0⟩] sc pos) spos) (sComp cap wi g ti te i) := by
  intro pins s σ H D I h
  rw [exec_Assign_Name_used _ _ _ _ hsw]
  refine wpAny_bind (wpAny_standAt (wpAny_bind ?_))
  show wpAny _ X.A (do let _ ← comprehension (.ListComp elt [⟨tg, iter, ifs, 0⟩] sc pos) sc X.env _ (newList []) false (eval iter X.env) (some (assign (.Name y py) X.env))) _ _ s
  refine wpAny_bind (wpAny_mono (wpAny_comprehension_free (use := some (assign (.Name y py) X.env)) (Q := fun _ s' => SP X pins D .next s') rfl hs (closureFor_eq (S.cells I)) S.kind S.loc
    (thn (hi pins s σ H _ I h) fun v s1 h1 => thn h1 fun itv s2 h2 => ?_)) (fun _ s' hq => wpAny_pure (wpAny_pure hq)) fun _ _ z => z)
  obtain ⟨it, fp, tn, J, H2, e, I2, T, st2, f2, rq⟩ := h2
  subst e
  refine comp_core (RR := fun acc C => compPost (model X.prog X.w) X.A X.xe (some (assign (.Name y py) X.env)) (fun _ s' => SP X pins D .next s') acc C) (Q := fun d H' => D.nx (σ.set i (some (.ref d))) H') hc S hg ht he I2 T st2 f2 rq ?_
  intro d s3 H3 xe H' pins' σ' s' I3 f3 J3 q
  obtain ⟨m, hn, _⟩ := id J3.loc
  have Is : Inv X pins σ H' s' := I3.compOut (h' := s'.heap) f3 J3 (Heap.SameBut.refl _ _)
  obtain ⟨oC, es, ep, hoC, hdC, hrC⟩ := id hn
  have hC : H' s3.heap.objs.size = none := J3.free
  have neL : s3.heap.objs.size ≠ X.env.locals := Nat.ne_of_gt I3.lt
  have nfs : s3.heap.objs.size ∉ X.fs := I3.nofs (Nat.le_refl _)
  have Ip : Inv X (pins ++ [(s3.heap.objs.size, oC)]) σ H' s' := Is.pins_of fun p hp => by
    rcases List.mem_append.mp hp with z | z
    · exact Is.pin p (List.mem_append_right _ z)
    · obtain rfl : p = (s3.heap.objs.size, oC) := by simpa using z
      exact ⟨hoC, hC, neL, nfs, fun v hv => by have hdC' : oC.data = _ := hdC; rw [hdC'] at hv; cases hv⟩
  show wpAny _ X.A (assign (.Name y py) X.env (.ref d)) _ _ s'
  refine thn (pg_name (X := X) (i := i) hN hy (.inl hl) (.inr hl) _ s' σ H' (.ref d) (.ref d) (fun σ2 H2 => D.nx σ2 H2) Ip rfl q) fun _ s4 ⟨σ4, H4, I4, q4⟩ => ?_
  have pn := I4.pin (s3.heap.objs.size, oC) (List.mem_append_right _ (List.mem_append_right _ (by simp)))
  refine ⟨m, ⟨oC, es, ep, pn.1, hdC, hrC⟩, fun h' hs => ⟨σ4, H4, ?_, q4⟩⟩
  have I4u : Inv X pins σ4 H4 s4 := I4.unpinned
  -- the block's names are let go: an object that is neither tracked nor the frame
  have st := I4u.step (g' := s4.gens) (t' := s4.toks) (d' := s4.drawn) (h' := h') (H' := H4) (ch := [s3.heap.objs.size]) (fun b hb => ?_) (fun b o _ _ hc e _ => (hs.2 b (by simpa using hc)).trans e)
    (fun b o _ _ hc e _ => ⟨o.slots, (hs.2 b (by simpa using hc)).trans e⟩) (fun _ _ _ _ n => n) (fun b o hc e => ⟨o, (hs.2 b (by simpa using hc)).trans e⟩) (fun _ _ e => e) (fun _ _ _ e => e) (fun b ps e => ⟨#[], by rw [e]; simp⟩) (fun m hm => ?_) (fun b u e => ?_) I4u.bare
  · exact st
  · have e : b = s3.heap.objs.size := by simpa using hb
    subst e
    refine ⟨.inr I3.sz, neL, fun x c e2 z => ?_, fun p hp z => ?_⟩
    · obtain ⟨v, q2⟩ := I3.cell x c e2
      exact absurd q2.lt (by rw [z]; exact Nat.lt_irrefl _)
    · have e3 := (I3.pin p hp).1
      exact absurd (Heap.lt_size e3) (by rw [z]; exact Nat.lt_irrefl _)
  · obtain ⟨o, es', ep', ho', r'⟩ := hm
    exact ⟨o, es', ep', (hs.2 _ (Ne.symm neL)).trans ho', r'⟩
  · refine (I4u.hok b u e).stay (fun c v hc q => ?_) (fun _ q => q) fun _ _ q => q
    have n4 : H4 s3.heap.objs.size = none := pn.2.1
    have ne : c ≠ s3.heap.objs.size := by
      rintro rfl
      rcases hc with z | z
      · rw [← z, n4] at e; cases e
      · rw [n4] at z; cases z
    exact (hs.2 c ne).trans q
end
end L2
set_option Elab.async false
set_option linter.all false
set_option maxRecDepth 100000
/-! Plain data instead of the heap: what a body does, as a function on data. -/
namespace FT
open PySem PySem.Spec PyProof.Rows L2
/-- a value: tuples (and lists that nobody changes) by what is in them, lists that may change by their number -/
inductive D where
  | non | bl (b : Bool) | int (i : Int) | str (x : Str) | tup (xs : List D) | fl (xs : List D) | ref (n : Nat)
inductive O where
  | lst (xs : List D)
  | set (ks : List Key)
abbrev AH := List O
abbrev G := List (Option D)
structure Exn where
  cls : Str
  fs : List (Str × D)
inductive Res (α : Type) where
  | ok (a : α) (h : AH) | err (x : Exn) (h : AH) | bad
abbrev M (α : Type) := AH → Res α
def M.pure {α : Type} (a : α) : M α := fun h => .ok a h
def M.bind {α β : Type} (m : M α) (f : α → M β) : M β := fun h => match m h with
  | .ok a h1 => f a h1
  | .err x h1 => .err x h1
  | .bad => .bad
instance : Monad M where
  pure := M.pure
  bind := M.bind
def bad {α : Type} : M α := fun _ => .bad
theorem M.bind_eq {α β : Type} (m : M α) (f : α → M β) (h : AH) : (m >>= f) h = match m h with
  | .ok a h1 => f a h1
  | .err x h1 => .err x h1
  | .bad => .bad := rfl
theorem M.bind_ok {α β : Type} {m : M α} {f : α → M β} {h h1 : AH} {a : α} (e : m h = .ok a h1) : (m >>= f) h = f a h1 := by rw [M.bind_eq, e]
/-- a list that is never written -/
def SqLP (K : PySem.W.Frag) (H : Hp) (a : Addr) (xs : List V) : Prop :=
  (∃ o, H a = some (.frz o (.lst xs))) ∨
    ∃ (o : Obj) (its : Array Value) (n : Nat), K.lookup a = some o ∧ o.cls = .type "list" ∧ o.dict = none ∧ o.data = .seq its n ∧ its.size ≤ sizeLine ∧ Vals xs its.toList
theorem SqLP.sq {K : PySem.W.Frag} {H : Hp} {a : Addr} {xs : List V} (h : SqLP K H a xs) : SqL K H a xs := by
  rcases h with ⟨o, h⟩ | h
  · exact .inl (.inr ⟨o, h⟩)
  · exact .inr h
mutual
def RD (K : PySem.W.Frag) (ρ : List Addr) (H : Hp) : D → V → Prop
  | .non, v => v = .non
  | .bl b, v => v = .bl b
  | .int i, v => v = .int i
  | .str x, v => v = .str x
  | .tup ds, v => ∃ a xs, v = .ref a ∧ SqT K H a xs ∧ RDs K ρ H ds xs
  | .fl ds, v => ∃ a xs, v = .ref a ∧ SqLP K H a xs ∧ RDs K ρ H ds xs
  | .ref n, v => ∃ a, v = .ref a ∧ ρ[n]? = some a
def RDs (K : PySem.W.Frag) (ρ : List Addr) (H : Hp) : List D → List V → Prop
  | [], xs => xs = []
  | d :: ds, xs => ∃ x r, xs = x :: r ∧ RD K ρ H d x ∧ RDs K ρ H ds r
end
def Pre (ρ ρ' : List Addr) : Prop := ∀ (n : Nat) a, ρ[n]? = some a → ρ'[n]? = some a
theorem Pre.refl (ρ : List Addr) : Pre ρ ρ := fun _ _ h => h
theorem Pre.trans {a b c : List Addr} (x : Pre a b) (y : Pre b c) : Pre a c := fun n z h => y n z (x n z h)
theorem Pre.app (ρ r : List Addr) : Pre ρ (ρ ++ r) := fun n a h => by
  rw [List.getElem?_append_left (List.getElem?_eq_some_iff.mp h).1]; exact h
structure Ext (K : PySem.W.Frag) (H H' : Hp) : Prop where
  t : ∀ a xs, SqT K H a xs → SqT K H' a xs
  l : ∀ a xs, SqLP K H a xs → SqLP K H' a xs
theorem Ext.refl (K : PySem.W.Frag) (H : Hp) : Ext K H H := ⟨fun _ _ h => h, fun _ _ h => h⟩
theorem Ext.trans {K : PySem.W.Frag} {a b c : Hp} (x : Ext K a b) (y : Ext K b c) : Ext K a c := ⟨fun z xs h => y.t z xs (x.t z xs h), fun z xs h => y.l z xs (x.l z xs h)⟩
/-- an address that bears no tuple and no frozen list is written -/
def Trk : HO → Prop
  | .lst _ => True
  | .set _ => True
  | _ => False
theorem Ext.upd {K : PySem.W.Frag} {H : Hp} {p : Addr} {o : HO} (h : H p = none ∨ ∃ u, H p = some u ∧ Trk u) : Ext K H (upd H p o) := by
  have ne : ∀ {b : Addr} {u : HO}, H b = some u → ¬ Trk u → b ≠ p := fun {b u} e n z => by
    subst z
    rcases h with h | ⟨u', h, tr⟩
    · rw [h] at e; cases e
    · rw [h] at e; cases e; exact n tr
  refine ⟨fun a xs q => ?_, fun a xs q => ?_⟩
  · rcases q with (q | ⟨u, q⟩) | q
    · exact .inl (.inl (by rw [upd_ne (ne q (fun z => z))]; exact q))
    · exact .inl (.inr ⟨u, by rw [upd_ne (ne q (fun z => z))]; exact q⟩)
    · exact .inr q
  · rcases q with ⟨u, q⟩ | q
    · exact .inl ⟨u, by rw [upd_ne (ne q (fun z => z))]; exact q⟩
    · exact .inr q
section
variable {K : PySem.W.Frag} {ρ ρ' : List Addr} {H H' : Hp}
mutual
theorem RD.mono (p : Pre ρ ρ') (e : Ext K H H') : ∀ {d : D} {v : V}, RD K ρ H d v → RD K ρ' H' d v
  | .non, v, h => by simpa [RD] using h
  | .bl b, v, h => by simpa [RD] using h
  | .int b, v, h => by simpa [RD] using h
  | .str b, v, h => by simpa [RD] using h
  | .tup ds, v, h => by
    simp only [RD] at h ⊢
    obtain ⟨a, xs, h1, h2, h3⟩ := h
    exact ⟨a, xs, h1, e.t a xs h2, RDs.mono p e h3⟩
  | .fl ds, v, h => by
    simp only [RD] at h ⊢
    obtain ⟨a, xs, h1, h2, h3⟩ := h
    exact ⟨a, xs, h1, e.l a xs h2, RDs.mono p e h3⟩
  | .ref n, v, h => by
    simp only [RD] at h ⊢
    obtain ⟨a, h1, h2⟩ := h
    exact ⟨a, h1, p n a h2⟩
theorem RDs.mono (p : Pre ρ ρ') (e : Ext K H H') : ∀ {ds : List D} {xs : List V}, RDs K ρ H ds xs → RDs K ρ' H' ds xs
  | [], xs, h => by simpa [RDs] using h
  | d :: ds, xs, h => by
    simp only [RDs] at h ⊢
    obtain ⟨x, r, h1, h2, h3⟩ := h
    exact ⟨x, r, h1, RD.mono p e h2, RDs.mono p e h3⟩
end
theorem RDs.nil : RDs K ρ H [] [] := by simp [RDs]
theorem RDs.cons {d : D} {ds : List D} {x : V} {xs : List V} (h : RD K ρ H d x) (t : RDs K ρ H ds xs) : RDs K ρ H (d :: ds) (x :: xs) := by
  simp only [RDs]; exact ⟨x, xs, rfl, h, t⟩
theorem RDs.pair : ∀ {ds : List D} {xs : List V}, RDs K ρ H ds xs → Paired (RD K ρ H) ds xs
  | [], xs, h => by simp only [RDs] at h; subst h; exact .nil
  | d :: ds, xs, h => by
    simp only [RDs] at h
    obtain ⟨x, r, rfl, h2, h3⟩ := h
    exact .cons h2 h3.pair
theorem RDs.of : ∀ {ds : List D} {xs : List V}, Paired (RD K ρ H) ds xs → RDs K ρ H ds xs
  | _, _, .nil => RDs.nil
  | _, _, .cons a b => RDs.cons a (RDs.of b)
theorem RDs.length {ds : List D} {xs : List V} (h : RDs K ρ H ds xs) : ds.length = xs.length := Paired.length h.pair
theorem RDs.append {a b : List D} {xs ys : List V} (h : RDs K ρ H a xs) (t : RDs K ρ H b ys) : RDs K ρ H (a ++ b) (xs ++ ys) := by
  induction a generalizing xs with
  | nil => simp only [RDs] at h; subst h; exact t
  | cons d ds ih =>
    simp only [RDs] at h
    obtain ⟨x, r, rfl, h2, h3⟩ := h
    exact RDs.cons h2 (ih h3)
theorem RDs.get {ds : List D} {xs : List V} {i : Nat} {d : D} (h : RDs K ρ H ds xs) (e : ds[i]? = some d) : ∃ x, xs[i]? = some x ∧ RD K ρ H d x := by
  induction ds generalizing xs i with
  | nil => simp at e
  | cons a ds ih =>
    simp only [RDs] at h
    obtain ⟨x, r, rfl, h2, h3⟩ := h
    cases i with
    | zero => simp at e; subst e; exact ⟨x, rfl, h2⟩
    | succ i =>
      obtain ⟨y, h4, h5⟩ := ih h3 (by simpa using e)
      exact ⟨y, by simpa using h4, h5⟩
theorem RDs.drop {ds : List D} {xs : List V} (n : Nat) (h : RDs K ρ H ds xs) : RDs K ρ H (ds.drop n) (xs.drop n) := by
  induction n generalizing ds xs with
  | zero => exact h
  | succ n ih => cases ds with
    | nil => simp only [RDs] at h; subst h; exact RDs.nil
    | cons d ds => simp only [RDs] at h; obtain ⟨x, r, rfl, h2, h3⟩ := h; exact ih h3
theorem RDs.take {ds : List D} {xs : List V} (n : Nat) (h : RDs K ρ H ds xs) : RDs K ρ H (ds.take n) (xs.take n) := by
  induction n generalizing ds xs with
  | zero => exact RDs.nil
  | succ n ih => cases ds with
    | nil => simp only [RDs] at h; subst h; exact RDs.nil
    | cons d ds => simp only [RDs] at h; obtain ⟨x, r, rfl, h2, h3⟩ := h; exact RDs.cons h2 (ih h3)
theorem RDs.set {ds : List D} {xs : List V} {d : D} {x : V} (n : Nat) (h : RDs K ρ H ds xs) (hd : RD K ρ H d x) : RDs K ρ H (ds.set n d) (xs.set n x) := by
  induction n generalizing ds xs with
  | zero => cases ds with
    | nil => simp only [RDs] at h; subst h; exact RDs.nil
    | cons a ds => simp only [RDs] at h; obtain ⟨y, r, rfl, h2, h3⟩ := h; exact RDs.cons hd h3
  | succ n ih => cases ds with
    | nil => simp only [RDs] at h; subst h; exact RDs.nil
    | cons a ds => simp only [RDs] at h; obtain ⟨y, r, rfl, h2, h3⟩ := h; exact RDs.cons h2 (ih h3)
theorem RDs.eraseIdx {ds : List D} {xs : List V} (n : Nat) (h : RDs K ρ H ds xs) : RDs K ρ H (ds.eraseIdx n) (xs.eraseIdx n) := by
  induction n generalizing ds xs with
  | zero => cases ds with
    | nil => simp only [RDs] at h; subst h; exact RDs.nil
    | cons a ds => simp only [RDs] at h; obtain ⟨y, r, rfl, h2, h3⟩ := h; exact h3
  | succ n ih => cases ds with
    | nil => simp only [RDs] at h; subst h; exact RDs.nil
    | cons a ds => simp only [RDs] at h; obtain ⟨y, r, rfl, h2, h3⟩ := h; exact RDs.cons h2 (ih h3)
theorem RDs.flat {ds : List D} {xs : List V} (n : Nat) (h : RDs K ρ H ds xs) : RDs K ρ H (List.replicate n ds).flatten (List.replicate n xs).flatten := by
  induction n with
  | zero => exact RDs.nil
  | succ n ih => rw [List.replicate_succ, List.flatten_cons, List.replicate_succ, List.flatten_cons]; exact h.append ih
/-! ### the heap -/
def RO (K : PySem.W.Frag) (ρ : List Addr) (H : Hp) (o : O) (a : Addr) : Prop := match o with
  | .lst ds => ∃ xs, H a = some (.lst xs) ∧ RDs K ρ H ds xs
  | .set ks => H a = some (.set ks)
structure RH (K : PySem.W.Frag) (ρ : List Addr) (h : AH) (H : Hp) : Prop where
  len : ρ.length = h.length
  nd : ∀ (i j : Nat) a, ρ[i]? = some a → ρ[j]? = some a → i = j
  obj : ∀ (n : Nat) o a, h[n]? = some o → ρ[n]? = some a → RO K ρ H o a
theorem RH.at {h : AH} (r : RH K ρ h H) {n : Nat} {o : O} (e : h[n]? = some o) : ∃ a, ρ[n]? = some a ∧ RO K ρ H o a := by
  have hi := (List.getElem?_eq_some_iff.mp e).1
  have hj : n < ρ.length := by rw [r.len]; exact hi
  have q : ρ[n]? = some ρ[n] := List.getElem?_eq_getElem hj
  exact ⟨_, q, r.obj n o _ e q⟩
theorem RH.tracked {h : AH} (r : RH K ρ h H) {n : Nat} {a : Addr} (e : ρ[n]? = some a) : ∃ u, H a = some u ∧ Trk u := by
  have hi := (List.getElem?_eq_some_iff.mp e).1
  have hj : n < h.length := by rw [← r.len]; exact hi
  have q : h[n]? = some h[n] := List.getElem?_eq_getElem hj
  have z := r.obj n _ a q e
  cases ho : h[n] with
  | lst ds => rw [ho] at z; obtain ⟨xs, z, _⟩ := z; exact ⟨_, z, trivial⟩
  | set ks => rw [ho] at z; exact ⟨_, z, trivial⟩
theorem RO.mono {o : O} {a : Addr} (p : Pre ρ ρ') (e : Ext K H H') (hs : H' a = H a) (r : RO K ρ H o a) : RO K ρ' H' o a := by
  cases o with
  | lst ds => obtain ⟨xs, h1, h2⟩ := r; exact ⟨xs, hs.trans h1, h2.mono p e⟩
  | set ks => exact hs.trans r
/-- something untracked is laid -/
theorem RH.other {h : AH} {p : Addr} {o : HO} (r : RH K ρ h H) (hp : H p = none) : RH K ρ h (upd H p o) :=
  ⟨r.len, r.nd, fun n u a h1 h2 => (r.obj n u a h1 h2).mono (Pre.refl _) (Ext.upd (.inl hp)) (by
    obtain ⟨u, q, _⟩ := r.tracked h2
    exact upd_ne (ne_of_none q hp))⟩
theorem RH.pushO {h : AH} {p : Addr} {o' : O} {u : HO} (r : RH K ρ h H) (hp : H p = none) (hd : RO K (ρ ++ [p]) (upd H p u) o' p) : RH K (ρ ++ [p]) (h ++ [o']) (upd H p u) := by
  have ne : ∀ {n : Nat} {a : Addr}, ρ[n]? = some a → a ≠ p := fun e => by
    obtain ⟨xs, q, _⟩ := r.tracked e
    exact ne_of_none q hp
  have ext : Ext K H (L2.upd H p u) := Ext.upd (.inl hp)
  refine ⟨by simp [r.len], fun i j a h1 h2 => ?_, fun n o a h1 h2 => ?_⟩
  · rw [List.getElem?_append] at h1 h2
    split at h1 <;> split at h2
    · exact r.nd i j a h1 h2
    · rename_i hi hj
      rw [List.getElem?_singleton] at h2
      split at h2
      · cases h2; exact absurd rfl (ne h1)
      · cases h2
    · rename_i hi hj
      rw [List.getElem?_singleton] at h1
      split at h1
      · cases h1; exact absurd rfl (ne h2)
      · cases h1
    · rename_i hi hj
      rw [List.getElem?_singleton] at h1 h2
      split at h1
      · split at h2
        · omega
        · cases h2
      · cases h1
  · rw [List.getElem?_append] at h1 h2
    rw [r.len] at h2
    split at h1
    · rename_i hn
      rw [if_pos hn] at h2
      exact (r.obj n o a h1 h2).mono (Pre.app _ _) ext (upd_ne (ne h2))
    · rename_i hn
      rw [if_neg hn] at h2
      rw [List.getElem?_singleton] at h1 h2
      split at h1
      · rename_i h0
        rw [if_pos h0] at h2
        cases h1; cases h2
        exact hd
      · cases h1
theorem RH.push {h : AH} {p : Addr} {ds : List D} {xs : List V} (r : RH K ρ h H) (hp : H p = none) (hd : RDs K ρ H ds xs) : RH K (ρ ++ [p]) (h ++ [.lst ds]) (upd H p (.lst xs)) :=
  r.pushO hp ⟨xs, upd_same, hd.mono (Pre.app _ _) (Ext.upd (.inl hp))⟩
theorem RH.pushS {h : AH} {p : Addr} {ks : List Key} (r : RH K ρ h H) (hp : H p = none) : RH K (ρ ++ [p]) (h ++ [.set ks]) (upd H p (.set ks)) := r.pushO hp upd_same
theorem RH.setO {h : AH} {n : Nat} {a : Addr} {o0 o' : O} {u : HO} (r : RH K ρ h H) (e : h[n]? = some o0) (ea : ρ[n]? = some a) (hd : RO K ρ (upd H a u) o' a) : RH K ρ (h.set n o') (upd H a u) := by
  have ext : Ext K H (L2.upd H a u) := Ext.upd (.inr (r.tracked ea))
  refine ⟨by simp [r.len], r.nd, fun m o b h1 h2 => ?_⟩
  by_cases hm : m = n
  · subst hm
    rw [ea] at h2; cases h2
    have hi := (List.getElem?_eq_some_iff.mp e).1
    rw [List.getElem?_set_self hi] at h1
    cases h1
    exact hd
  · rw [List.getElem?_set_ne (fun z => hm z.symm)] at h1
    exact (r.obj m o b h1 h2).mono (Pre.refl _) ext (upd_ne fun z => hm (r.nd m n b h2 (by rw [z]; exact ea)))
theorem RH.set {h : AH} {n : Nat} {a : Addr} {ds0 ds : List D} {xs : List V} (r : RH K ρ h H) (e : h[n]? = some (.lst ds0)) (ea : ρ[n]? = some a) (hd : RDs K ρ H ds xs) : RH K ρ (h.set n (.lst ds)) (upd H a (.lst xs)) :=
  r.setO e ea ⟨xs, upd_same, hd.mono (Pre.refl _) (Ext.upd (.inr (r.tracked ea)))⟩
/-! ### the frame -/
structure RG (K : PySem.W.Frag) (ρ : List Addr) (H : Hp) (γ : G) (σ : L2.St) : Prop where
  len : γ.length = σ.length
  var : ∀ (i : Nat) d, γ[i]? = some (some d) → ∃ v, σ[i]? = some (some v) ∧ RD K ρ H d v
theorem RG.mono {γ : G} {σ : L2.St} (p : Pre ρ ρ') (e : Ext K H H') (r : RG K ρ H γ σ) : RG K ρ' H' γ σ :=
  ⟨r.len, fun i d h => let ⟨v, h1, h2⟩ := r.var i d h; ⟨v, h1, h2.mono p e⟩⟩
theorem RG.set {γ : G} {σ : L2.St} {d : D} {v : V} (r : RG K ρ H γ σ) (i : Nat) (hd : RD K ρ H d v) : RG K ρ H (γ.set i (some d)) (σ.set i (some v)) := by
  refine ⟨by simp [r.len], fun j d' h => ?_⟩
  by_cases hj : i = j
  · subst hj
    have hi : i < γ.length := by
      have := (List.getElem?_eq_some_iff.mp h).1
      simpa using this
    rw [List.getElem?_set_self hi] at h
    cases h
    exact ⟨v, List.getElem?_set_self (by rw [← r.len]; exact hi), hd⟩
  · rw [List.getElem?_set_ne hj] at h ⊢
    exact r.var j d' h
structure Rel (K : PySem.W.Frag) (ρ : List Addr) (γ : G) (h : AH) (σ : L2.St) (H : Hp) : Prop where
  g : RG K ρ H γ σ
  h : RH K ρ h H
/-! ### the ends -/
abbrev XX := Exn → List Addr → AH → Hp → Prop
def Fin {α : Type} (K : PySem.W.Frag) (EX : XX) (ρ : List Addr) (H : Hp) (P : α → List Addr → AH → Hp → Prop) : Res α → Prop
  | .ok a h' => ∀ ρ' H', Pre ρ ρ' → Ext K H H' → RH K ρ' h' H' → P a ρ' h' H'
  | .err x h' => ∀ ρ' H', Pre ρ ρ' → Ext K H H' → RH K ρ' h' H' → EX x ρ' h' H'
  | .bad => False
variable {EX : XX} {α β : Type}
theorem Fin.up {P : α → List Addr → AH → Hp → Prop} {r : Res α} (p : Pre ρ ρ') (e : Ext K H H') (f : Fin K EX ρ H P r) : Fin K EX ρ' H' P r := by
  cases r with
  | ok a h => exact fun ρ2 H2 p2 e2 r2 => f ρ2 H2 (p.trans p2) (e.trans e2) r2
  | err x h => exact fun ρ2 H2 p2 e2 r2 => f ρ2 H2 (p.trans p2) (e.trans e2) r2
  | bad => exact f
theorem Fin.mono {P P' : α → List Addr → AH → Hp → Prop} {r : Res α} (f : Fin K EX ρ H P r) (h : ∀ a ρ' h' H', Pre ρ ρ' → Ext K H H' → RH K ρ' h' H' → P a ρ' h' H' → P' a ρ' h' H') : Fin K EX ρ H P' r := by
  cases r with
  | ok a h1 => exact fun ρ2 H2 p2 e2 r2 => h a ρ2 h1 H2 p2 e2 r2 (f ρ2 H2 p2 e2 r2)
  | err x h1 => exact f
  | bad => exact f
theorem Fin.bind {P : β → List Addr → AH → Hp → Prop} {m : M α} {f : α → M β} {h : AH} (z : Fin K EX ρ H P ((m >>= f) h)) : Fin K EX ρ H (fun a ρ1 h1 H1 => Fin K EX ρ1 H1 P (f a h1)) (m h) := by
  rw [M.bind_eq] at z
  cases e : m h with
  | ok a h1 => rw [e] at z; exact fun ρ2 H2 p2 e2 r2 => Fin.up p2 e2 z
  | err x h1 => rw [e] at z; exact z
  | bad => rw [e] at z; exact z
end
/-- what an expression, a test, an argument list, a block does -/
def tE (K : PySem.W.Frag) (EX : XX) (m : G → M D) : TE := fun σ H Q => ∃ ρ γ h, Rel K ρ γ h σ H ∧ Fin K EX ρ H (fun d ρ' _ H' => ∀ v, RD K ρ' H' d v → Q v H') (m γ h)
def tT (K : PySem.W.Frag) (EX : XX) (m : G → M Bool) : TT := fun σ H Q => ∃ ρ γ h, Rel K ρ γ h σ H ∧ Fin K EX ρ H (fun b _ _ H' => Q b H') (m γ h)
def tL (K : PySem.W.Frag) (EX : XX) (m : G → M (List D)) : TA := fun σ H Q => ∃ ρ γ h, Rel K ρ γ h σ H ∧ Fin K EX ρ H (fun ds ρ' _ H' => ∀ vs, RDs K ρ' H' ds vs → Q vs H') (m γ h)
inductive Out where
  | nx (γ : G) | rt (d : D) | bk (γ : G) | ct (γ : G)
def OutP (K : PySem.W.Frag) (D : Ends) (o : Out) (ρ : List Addr) (H : Hp) : Prop := match o with
  | .nx γ => ∀ σ, RG K ρ H γ σ → D.nx σ H
  | .rt d => ∀ v, RD K ρ H d v → D.rt v H
  | .bk γ => ∀ σ, RG K ρ H γ σ → D.bk σ H
  | .ct γ => ∀ σ, RG K ρ H γ σ → D.ct σ H
def tB (K : PySem.W.Frag) (EX : XX) (m : G → M Out) : TS := fun D σ H => ∃ ρ γ h, Rel K ρ γ h σ H ∧ Fin K EX ρ H (fun o ρ' _ H' => OutP K D o ρ' H') (m γ h)
structure SE (X : Cx) (EX : XX) (e : Expr) (m : G → M D) : Prop where
  h : PE X e (tE X.K EX m)
structure SC (X : Cx) (EX : XX) (e : Expr) (m : G → M Bool) : Prop where
  h : PT X e (tT X.K EX m)
structure SA (X : Cx) (EX : XX) (es : List Expr) (m : G → M (List D)) : Prop where
  h : PA X es (tL X.K EX m)
structure S1 (X : Cx) (EX : XX) (st : Stmt) (m : G → M Out) : Prop where
  h : PS X st (tB X.K EX m)
structure SB (X : Cx) (EX : XX) (st : List Stmt) (m : G → M Out) : Prop where
  h : PSs X st (tB X.K EX m)
theorem PE.imp {X : Cx} {e : Expr} {t t' : TE} (h : PE X e t) (f : ∀ σ H Q, t' σ H Q → t σ H Q) : PE X e t' := fun pins s σ H Q I z => h pins s σ H Q I (f σ H Q z)
theorem PT.imp {X : Cx} {e : Expr} {t t' : TT} (h : PT X e t) (f : ∀ σ H Q, t' σ H Q → t σ H Q) : PT X e t' := fun pins s σ H Q I z => h pins s σ H Q I (f σ H Q z)
theorem PA.imp {X : Cx} {e : List Expr} {t t' : TA} (h : PA X e t) (f : ∀ σ H Q, t' σ H Q → t σ H Q) : PA X e t' := fun pos pins s σ H Q I z => h pos pins s σ H Q I (f σ H Q z)
theorem PS.imp {X : Cx} {e : Stmt} {t t' : TS} (h : PS X e t) (f : ∀ σ H Q, t' Q σ H → t Q σ H) : PS X e t' := fun pins s σ H Q I z => h pins s σ H Q I (f σ H Q z)
theorem PSs.imp {X : Cx} {e : List Stmt} {t t' : TS} (h : PSs X e t) (f : ∀ σ H Q, t' Q σ H → t Q σ H) : PSs X e t' := fun pins s σ H Q I z => h pins s σ H Q I (f σ H Q z)
end FT
set_option Elab.async false
set_option linter.all false
set_option maxRecDepth 100000
/-! The constructs, each as a function on data, with its rule. -/
namespace FT
open PySem PySem.Spec PyProof.Rows L2
abbrev FE (K : PySem.W.Frag) (EX : XX) (ρ : List Addr) (H : Hp) (Q : VK) (r : Res D) : Prop := Fin K EX ρ H (fun d ρ' _ H' => ∀ v, RD K ρ' H' d v → Q v H') r
theorem FE.here {K : PySem.W.Frag} {EX : XX} {ρ : List Addr} {H : Hp} {Q : VK} {d : D} {h : AH} {v : V} (f : FE K EX ρ H Q (.ok d h)) (r : RH K ρ h H) (rd : RD K ρ H d v) : Q v H := f ρ H (Pre.refl _) (Ext.refl _ _) r v rd
theorem FE.tup {K : PySem.W.Frag} {EX : XX} {ρ : List Addr} {H : Hp} {Q : VK} {ds : List D} {xs : List V} {h : AH} {p : Addr} (f : FE K EX ρ H Q (.ok (.tup ds) h)) (r : RH K ρ h H) (hd : RDs K ρ H ds xs) (hp : H p = none) : Q (.ref p) (upd H p (.tup xs)) := by
  have e : Ext K H (L2.upd H p (.tup xs)) := Ext.upd (.inl hp)
  refine f ρ _ (Pre.refl _) e (r.other hp) _ ?_
  simp only [RD]
  exact ⟨p, xs, rfl, SqT.of upd_same, hd.mono (Pre.refl _) e⟩
theorem FE.lst {K : PySem.W.Frag} {EX : XX} {ρ : List Addr} {H : Hp} {Q : VK} {ds : List D} {xs : List V} {h : AH} {p : Addr} (f : FE K EX ρ H Q (.ok (.ref h.length) (h ++ [.lst ds]))) (r : RH K ρ h H) (hd : RDs K ρ H ds xs) (hp : H p = none) : Q (.ref p) (upd H p (.lst xs)) := by
  refine f (ρ ++ [p]) _ (Pre.app _ _) (Ext.upd (.inl hp)) (r.push hp hd) _ ?_
  simp only [RD]
  refine ⟨p, rfl, ?_⟩
  rw [← r.len]; simp
/-! ### lists -/
def getL (n : Nat) : M (List D) := fun h => match h[n]? with
  | some (.lst xs) => .ok xs h
  | _ => .bad
def newL (xs : List D) : M D := fun h => if xs.length ≤ sizeLine then .ok (.ref h.length) (h ++ [.lst xs]) else .bad
section
variable {X : Cx} {EX : XX} {a b c e : Expr} {pos : Pos} {ma mb mc : G → M D}
/-! ### names, constants -/
def eVar (i : Nat) : G → M D := fun γ => match γ[i]? with
  | some (some d) => pure d
  | _ => bad
theorem se_var (i : Nat) {x : Str} (hN : X.N[i]? = some x := by rfl) (hv : Vis X.env.scope x := by first | exact Or.inl rfl | exact Or.inr (Or.inl rfl) | exact Or.inr (Or.inr rfl))
    (hd : (x == ("__debug__" : Str)) = false := by decide) (hcd : (x == ("__classdict__" : Str)) = false := by decide) : SE X EX (.Name x pos) (eVar i) :=
  ⟨PE.imp (pe_var hN hv hd hcd) fun σ H Q ⟨ρ, γ, h, rel, f⟩ => by
    have f' : FE X.K EX ρ H Q (eVar i γ h) := f
    unfold eVar at f'
    cases e : γ[i]? with
    | none => rw [e] at f'; exact f'.elim
    | some o => cases o with
      | none => rw [e] at f'; exact f'.elim
      | some d =>
        rw [e] at f'
        obtain ⟨v, h1, h2⟩ := rel.g.var i d e
        exact ⟨v, h1, FE.here f' rel.h h2⟩⟩
theorem se_const {d : D} {v : V} (h : PE X e (tC v)) (r : ∀ ρ H, RD X.K ρ H d v) : SE X EX e (fun _ => pure d) :=
  ⟨PE.imp h fun σ H Q ⟨ρ, γ, h, rel, f⟩ => FE.here f rel.h (r ρ H)⟩
theorem se_int {i : Int} {j : Nat} : SE X EX (.Constant (.int i) j pos) (fun _ => pure (.int i)) := se_const pe_int fun _ _ => by simp [RD]
theorem se_bl {i : Bool} {j : Nat} : SE X EX (.Constant (.bool i) j pos) (fun _ => pure (.bl i)) := se_const pe_bl fun _ _ => by simp [RD]
theorem se_str {i : Str} {j : Nat} : SE X EX (.Constant (.str i) j pos) (fun _ => pure (.str i)) := se_const pe_str fun _ _ => by simp [RD]
/-- a constant of the module -/
theorem se_glob {x : Str} {d : D} {v : V} {u : Value} (hg : Gl X x) (hm : X.mg x = some u) (r : RelV v u) (hr : ∀ ρ H, RD X.K ρ H d v) (hd : (x == ("__debug__" : Str)) = false := by decide) : SE X EX (.Name x pos) (fun _ => pure d) :=
  se_const (pe_glob hg hm r hd) hr
/-! ### two operands -/
def BR (K : PySem.W.Frag) (EX : XX) (r : R2) (f : D → D → M D) : Prop := ∀ ρ h H x y v u Q, RH K ρ h H → RD K ρ H x v → RD K ρ H y u → FE K EX ρ H Q (f x y h) → r v u H Q
def e2 (f : D → D → M D) (ma mb : G → M D) : G → M D := fun γ => do
  let x ← ma γ
  let y ← mb γ
  f x y
theorem se_two {r : R2} {f : D → D → M D} {ta tb : TE} (h : PE X e (tOp r (tE X.K EX ma) (tE X.K EX mb))) (hr : BR X.K EX r f) : SE X EX e (e2 f ma mb) :=
  ⟨PE.imp h fun σ H Q ⟨ρ, γ, h, rel, fin⟩ => ⟨ρ, γ, h, rel, (Fin.bind fin).mono fun x ρ1 h1 H1 p1 e1 r1 f1 v rv => ⟨ρ1, γ, h1, ⟨rel.g.mono p1 e1, r1⟩, (Fin.bind f1).mono fun y ρ2 h2 H2 p2 e2 r2 f2 u ru =>
    hr ρ2 h2 H2 x y v u Q r2 (rv.mono p2 e2) ru f2⟩⟩⟩
theorem se_op {op : Operator} {r : R2} {f : D → D → M D} (ho : OpR X (binaryOp op) r) (hr : BR X.K EX r f) (ha : SE X EX a ma) (hb : SE X EX b mb) : SE X EX (.BinOp a op b pos) (e2 f ma mb) :=
  se_two (ta := tE X.K EX ma) (tb := tE X.K EX mb) (pe_op ho ha.h hb.h) hr
theorem se_cmp {op : CmpOp} {r : R2} {f : D → D → M D} (ho : OpR X (compareOp op) r) (hr : BR X.K EX r f) (ha : SE X EX a ma) (hb : SE X EX b mb) (hm : behindInMarks op b = false) : SE X EX (.Compare a [op] [b] pos) (e2 f ma mb) :=
  se_two (ta := tE X.K EX ma) (tb := tE X.K EX mb) (pe_cmpR ho ha.h hb.h hm) hr
theorem BR.or {K : PySem.W.Frag} {r r' : R2} {f g f' : D → D → M D} (h : BR K EX r f) (h' : BR K EX r' g) (e : ∀ x y, (∀ z, f' x y z = f x y z) ∨ (∀ z, f' x y z = g x y z)) : BR K EX (fun x y H Q => r x y H Q ∨ r' x y H Q) f' := by
  intro ρ h0 H x y v u Q r0 rx ry fin
  rcases e x y with z | z
  · exact .inl (h ρ h0 H x y v u Q r0 rx ry (by rw [← z h0]; exact fin))
  · exact .inr (h' ρ h0 H x y v u Q r0 rx ry (by rw [← z h0]; exact fin))
/-- ints -/
def fI (g : Int → Int → D) : D → D → M D
  | .int i, .int j => pure (g i j)
  | _, _ => bad
theorem br_I0 {K : PySem.W.Frag} {g : Int → Int → D} {g' : Int → Int → V} (hg : ∀ i j ρ H, RD K ρ H (g i j) (g' i j)) : BR K EX (rI0 g') (fI g) := by
  intro ρ h H x y v u Q r rx ry fin
  unfold fI at fin
  split at fin
  · simp only [RD] at rx ry
    subst rx; subst ry
    exact ⟨_, _, rfl, rfl, FE.here fin r (hg _ _ _ _)⟩
  · exact fin.elim
def fIC (C : Int → Int → Bool) (g : Int → Int → D) : D → D → M D
  | .int i, .int j => if C i j then pure (g i j) else bad
  | _, _ => bad
theorem br_IC {K : PySem.W.Frag} {C : Int → Int → Bool} {C' : Int → Int → Prop} {g : Int → Int → D} {g' : Int → Int → V} (hc : ∀ i j, C i j = true → C' i j) (hg : ∀ i j ρ H, RD K ρ H (g i j) (g' i j)) : BR K EX (rI C' g') (fIC C g) := by
  intro ρ h H x y v u Q r rx ry fin
  unfold fIC at fin
  split at fin
  · simp only [RD] at rx ry
    subst rx; subst ry
    split at fin
    · rename_i hC
      exact ⟨_, _, rfl, rfl, hc _ _ hC, FE.here fin r (hg _ _ _ _)⟩
    · exact fin.elim
  · exact fin.elim
def fSub := fI fun i j => .int (i - j)
def fDiv := fIC (fun _ j => decide (0 < j) && decide (j < 1073741824)) fun i j => .int (i / j)
def fMod := fIC (fun _ j => decide (0 < j)) fun i j => .int (i % j)
def fPow := fIC (fun i j => decide (0 ≤ j) && decide (j ≤ 1000) && decide (-(2 ^ 64) < i) && decide (i < 2 ^ 64)) fun i j => .int (i ^ j.toNat)
theorem se_sub (ha : SE X EX a ma) (hb : SE X EX b mb) : SE X EX (.BinOp a .Sub b pos) (e2 fSub ma mb) := se_op op_sub (br_I0 fun i j ρ H => by simp [RD]) ha hb
theorem se_div (ha : SE X EX a ma) (hb : SE X EX b mb) : SE X EX (.BinOp a .FloorDiv b pos) (e2 fDiv ma mb) := se_op op_fdiv (br_IC (fun i j h => by simp at h; exact h) fun i j ρ H => by simp [RD]) ha hb
theorem se_mod (ha : SE X EX a ma) (hb : SE X EX b mb) : SE X EX (.BinOp a .Mod b pos) (e2 fMod ma mb) := se_op op_mod (br_IC (fun i j h => by simpa using h) fun i j ρ H => by simp [RD]) ha hb
theorem se_pow (ha : SE X EX a ma) (hb : SE X EX b mb) : SE X EX (.BinOp a .Pow b pos) (e2 fPow ma mb) := se_op op_pow (br_IC (fun i j h => by
  simp at h
  refine ⟨h.1.1.1, by omega, ?_⟩
  have h1 := h.1.2
  have h2 := h.2
  omega) fun i j ρ H => by simp [RD]) ha hb
/-! ### + -/
def fAdd : D → D → M D
  | .int i, .int j => pure (.int (i + j))
  | .str i, .str j => if i.length + j.length ≤ sizeLine then pure (.str (i ++ j)) else bad
  | .ref i, .ref j => do
    let x ← getL i
    let y ← getL j
    newL (x ++ y)
  | .tup x, .tup y => if x.isEmpty || !decide (x.length + y.length ≤ sizeLine) then bad else pure (.tup (x ++ y))
  | _, _ => bad
theorem getL_ok {n : Nat} {h h1 : AH} {xs : List D} (e : getL n h = .ok xs h1) : h1 = h ∧ h[n]? = some (.lst xs) := by
  unfold getL at e
  split at e
  · rename_i q; cases e; exact ⟨rfl, q⟩
  · cases e
theorem getL_no {n : Nat} {h h1 : AH} {x : Exn} (e : getL n h = .err x h1) : False := by
  unfold getL at e
  split at e <;> cases e
theorem op_plus : OpR X (binaryOp .Add) (fun x y H Q => rI0 (fun i j => .int (i + j)) x y H Q ∨ (∃ i j, x = .str i ∧ y = .str j ∧ i.length + j.length ≤ sizeLine ∧ Q (.str (i ++ j)) H) ∨ rCat x y H Q ∨ rCatT X.K x y H Q) :=
  op_add.or (op_add_str.or (op_cat.or op_catT))
theorem br_plus : BR X.K EX (fun x y H Q => rI0 (fun i j => .int (i + j)) x y H Q ∨ (∃ i j, x = .str i ∧ y = .str j ∧ i.length + j.length ≤ sizeLine ∧ Q (.str (i ++ j)) H) ∨ rCat x y H Q ∨ rCatT X.K x y H Q) fAdd := by
  intro ρ h H x y v u Q r rx ry fin
  unfold fAdd at fin
  split at fin
  · simp only [RD] at rx ry; subst rx; subst ry
    exact .inl ⟨_, _, rfl, rfl, FE.here fin r (by simp [RD])⟩
  · simp only [RD] at rx ry; subst rx; subst ry
    split at fin
    · rename_i hl
      exact .inr (.inl ⟨_, _, rfl, rfl, hl, FE.here fin r (by simp [RD])⟩)
    · exact fin.elim
  · rename_i i j
    simp only [RD] at rx ry
    obtain ⟨ai, rfl, hi⟩ := rx
    obtain ⟨aj, rfl, hj⟩ := ry
    have f1 := Fin.bind fin
    cases e : getL i h with
    | bad => rw [e] at f1; exact f1.elim
    | err z hz => exact (getL_no e).elim
    | ok xs h1 =>
      obtain ⟨rfl, q1⟩ := getL_ok e
      rw [e] at f1
      have f2 := Fin.bind (f1 ρ H (Pre.refl _) (Ext.refl _ _) r)
      cases e3 : getL j h1 with
      | bad => rw [e3] at f2; exact f2.elim
      | err z hz => exact (getL_no e3).elim
      | ok ys h2 =>
        obtain ⟨rfl, q2⟩ := getL_ok e3
        rw [e3] at f2
        have f3 := f2 ρ H (Pre.refl _) (Ext.refl _ _) r
        dsimp only at f3
        unfold newL at f3
        split at f3
        · rename_i hl
          obtain ⟨a1, n1, xs1, o1, d1⟩ := r.at q1
          obtain ⟨a2, n2, xs2, o2, d2⟩ := r.at q2
          rw [hi] at n1; cases n1
          rw [hj] at n2; cases n2
          refine .inr (.inr (.inl ⟨_, _, _, _, rfl, rfl, o1, o2, ?_, fun p hp => FE.lst f3 r (d1.append d2) hp⟩))
          rw [← d1.length, ← d2.length, ← List.length_append]; exact hl
        · exact f3.elim
  · rename_i x y
    simp only [RD] at rx ry
    obtain ⟨ax, xs, rfl, hx, dx⟩ := rx
    obtain ⟨ay, ys, rfl, hy, dy⟩ := ry
    split at fin
    · exact fin.elim
    · rename_i hc
      simp at hc
      have l1 := dx.length
      have l2 := dy.length
      refine .inr (.inr (.inr ⟨ax, ay, xs, ys, rfl, rfl, hx, hy, ?_, by omega, fun e => ?_, fun e p hp => FE.tup fin r (dx.append dy) hp⟩))
      · intro z; subst z; simp at l1; exact hc.1 l1
      · subst e
        refine FE.here fin r ?_
        simp only [RD]
        have : y = [] := by simpa using l2
        subst this
        exact ⟨ax, xs, rfl, hx, by simpa using dx⟩
  · exact fin.elim
theorem se_add (ha : SE X EX a ma) (hb : SE X EX b mb) : SE X EX (.BinOp a .Add b pos) (e2 fAdd ma mb) := se_op op_plus br_plus ha hb
/-! ### * -/
def fMul : D → D → M D
  | .int i, .int j => if (decide (-(2 ^ 64) < i) && decide (i < 2 ^ 64)) || (decide (-(2 ^ 64) < j) && decide (j < 2 ^ 64)) then pure (.int (i * j)) else bad
  | .ref i, .int j => do
    let x ← getL i
    if decide (-(2 ^ 63) ≤ j) && decide (j < 2 ^ 63) then newL (List.replicate j.toNat x).flatten else bad
  | _, _ => bad
theorem br_mul : BR X.K EX (fun x y H Q => rI CMul (fun i j => .int (i * j)) x y H Q ∨ rRep x y H Q) fMul := by
  intro ρ h H x y v u Q r rx ry fin
  unfold fMul at fin
  split at fin
  · simp only [RD] at rx ry; subst rx; subst ry
    split at fin
    · rename_i hc
      refine .inl ⟨_, _, rfl, rfl, ?_, FE.here fin r (by simp [RD])⟩
      simp only [Bool.or_eq_true, Bool.and_eq_true, decide_eq_true_eq] at hc
      exact hc
    · exact fin.elim
  · rename_i i j
    simp only [RD] at rx ry
    obtain ⟨ai, rfl, hi⟩ := rx
    subst ry
    have f1 := Fin.bind fin
    cases e : getL i h with
    | bad => rw [e] at f1; exact f1.elim
    | err z hz => exact (getL_no e).elim
    | ok xs h1 =>
      obtain ⟨rfl, q1⟩ := getL_ok e
      rw [e] at f1
      have f2 := f1 ρ H (Pre.refl _) (Ext.refl _ _) r
      dsimp only at f2
      split at f2
      · rename_i hb
        simp only [Bool.and_eq_true, decide_eq_true_eq] at hb
        unfold newL at f2
        split at f2
        · rename_i hl
          obtain ⟨a1, n1, xs1, o1, d1⟩ := r.at q1
          rw [hi] at n1; cases n1
          refine .inr ⟨_, _, _, rfl, rfl, o1, hb.1, hb.2, ?_, fun p hp => FE.lst f2 r (d1.flat j.toNat) hp⟩
          rw [L2.len_rep, d1.length] at hl
          rw [Nat.mul_comm]; exact hl
        · exact f2.elim
      · exact f2.elim
  · exact fin.elim
theorem se_mul (ha : SE X EX a ma) (hb : SE X EX b mb) : SE X EX (.BinOp a .Mult b pos) (e2 fMul ma mb) := se_op (op_mul.or op_rep) br_mul ha hb
/-! ### comparisons -/
def fCmp (g : Int → Int → Bool) : D → D → M D := fI fun i j => .bl (g i j)
/-- < and <= of ints and of texts -/
def fLt : D → D → M D
  | .int i, .int j => pure (.bl (decide (i < j)))
  | .str i, .str j => pure (.bl (decide (i.cps.toList < j.cps.toList)))
  | _, _ => bad
def fLe : D → D → M D
  | .int i, .int j => pure (.bl (decide (i ≤ j)))
  | .str i, .str j => pure (.bl (!decide (j.cps.toList < i.cps.toList)))
  | _, _ => bad
def fGt : D → D → M D := fCmp fun i j => decide (j < i)
def fGe : D → D → M D := fCmp fun i j => decide (j ≤ i)
theorem op_le_str : OpR X (compareOp .LtE) (fun x y H Q => ∃ i j, x = .str i ∧ y = .str j ∧ Q (.bl (!decide (j.cps.toList < i.cps.toList))) H) := by
  intro pins s σ H x y v u Q I rx ry h
  obtain ⟨i, j, rfl, rfl, q⟩ := h
  obtain ⟨t, rfl⟩ := rx
  obtain ⟨t', rfl⟩ := ry
  exact PySem.P.le_str ⟨.bl _, H, I, rfl, q⟩
theorem br_lt {K : PySem.W.Frag} : BR K EX (fun x y H Q => rI0 (fun i j => .bl (decide (i < j))) x y H Q ∨ ∃ i j, x = .str i ∧ y = .str j ∧ Q (.bl (decide (i.cps.toList < j.cps.toList))) H) fLt := by
  intro ρ h H x y v u Q r rx ry fin
  unfold fLt at fin
  split at fin
  · simp only [RD] at rx ry; subst rx; subst ry
    exact .inl ⟨_, _, rfl, rfl, FE.here fin r (by simp [RD])⟩
  · simp only [RD] at rx ry; subst rx; subst ry
    exact .inr ⟨_, _, rfl, rfl, FE.here fin r (by simp [RD])⟩
  · exact fin.elim
theorem br_le {K : PySem.W.Frag} : BR K EX (fun x y H Q => rI0 (fun i j => .bl (decide (i ≤ j))) x y H Q ∨ ∃ i j, x = .str i ∧ y = .str j ∧ Q (.bl (!decide (j.cps.toList < i.cps.toList))) H) fLe := by
  intro ρ h H x y v u Q r rx ry fin
  unfold fLe at fin
  split at fin
  · simp only [RD] at rx ry; subst rx; subst ry
    exact .inl ⟨_, _, rfl, rfl, FE.here fin r (by simp [RD])⟩
  · simp only [RD] at rx ry; subst rx; subst ry
    exact .inr ⟨_, _, rfl, rfl, FE.here fin r (by simp [RD])⟩
  · exact fin.elim
/-- == of scalars -/
def eqD : D → D → Option Bool
  | .int i, .int j => some (decide (i = j))
  | .str i, .str j => some (decide (i = j))
  | .bl i, .bl j => some (decide (i = j))
  | .non, .non => some true
  | .int _, .str _ => some false
  | .str _, .int _ => some false
  | .non, .int _ => some false
  | .int _, .non => some false
  | .non, .str _ => some false
  | .str _, .non => some false
  | _, _ => none
def fEq (neg : Bool) : D → D → M D := fun x y => match eqD x y with
  | some b => pure (.bl (b != neg))
  | none => bad
theorem eqD_rel {K : PySem.W.Frag} {ρ : List Addr} {H : Hp} {x y : D} {v u : V} {k : Bool} (e : eqD x y = some k) (rx : RD K ρ H x v) (ry : RD K ρ H y u) : scal v u = true ∧ decide (v = u) = k := by
  cases x <;> cases y <;> first
    | (have e' : none = some k := e
       exact nomatch e')
    | (simp only [eqD] at e
       simp only [RD] at rx ry
       subst rx
       subst ry
       cases e
       exact ⟨rfl, by simp⟩)
theorem br_eq {K : PySem.W.Frag} : BR K EX rEq (fEq false) := by
  intro ρ h H x y v u Q r rx ry fin
  unfold fEq at fin
  cases hk : eqD x y with
  | none => rw [hk] at fin; exact fin.elim
  | some k =>
    rw [hk] at fin
    obtain ⟨h1, h2⟩ := eqD_rel hk rx ry
    refine ⟨h1, ?_⟩
    rw [h2]
    refine FE.here fin r ?_
    cases k <;> simp [RD]
/-! ### in -/
def flatD : D → Bool
  | .non => true
  | .bl _ => true
  | .int _ => true
  | .str _ => true
  | _ => false
def eqF : D → D → Bool
  | .non, .non => true
  | .bl a, .bl b => a == b
  | .bl a, .int b => (if a then 1 else 0) == b
  | .int a, .bl b => a == (if b then 1 else 0)
  | .int a, .int b => a == b
  | .str a, .str b => a == b
  | _, _ => false
def seqD : D → M (List D)
  | .tup xs => pure xs
  | .fl xs => pure xs
  | .ref n => getL n
  | _ => bad
def fIn (neg : Bool) : D → D → M D := fun x y => do
  let ys ← seqD y
  if flatD x && ys.all flatD then pure (.bl ((ys.any fun z => eqF z x) != neg)) else bad
theorem flat_rel {K : PySem.W.Frag} {ρ : List Addr} {H : Hp} {x : D} {v : V} (f : flatD x = true) (r : RD K ρ H x v) : flatV v = true := by
  cases x <;> simp only [RD] at r <;> first | (subst r; rfl) | cases f
theorem eqF_rel {K : PySem.W.Frag} {ρ : List Addr} {H : Hp} {x y : D} {v u : V} (f : flatD x = true) (f' : flatD y = true) (r : RD K ρ H x v) (r' : RD K ρ H y u) : eqV v u = eqF x y := by
  cases x with
  | non => simp only [RD] at r; subst r; cases y <;> first | (simp only [RD] at r'; subst r'; rfl) | cases f'
  | bl b => simp only [RD] at r; subst r; cases y <;> first | (simp only [RD] at r'; subst r'; rfl) | cases f'
  | int b => simp only [RD] at r; subst r; cases y <;> first | (simp only [RD] at r'; subst r'; rfl) | cases f'
  | str b => simp only [RD] at r; subst r; cases y <;> first | (simp only [RD] at r'; subst r'; rfl) | cases f'
  | tup b => cases f
  | fl b => cases f
  | ref b => cases f
theorem flats_rel {K : PySem.W.Frag} {ρ : List Addr} {H : Hp} : ∀ {xs : List D} {vs : List V}, RDs K ρ H xs vs → xs.all flatD = true → vs.all flatV = true
  | [], vs, r, _ => by simp only [RDs] at r; subst r; rfl
  | x :: xs, vs, r, f => by
    simp only [RDs] at r
    obtain ⟨v, r2, rfl, h1, h2⟩ := r
    rw [List.all_cons, Bool.and_eq_true] at f ⊢
    exact ⟨flat_rel f.1 h1, flats_rel h2 f.2⟩
theorem any_rel {K : PySem.W.Frag} {ρ : List Addr} {H : Hp} {x : D} {v : V} (f : flatD x = true) (r : RD K ρ H x v) : ∀ {xs : List D} {vs : List V}, RDs K ρ H xs vs → xs.all flatD = true → (vs.any fun y => eqV y v) = xs.any fun z => eqF z x
  | [], vs, rs, _ => by simp only [RDs] at rs; subst rs; rfl
  | y :: xs, vs, rs, fs => by
    simp only [RDs] at rs
    obtain ⟨u, r2, rfl, h1, h2⟩ := rs
    rw [List.all_cons, Bool.and_eq_true] at fs
    rw [List.any_cons, List.any_cons, eqF_rel fs.1 f h1 r, any_rel f r h2 fs.2]
/-- what seqD reads -/
theorem seqD_rel {K : PySem.W.Frag} {ρ : List Addr} {h h1 : AH} {H : Hp} {y : D} {u : V} {ys : List D} (r : RH K ρ h H) (ry : RD K ρ H y u) (e : seqD y h = .ok ys h1) : h1 = h ∧ ∃ p xs, u = .ref p ∧ (SqL K H p xs ∨ SqT K H p xs) ∧ RDs K ρ H ys xs := by
  unfold seqD at e
  split at e
  · cases e; simp only [RD] at ry; obtain ⟨p, xs, rfl, h2, h3⟩ := ry; exact ⟨rfl, p, xs, rfl, .inr h2, h3⟩
  · cases e; simp only [RD] at ry; obtain ⟨p, xs, rfl, h2, h3⟩ := ry; exact ⟨rfl, p, xs, rfl, .inl h2.sq, h3⟩
  · obtain ⟨rfl, q⟩ := getL_ok e
    simp only [RD] at ry; obtain ⟨p, rfl, h2⟩ := ry
    obtain ⟨a, n1, xs, o1, d1⟩ := r.at q
    rw [h2] at n1; cases n1
    exact ⟨rfl, p, xs, rfl, .inl (SqL.of o1), d1⟩
  · cases e
theorem seqD_no {y : D} {h h1 : AH} {x : Exn} (e : seqD y h = .err x h1) : False := by
  unfold seqD at e
  split at e
  · cases e
  · cases e
  · exact getL_no e
  · cases e
theorem br_in {K : PySem.W.Frag} {neg : Bool} : BR K EX (rIn K neg) (fIn neg) := by
  intro ρ h H x y v u Q r rx ry fin
  have f1 := Fin.bind fin
  cases e : seqD y h with
  | bad => rw [e] at f1; exact f1.elim
  | err z hz => exact (seqD_no e).elim
  | ok ys h1 =>
    obtain ⟨rfl, p, xs, rfl, hs, hd⟩ := seqD_rel r ry e
    rw [e] at f1
    have f2 := f1 ρ H (Pre.refl _) (Ext.refl _ _) r
    dsimp only at f2
    split at f2
    · rename_i hc
      rw [Bool.and_eq_true] at hc
      refine ⟨p, xs, rfl, hs, flat_rel hc.1 rx, flats_rel hd hc.2, ?_⟩
      refine FE.here f2 r ?_
      unfold inV
      rw [any_rel hc.1 rx hd hc.2]
      cases neg <;> simp [RD]
    · exact f2.elim
end
end FT
set_option Elab.async false
set_option linter.all false
set_option maxRecDepth 100000
namespace FT
open PySem PySem.Spec PyProof.Rows L2
/-! argument lists without a star -/
section
variable {env : Env} {es : List Expr}
theorem st_Constant {c k p} : starEach (.Constant c k p :: es) env = (false, eval (.Constant c k p) env) :: starEach es env := rfl
theorem st_Name {c p} : starEach (.Name c p :: es) env = (false, eval (.Name c p) env) :: starEach es env := rfl
theorem st_Call {a b c p} : starEach (.Call a b c p :: es) env = (false, eval (.Call a b c p) env) :: starEach es env := rfl
theorem st_BinOp {a b c p} : starEach (.BinOp a b c p :: es) env = (false, eval (.BinOp a b c p) env) :: starEach es env := rfl
theorem st_Compare {a b c p} : starEach (.Compare a b c p :: es) env = (false, eval (.Compare a b c p) env) :: starEach es env := rfl
theorem st_Subscript {a b p} : starEach (.Subscript a b p :: es) env = (false, eval (.Subscript a b p) env) :: starEach es env := rfl
theorem st_Tuple {a b p} : starEach (.Tuple a b p :: es) env = (false, eval (.Tuple a b p) env) :: starEach es env := rfl
theorem st_List {a p} : starEach (.List a p :: es) env = (false, eval (.List a p) env) :: starEach es env := rfl
theorem st_UnaryOp {a b p} : starEach (.UnaryOp a b p :: es) env = (false, eval (.UnaryOp a b p) env) :: starEach es env := rfl
theorem st_ListComp {a b c p} : starEach (.ListComp a b c p :: es) env = (false, eval (.ListComp a b c p) env) :: starEach es env := rfl
end
section
variable {X : Cx} {EX : XX} {a b c e : Expr} {pos : Pos} {ma mb mc : G → M D}
/-! ### comparisons, bundled -/
def CO (X : Cx) (EX : XX) (op : CmpOp) (f : D → D → M D) : Prop := ∃ r, OpR X (compareOp op) r ∧ BR X.K EX r f
theorem co_lt : CO X EX .Lt fLt := ⟨_, op_lt.or op_lt_str, br_lt⟩
theorem co_le : CO X EX .LtE fLe := ⟨_, op_le.or op_le_str, br_le⟩
theorem co_gt : CO X EX .Gt fGt := ⟨_, op_gt, br_I0 fun i j ρ H => by simp [RD]⟩
theorem co_ge : CO X EX .GtE fGe := ⟨_, op_ge, br_I0 fun i j ρ H => by simp [RD]⟩
theorem co_eq : CO X EX .Eq (fEq false) := ⟨_, op_eq, br_eq⟩
theorem co_in : CO X EX .In (fIn false) := ⟨_, op_in_seq, br_in⟩
theorem co_notin : CO X EX .NotIn (fIn true) := ⟨_, op_notIn_seq, br_in⟩
/-- x is True, x is None .. -/
def fIs (neg : Bool) : D → D → M D := fun x y => match y with
  | .non => (match x with
    | .non => pure (.bl (true != neg))
    | .bl _ => pure (.bl (false != neg))
    | .int _ => pure (.bl (false != neg))
    | .str _ => pure (.bl (false != neg))
    | .tup _ => pure (.bl (false != neg))
    | _ => bad)
  | .bl k => (match x with
    | .bl j => pure (.bl ((j == k) != neg))
    | .non => pure (.bl (false != neg))
    | .int _ => pure (.bl (false != neg))
    | .str _ => pure (.bl (false != neg))
    | .tup _ => pure (.bl (false != neg))
    | _ => bad)
  | _ => bad
theorem op_is_bl (neg : Bool) : OpR X (compareOp (if neg then .IsNot else .Is)) (fun x y H Q => (y = .non ∧ Q (.bl ((decide (x = .non)) != neg)) H) ∨ ∃ k, y = .bl k ∧ Q (.bl ((decide (x = .bl k)) != neg)) H) := by
  intro pins s σ H x y v u Q I rx ry h
  have pl : ∀ {a b : Value}, plainIs a b = true → EP X pins σ Q (.bool ((a == b) != neg)) s → wpAny (model X.prog X.w) X.A (compareOp (if neg then .IsNot else .Is) a b) (EP X pins σ Q) X.xe s := fun {a b} hp hq => by
    cases neg with
    | false => exact wpAny_is_plain hp (by simpa using hq)
    | true => exact wpAny_isNot_plain hp (by simpa using hq)
  rcases h with ⟨rfl, q⟩ | ⟨k, rfl, q⟩
  · cases ry
    have fin : ∀ {a : Value} {w : Bool}, w = decide (x = .non) → (a == Value.none) = w → EP X pins σ Q (.bool ((a == Value.none) != neg)) s := fun {a w} e1 e2 => by
      rw [e2, e1]; exact ⟨.bl _, H, I, rfl, q⟩
    cases x with
    | non => cases rx; exact pl rfl (fin (w := true) (by simp) rfl)
    | bl j => cases rx; exact pl rfl (fin (w := false) (by simp) rfl)
    | int j => obtain ⟨t, rfl⟩ := rx; exact pl rfl (fin (w := false) (by simp) rfl)
    | str j => obtain ⟨t, rfl⟩ := rx; exact pl rfl (fin (w := false) (by simp) rfl)
    | byt j => obtain ⟨t, rfl⟩ := rx; exact pl rfl (fin (w := false) (by simp) rfl)
    | flt j => obtain ⟨t, rfl⟩ := rx; exact pl rfl (fin (w := false) (by simp) rfl)
    | ref j => cases rx; exact pl rfl (fin (w := false) (by simp) rfl)
    | ty j => cases rx; exact pl rfl (fin (w := false) (by simp) rfl)
  · cases ry
    have fin : ∀ {a : Value} {w : Bool}, w = decide (x = .bl k) → (a == Value.bool k) = w → EP X pins σ Q (.bool ((a == Value.bool k) != neg)) s := fun {a w} e1 e2 => by
      rw [e2, e1]; exact ⟨.bl _, H, I, rfl, q⟩
    cases x with
    | non => cases rx; exact pl rfl (fin (w := false) (by simp) rfl)
    | bl j => cases rx; exact pl rfl (fin (w := (j == k)) (by rw [Bool.eq_iff_iff]; simp) (by cases j <;> cases k <;> rfl))
    | int j => obtain ⟨t, rfl⟩ := rx; exact pl rfl (fin (w := false) (by simp) rfl)
    | str j => obtain ⟨t, rfl⟩ := rx; exact pl rfl (fin (w := false) (by simp) rfl)
    | byt j => obtain ⟨t, rfl⟩ := rx; exact pl rfl (fin (w := false) (by simp) rfl)
    | flt j => obtain ⟨t, rfl⟩ := rx; exact pl rfl (fin (w := false) (by simp) rfl)
    | ref j => cases rx; exact pl rfl (fin (w := false) (by simp) rfl)
    | ty j => cases rx; exact pl rfl (fin (w := false) (by simp) rfl)
theorem isnon_rel {K : PySem.W.Frag} {ρ : List Addr} {H : Hp} {x : D} {v : V} (rx : RD K ρ H x v) : decide (v = .non) = (match x with | .non => true | _ => false) := by
  cases x <;> simp only [RD] at rx
  case non => subst rx; simp
  case bl => subst rx; simp
  case int => subst rx; simp
  case str => subst rx; simp
  case tup => obtain ⟨a, xs, rfl, _⟩ := rx; simp
  case fl => obtain ⟨a, xs, rfl, _⟩ := rx; simp
  case ref => obtain ⟨a, rfl, _⟩ := rx; simp
theorem isbl_rel {K : PySem.W.Frag} {ρ : List Addr} {H : Hp} {x : D} {v : V} {k : Bool} (rx : RD K ρ H x v) : decide (v = .bl k) = (match x with | .bl j => j == k | _ => false) := by
  cases x <;> simp only [RD] at rx
  case non => subst rx; simp
  case bl j => subst rx; cases j <;> cases k <;> rfl
  case int => subst rx; simp
  case str => subst rx; simp
  case tup => obtain ⟨a, xs, rfl, _⟩ := rx; simp
  case fl => obtain ⟨a, xs, rfl, _⟩ := rx; simp
  case ref => obtain ⟨a, rfl, _⟩ := rx; simp
theorem br_is {K : PySem.W.Frag} (neg : Bool) : BR K EX (fun x y H Q => (y = .non ∧ Q (.bl ((decide (x = .non)) != neg)) H) ∨ ∃ k, y = .bl k ∧ Q (.bl ((decide (x = .bl k)) != neg)) H) (fIs neg) := by
  intro ρ h H x y v u Q r rx ry fin
  cases y with
  | non =>
    simp only [RD] at ry
    refine .inl ⟨ry, ?_⟩
    rw [isnon_rel rx]
    cases x <;> first | exact (show False from fin).elim | exact FE.here fin r (by simp [RD])
  | bl k =>
    simp only [RD] at ry
    refine .inr ⟨k, ry, ?_⟩
    rw [isbl_rel rx]
    cases x <;> first | exact (show False from fin).elim | exact FE.here fin r (by simp [RD])
  | _ => exact (show False from fin).elim
theorem co_is : CO X EX .Is (fIs false) := ⟨_, op_is_bl false, br_is false⟩
theorem co_isnot : CO X EX .IsNot (fIs true) := ⟨_, op_is_bl true, br_is true⟩
theorem se_c {op : CmpOp} {f : D → D → M D} (h : CO X EX op f) (ha : SE X EX a ma) (hb : SE X EX b mb) (hm : behindInMarks op b = false := by first | exact nomark _ | with_unfolding_all rfl) : SE X EX (.Compare a [op] [b] pos) (e2 f ma mb) := by
  obtain ⟨r, h1, h2⟩ := h
  exact se_cmp h1 h2 ha hb hm
/-! ### tests -/
def asB : D → M Bool
  | .bl b => pure b
  | _ => bad
theorem tT_of {t : TE} {m : G → M D} (h : ∀ σ H Q, tE X.K EX m σ H Q → t σ H Q) : ∀ σ H Q, tT X.K EX (fun γ => do let d ← m γ; asB d) σ H Q → tTest t σ H Q := by
  intro σ H Q ⟨ρ, γ, h0, rel, fin⟩
  refine h σ H _ ⟨ρ, γ, h0, rel, (Fin.bind fin).mono fun d ρ1 h1 H1 p1 e1 r1 f1 v rv => ?_⟩
  cases d <;> first | exact (show False from f1).elim | skip
  rename_i b
  simp only [RD] at rv
  exact ⟨b, rv, f1 ρ1 H1 (Pre.refl _) (Ext.refl _ _) r1⟩
theorem sc_c {op : CmpOp} {f : D → D → M D} (h : CO X EX op f) (ha : SE X EX a ma) (hb : SE X EX b mb) (hm : behindInMarks op b = false := by first | exact nomark _ | with_unfolding_all rfl) : SC X EX (.Compare a [op] [b] pos) (fun γ => do let d ← e2 f ma mb γ; asB d) := by
  constructor
  obtain ⟨r, h1, h2⟩ := h
  refine PT.imp (pt_cmpR h1 ha.h hb.h hm) (tT_of fun σ H Q ⟨ρ, γ, h, rel, fin⟩ => ?_)
  exact ⟨ρ, γ, h, rel, (Fin.bind fin).mono fun x ρ1 h1 H1 p1 e1 r1 f1 v rv => ⟨ρ1, γ, h1, ⟨rel.g.mono p1 e1, r1⟩, (Fin.bind f1).mono fun y ρ2 h3 H2 p2 e2 r2 f2 u ru =>
    h2 ρ2 h3 H2 x y v u Q r2 (rv.mono p2 e2) ru f2⟩⟩
/-- a op b op' c -/
def e3 (f g : D → D → M D) (ma mb mc : G → M D) : G → M D := fun γ => do
  let x ← ma γ
  let y ← mb γ
  let k ← f x y
  let t ← asB k
  if t then do
    let z ← mc γ
    g y z
  else pure (.bl false)
theorem chain_of {r r' : R2} {f g : D → D → M D} (h2 : BR X.K EX r f) (h4 : BR X.K EX r' g) : ∀ σ H Q, tE X.K EX (e3 f g ma mb mc) σ H Q → tChain r r' (tE X.K EX ma) (tE X.K EX mb) (tE X.K EX mc) σ H Q := by
  intro σ H Q ⟨ρ, γ, h, rel, fin⟩
  refine ⟨ρ, γ, h, rel, (Fin.bind fin).mono fun x ρ1 h1 H1 p1 e1 r1 f1 v rv => ⟨ρ1, γ, h1, ⟨rel.g.mono p1 e1, r1⟩, (Fin.bind f1).mono fun y ρ2 h3 H2 p2 e2 r2 f2 u ru => ?_⟩⟩
  refine h2 ρ2 h3 H2 x y v u _ r2 (rv.mono p2 e2) ru ((Fin.bind f2).mono fun k ρ3 h5 H3 p3 e3 r3 f3 z rz => ?_)
  cases k <;> first | exact (show False from f3).elim | skip
  rename_i t
  simp only [RD] at rz
  refine ⟨t, rz, ?_⟩
  cases t with
  | false =>
    rw [if_neg (by decide)]
    exact FE.here (d := .bl false) (h := h5) (ρ := ρ3) f3 r3 (by simp [RD])
  | true =>
    rw [if_pos rfl]
    have f4 : Fin X.K EX ρ3 H3 (fun d ρ' _ H' => ∀ v, RD X.K ρ' H' d v → Q v H') ((mc γ >>= fun z => g y z) h5) := f3
    exact ⟨ρ3, γ, h5, ⟨((rel.g.mono p1 e1).mono p2 e2).mono p3 e3, r3⟩, (Fin.bind f4).mono fun w ρ4 h6 H4 p4 e4 r4 f5 q rq => h4 ρ4 h6 H4 y w u q Q r4 ((ru.mono p3 e3).mono p4 e4) rq f5⟩
theorem se_c2 {op op' : CmpOp} {f g : D → D → M D} (h : CO X EX op f) (h' : CO X EX op' g) (ha : SE X EX a ma) (hb : SE X EX b mb) (hc : SE X EX c mc) (hm : lastMarks [op, op'] [b, c] = false := by with_unfolding_all rfl) : SE X EX (.Compare a [op, op'] [b, c] pos) (e3 f g ma mb mc) := by
  constructor
  obtain ⟨r, h1, h2⟩ := h
  obtain ⟨r', h3, h4⟩ := h'
  exact PE.imp (pe_chain h1 h3 ha.h hb.h hc.h hm) (chain_of h2 h4)
theorem sc_c2 {op op' : CmpOp} {f g : D → D → M D} (h : CO X EX op f) (h' : CO X EX op' g) (ha : SE X EX a ma) (hb : SE X EX b mb) (hc : SE X EX c mc) (hm : lastMarks [op, op'] [b, c] = false := by with_unfolding_all rfl) : SC X EX (.Compare a [op, op'] [b, c] pos) (fun γ => do let d ← e3 f g ma mb mc γ; asB d) := by
  constructor
  obtain ⟨r, h1, h2⟩ := h
  obtain ⟨r', h3, h4⟩ := h'
  exact PT.imp (pt_chain h1 h3 ha.h hb.h hc.h hm) (tT_of (chain_of h2 h4))
/-! ### and, or, not, if else -/
def eAnd (ma mb : G → M D) : G → M D := fun γ => do
  let x ← ma γ
  let t ← asB x
  if t then mb γ else pure (.bl false)
def eOr (ma mb : G → M D) : G → M D := fun γ => do
  let x ← ma γ
  let t ← asB x
  if t then pure (.bl true) else mb γ
def eNot (ma : G → M D) : G → M D := fun γ => do
  let x ← ma γ
  let t ← asB x
  pure (.bl (!t))
variable {rest : List Expr}
theorem se_one {op : PySem.BoolOp} (ha : SE X EX a ma) : SE X EX (.BoolOp op [a] pos) ma := ⟨pe_one ha.h⟩
theorem se_band (ha : SE X EX a ma) (hb : SE X EX (.BoolOp .And (b :: rest) pos) mb) : SE X EX (.BoolOp .And (a :: b :: rest) pos) (eAnd ma mb) :=
  ⟨PE.imp (pe_and ha.h hb.h) fun σ H Q ⟨ρ, γ, h, rel, fin⟩ => ⟨ρ, γ, h, rel, (Fin.bind fin).mono fun x ρ1 h1 H1 p1 e1 r1 f1 v rv => by
    cases x <;> first | exact (show False from f1).elim | skip
    rename_i t
    simp only [RD] at rv
    refine ⟨t, rv, ?_⟩
    cases t with
    | true => exact ⟨ρ1, γ, h1, ⟨rel.g.mono p1 e1, r1⟩, f1⟩
    | false => exact FE.here (d := .bl false) (h := h1) (ρ := ρ1) f1 r1 (by simp [RD])⟩⟩
theorem se_bor (ha : SE X EX a ma) (hb : SE X EX (.BoolOp .Or (b :: rest) pos) mb) : SE X EX (.BoolOp .Or (a :: b :: rest) pos) (eOr ma mb) :=
  ⟨PE.imp (pe_or ha.h hb.h) fun σ H Q ⟨ρ, γ, h, rel, fin⟩ => ⟨ρ, γ, h, rel, (Fin.bind fin).mono fun x ρ1 h1 H1 p1 e1 r1 f1 v rv => by
    cases x <;> first | exact (show False from f1).elim | skip
    rename_i t
    simp only [RD] at rv
    refine ⟨t, rv, ?_⟩
    cases t with
    | false => exact ⟨ρ1, γ, h1, ⟨rel.g.mono p1 e1, r1⟩, f1⟩
    | true => exact FE.here (d := .bl true) (h := h1) (ρ := ρ1) f1 r1 (by simp [RD])⟩⟩
theorem se_bnot (ha : SE X EX a ma) : SE X EX (.UnaryOp .Not a pos) (eNot ma) :=
  ⟨PE.imp (pe_not ha.h) fun σ H Q ⟨ρ, γ, h, rel, fin⟩ => ⟨ρ, γ, h, rel, (Fin.bind fin).mono fun x ρ1 h1 H1 p1 e1 r1 f1 v rv => by
    cases x <;> first | exact (show False from f1).elim | skip
    rename_i t
    simp only [RD] at rv
    exact ⟨t, rv, FE.here (d := .bl (!t)) (h := h1) (ρ := ρ1) f1 r1 (by simp [RD])⟩⟩⟩
/-- tests -/
structure SW (X : Cx) (EX : XX) (e : Expr) (m : G → M Bool) : Prop where
  h : PW X e (tT X.K EX m)
theorem PW.imp {X : Cx} {e : Expr} {t t' : TT} (h : PW X e t) (f : ∀ σ H Q, t' σ H Q → t σ H Q) : PW X e t' := fun w pins s σ H Q I z => h w pins s σ H Q I (f σ H Q z)
variable {ka kb kc : G → M Bool}
def cAnd (ka kb : G → M Bool) : G → M Bool := fun γ => do
  let t ← ka γ
  if t then kb γ else pure false
def cOr (ka kb : G → M Bool) : G → M Bool := fun γ => do
  let t ← ka γ
  if t then pure true else kb γ
def cNot (ka : G → M Bool) : G → M Bool := fun γ => do
  let t ← ka γ
  pure (!t)
theorem sw_and1 (ha : SC X EX a ka) : SW X EX (.BoolOp .And [a] pos) ka := ⟨pw_and1 ha.h⟩
theorem sw_or1 (ha : SC X EX a ka) : SW X EX (.BoolOp .Or [a] pos) ka := ⟨pw_or1 ha.h⟩
theorem sw_and (ha : SC X EX a ka) (hb : SW X EX (.BoolOp .And (b :: rest) pos) kb) : SW X EX (.BoolOp .And (a :: b :: rest) pos) (cAnd ka kb) :=
  ⟨PW.imp (pw_and ha.h hb.h) fun σ H Q ⟨ρ, γ, h, rel, fin⟩ => ⟨ρ, γ, h, rel, (Fin.bind fin).mono fun t ρ1 h1 H1 p1 e1 r1 f1 => by
    cases t with
    | true => exact ⟨ρ1, γ, h1, ⟨rel.g.mono p1 e1, r1⟩, f1⟩
    | false => exact f1 ρ1 H1 (Pre.refl _) (Ext.refl _ _) r1⟩⟩
theorem sw_or (ha : SC X EX a ka) (hb : SW X EX (.BoolOp .Or (b :: rest) pos) kb) : SW X EX (.BoolOp .Or (a :: b :: rest) pos) (cOr ka kb) :=
  ⟨PW.imp (pw_or ha.h hb.h) fun σ H Q ⟨ρ, γ, h, rel, fin⟩ => ⟨ρ, γ, h, rel, (Fin.bind fin).mono fun t ρ1 h1 H1 p1 e1 r1 f1 => by
    cases t with
    | false => exact ⟨ρ1, γ, h1, ⟨rel.g.mono p1 e1, r1⟩, f1⟩
    | true => exact f1 ρ1 H1 (Pre.refl _) (Ext.refl _ _) r1⟩⟩
theorem SW.sc (h : SW X EX e ka) : SC X EX e ka := ⟨PW.pt h.h⟩
theorem sc_not (ha : SC X EX a ka) : SC X EX (.UnaryOp .Not a pos) (cNot ka) :=
  ⟨PT.imp (pt_not ha.h) fun σ H Q ⟨ρ, γ, h, rel, fin⟩ => ⟨ρ, γ, h, rel, (Fin.bind fin).mono fun t ρ1 h1 H1 p1 e1 r1 f1 => f1 ρ1 H1 (Pre.refl _) (Ext.refl _ _) r1⟩⟩
/-- a value's truth -/
def truD : D → M Bool
  | .non => pure false
  | .bl b => pure b
  | .int i => pure (i != 0)
  | .str y => if y.length ≤ sizeLine then pure (decide (y.length ≠ 0)) else bad
  | .tup xs => pure (!xs.isEmpty)
  | .fl xs => pure (!xs.isEmpty)
  | .ref n => do
    let xs ← getL n
    pure (!xs.isEmpty)
def cVal (ma : G → M D) : G → M Bool := fun γ => do
  let x ← ma γ
  truD x
theorem isE {K : PySem.W.Frag} {ρ : List Addr} {H : Hp} {ds : List D} {xs : List V} (h : RDs K ρ H ds xs) : ds.isEmpty = xs.isEmpty := by
  have := h.length
  cases ds <;> cases xs <;> simp at this ⊢
theorem tru_rel {ρ : List Addr} {h : AH} {H : Hp} {x : D} {v : V} {Q : Bool → Hp → Prop} (r : RH X.K ρ h H) (rx : RD X.K ρ H x v) (f : Fin X.K EX ρ H (fun b _ _ H' => Q b H') (truD x h)) : ∃ k, TruV X.K v H k ∧ Q k H := by
  cases x with
  | non => simp only [RD] at rx; subst rx; exact ⟨false, rfl, f ρ H (Pre.refl _) (Ext.refl _ _) r⟩
  | bl b => simp only [RD] at rx; subst rx; exact ⟨b, rfl, f ρ H (Pre.refl _) (Ext.refl _ _) r⟩
  | int b => simp only [RD] at rx; subst rx; exact ⟨_, rfl, f ρ H (Pre.refl _) (Ext.refl _ _) r⟩
  | str y =>
    simp only [RD] at rx; subst rx
    have f' : Fin X.K EX ρ H (fun b _ _ H' => Q b H') ((if y.length ≤ sizeLine then pure (decide (y.length ≠ 0)) else bad : M Bool) h) := f
    by_cases hl : y.length ≤ sizeLine
    · rw [if_pos hl] at f'
      refine ⟨decide (y.length ≠ 0), ⟨hl, ?_⟩, f' ρ H (Pre.refl _) (Ext.refl _ _) r⟩
      rw [Bool.eq_iff_iff]; simp
    · rw [if_neg hl] at f'; exact f'.elim
  | tup xs =>
    simp only [RD] at rx; obtain ⟨a, vs, rfl, h1, h2⟩ := rx
    exact ⟨!xs.isEmpty, .inr (.inl ⟨vs, h1, by rw [isE h2]⟩), f ρ H (Pre.refl _) (Ext.refl _ _) r⟩
  | fl xs =>
    simp only [RD] at rx; obtain ⟨a, vs, rfl, h1, h2⟩ := rx
    exact ⟨!xs.isEmpty, .inl ⟨vs, h1.sq, by rw [isE h2]⟩, f ρ H (Pre.refl _) (Ext.refl _ _) r⟩
  | ref n =>
    have f1 := Fin.bind f
    cases e : getL n h with
    | bad => rw [e] at f1; exact f1.elim
    | err z hz => exact (getL_no e).elim
    | ok xs h1 =>
      obtain ⟨rfl, q1⟩ := getL_ok e
      rw [e] at f1
      have f2 := f1 ρ H (Pre.refl _) (Ext.refl _ _) r
      simp only [RD] at rx; obtain ⟨a, rfl, h2⟩ := rx
      obtain ⟨a1, n1, vs, o1, d1⟩ := r.at q1
      rw [h2] at n1; cases n1
      exact ⟨!xs.isEmpty, .inl ⟨vs, SqL.of o1, by rw [isE d1]⟩, f2 ρ H (Pre.refl _) (Ext.refl _ _) r⟩
theorem sc_val (ha : SE X EX a ma) (he : ∀ whole, isTrue a X.env whole = (do let v ← whole; standAt a.pos; holding [v] (truthy v)) := by intro _; rfl) : SC X EX a (cVal ma) :=
  ⟨PT.imp (pt_truth ha.h he) fun σ H Q ⟨ρ, γ, h, rel, fin⟩ => ⟨ρ, γ, h, rel, (Fin.bind fin).mono fun x ρ1 h1 H1 p1 e1 r1 f1 v rv => tru_rel r1 rv f1⟩⟩
def eIf (k : G → M Bool) (ma mb : G → M D) : G → M D := fun γ => do
  let t ← k γ
  if t then ma γ else mb γ
theorem se_if (hc : SC X EX c kc) (ha : SE X EX a ma) (hb : SE X EX b mb) : SE X EX (.IfExp c a b pos) (eIf kc ma mb) :=
  ⟨PE.imp (pe_ifExp hc.h ha.h hb.h) fun σ H Q ⟨ρ, γ, h, rel, fin⟩ => ⟨ρ, γ, h, rel, (Fin.bind fin).mono fun t ρ1 h1 H1 p1 e1 r1 f1 => by
    cases t with
    | true => exact ⟨ρ1, γ, h1, ⟨rel.g.mono p1 e1, r1⟩, f1⟩
    | false => exact ⟨ρ1, γ, h1, ⟨rel.g.mono p1 e1, r1⟩, f1⟩⟩⟩
/-! ### argument lists, displays -/
def aNil : G → M (List D) := fun _ => pure []
def aCons (ma : G → M D) (mr : G → M (List D)) : G → M (List D) := fun γ => do
  let x ← ma γ
  let r ← mr γ
  pure (x :: r)
variable {es : List Expr} {mr : G → M (List D)}
theorem sa_nil : SA X EX [] aNil := ⟨PA.imp pa_nil fun σ H Q ⟨ρ, γ, h, rel, fin⟩ => fin ρ H (Pre.refl _) (Ext.refl _ _) rel.h [] RDs.nil⟩
theorem sa_cons (ha : SE X EX a ma) (hr : SA X EX es mr) (hs : starEach (a :: es) X.env = (false, eval a X.env) :: starEach es X.env := by first | exact st_Constant | exact st_Name | exact st_Call | exact st_BinOp | exact st_Compare | exact st_Subscript | exact st_Tuple | exact st_List | exact st_UnaryOp | exact st_ListComp | rfl) : SA X EX (a :: es) (aCons ma mr) :=
  ⟨PA.imp (pa_cons ha.h hr.h hs) fun σ H Q ⟨ρ, γ, h, rel, fin⟩ => ⟨ρ, γ, h, rel, (Fin.bind fin).mono fun x ρ1 h1 H1 p1 e1 r1 f1 v rv => ⟨ρ1, γ, h1, ⟨rel.g.mono p1 e1, r1⟩, (Fin.bind f1).mono fun ds ρ2 h2 H2 p2 e2 r2 f2 vs rvs =>
    f2 ρ2 H2 (Pre.refl _) (Ext.refl _ _) r2 (v :: vs) (RDs.cons (rv.mono p2 e2) rvs)⟩⟩⟩
def eTup (mr : G → M (List D)) : G → M D := fun γ => do
  let xs ← mr γ
  if xs.length ≤ sizeLine then pure (.tup xs) else bad
def eLst (mr : G → M (List D)) : G → M D := fun γ => do
  let xs ← mr γ
  newL xs
theorem se_tup {k : Nat} (h : SA X EX es mr) : SE X EX (.Tuple es k pos) (eTup mr) :=
  ⟨PE.imp (pe_tup h.h) fun σ H Q ⟨ρ, γ, h, rel, fin⟩ => ⟨ρ, γ, h, rel, (Fin.bind fin).mono fun xs ρ1 h1 H1 p1 e1 r1 f1 vs rvs => by
    by_cases hl : xs.length ≤ sizeLine
    · rw [if_pos hl] at f1
      exact ⟨by rw [← rvs.length]; exact hl, fun p hp => FE.tup (h := h1) f1 r1 rvs hp⟩
    · rw [if_neg hl] at f1; exact (show False from f1).elim⟩⟩
theorem se_lst (h : SA X EX es mr) : SE X EX (.List es pos) (eLst mr) :=
  ⟨PE.imp (pe_lst h.h) fun σ H Q ⟨ρ, γ, h, rel, fin⟩ => ⟨ρ, γ, h, rel, (Fin.bind fin).mono fun xs ρ1 h1 H1 p1 e1 r1 f1 vs rvs => by
    unfold newL at f1
    split at f1
    · rename_i hl
      exact ⟨by rw [← rvs.length]; exact hl, fun p hp => FE.lst (h := h1) f1 r1 rvs hp⟩
    · exact (show False from f1).elim⟩⟩
/-! ### items -/
def fIx : D → D → M D
  | .str z, .int i => if z.length ≤ sizeLine then (match atI z.cps.toList i with
    | some c => pure (.str ⟨#[c]⟩)
    | none => bad) else bad
  | x, .int i => do
    let xs ← seqD x
    match atI xs i with
    | some d => pure d
    | none => bad
  | _, _ => bad
theorem atI_rel {K : PySem.W.Frag} {ρ : List Addr} {H : Hp} {ds : List D} {xs : List V} {i : Int} {d : D} (h : RDs K ρ H ds xs) (e : atI ds i = some d) : ∃ x, atI xs i = some x ∧ RD K ρ H d x := by
  unfold atI at e ⊢
  rw [← h.length]
  cases q : ixN ds.length i with
  | none => rw [q] at e; cases e
  | some j => rw [q] at e; exact h.get e
theorem br_ix : BR X.K EX (rIx X.K) fIx := by
  intro ρ h H x y v u Q r rx ry fin
  unfold fIx at fin
  split at fin
  · simp only [RD] at rx ry; subst rx; subst ry
    rename_i z i
    by_cases hl : z.length ≤ sizeLine
    · rw [if_pos hl] at fin
      cases hc : atI z.cps.toList i with
      | none => rw [hc] at fin; exact fin.elim
      | some c =>
        rw [hc] at fin
        exact .inr (.inr ⟨_, _, c, rfl, rfl, hl, hc, FE.here fin r (by simp [RD])⟩)
    · rw [if_neg hl] at fin; exact fin.elim
  · rename_i i _
    simp only [RD] at ry; subst ry
    have f1 := Fin.bind fin
    cases e : seqD x h with
    | bad => rw [e] at f1; exact f1.elim
    | err z hz => exact (seqD_no e).elim
    | ok ys h1 =>
      obtain ⟨rfl, p, xs, rfl, hs, hd⟩ := seqD_rel r rx e
      rw [e] at f1
      have f2 := f1 ρ H (Pre.refl _) (Ext.refl _ _) r
      dsimp only at f2
      cases q : atI ys i with
      | none => rw [q] at f2; exact f2.elim
      | some d =>
        rw [q] at f2
        obtain ⟨w, h2, h3⟩ := atI_rel hd q
        rcases hs with hs | hs
        · exact .inl ⟨p, xs, i, w, rfl, rfl, hs, h2, FE.here f2 r h3⟩
        · exact .inr (.inl ⟨p, xs, i, w, rfl, rfl, hs, h2, FE.here f2 r h3⟩)
  · exact fin.elim
theorem se_ix (ha : SE X EX a ma) (hb : SE X EX b mb) (hs : PlainIx b := by intro _ _; rfl) : SE X EX (.Subscript a b pos) (e2 fIx ma mb) :=
  se_two (ta := tE X.K EX ma) (tb := tE X.K EX mb) (pe_ix ix_seq ha.h hb.h hs) br_ix
end
end FT
set_option Elab.async false
set_option linter.all false
set_option maxRecDepth 100000
namespace FT
open PySem PySem.Spec PyProof.Rows L2
section
variable {X : Cx} {EX : XX} {a b c e : Expr} {pos p p2 : Pos} {ma mb mc : G → M D} {es : List Expr} {mr : G → M (List D)}
/-! ### built-in functions -/
def AR (K : PySem.W.Frag) (EX : XX) (r : List V → Hp → VK → Prop) (f : List D → M D) : Prop := ∀ ρ h H ds vs Q, RH K ρ h H → RDs K ρ H ds vs → FE K EX ρ H Q (f ds h) → r vs H Q
def eCall (f : List D → M D) (mr : G → M (List D)) : G → M D := fun γ => do
  let xs ← mr γ
  f xs
theorem se_args {r : List V → Hp → VK → Prop} {f : List D → M D} (h : PE X e (tCB r (tL X.K EX mr))) (hr : AR X.K EX r f) : SE X EX e (eCall f mr) :=
  ⟨PE.imp h fun σ H Q ⟨ρ, γ, h, rel, fin⟩ => ⟨ρ, γ, h, rel, (Fin.bind fin).mono fun xs ρ1 h1 H1 p1 e1 r1 f1 vs rvs => hr ρ1 h1 H1 xs vs Q r1 rvs f1⟩⟩
theorem rds1 {K : PySem.W.Frag} {ρ : List Addr} {H : Hp} {d : D} {vs : List V} (h : RDs K ρ H [d] vs) : ∃ v, vs = [v] ∧ RD K ρ H d v := by
  simp only [RDs] at h
  obtain ⟨x, r, rfl, h2, rfl⟩ := h
  exact ⟨x, rfl, h2⟩
def fLen : List D → M D
  | [.str z] => if z.length ≤ sizeLine then pure (.int z.length) else bad
  | [x] => do
    let xs ← seqD x
    pure (.int xs.length)
  | _ => bad
theorem ar_len : AR X.K EX (fun xs H Q => ∃ x n, xs = [x] ∧ LenV X.K x H n ∧ Q (.int n) H) fLen := by
  intro ρ h H ds vs Q r rd fin
  unfold fLen at fin
  split at fin
  · rename_i z
    obtain ⟨v, rfl, rv⟩ := rds1 rd
    simp only [RD] at rv; subst rv
    by_cases hl : z.length ≤ sizeLine
    · rw [if_pos hl] at fin
      exact ⟨_, z.length, rfl, ⟨hl, rfl⟩, FE.here fin r (by simp [RD])⟩
    · rw [if_neg hl] at fin; exact fin.elim
  · rename_i x _
    obtain ⟨v, rfl, rv⟩ := rds1 rd
    have f1 := Fin.bind fin
    cases e : seqD x h with
    | bad => rw [e] at f1; exact f1.elim
    | err z hz => exact (seqD_no e).elim
    | ok ys h1 =>
      obtain ⟨rfl, p, xs, rfl, hs, hd⟩ := seqD_rel r rv e
      rw [e] at f1
      have f2 := f1 ρ H (Pre.refl _) (Ext.refl _ _) r
      refine ⟨_, ys.length, rfl, ?_, FE.here f2 r (by simp [RD])⟩
      rw [hd.length]
      rcases hs with hs | hs
      · exact .inl ⟨xs, hs, rfl⟩
      · exact .inr ⟨xs, hs, rfl⟩
  · exact fin.elim
theorem se_len (hg : Gl X "len") (hm : X.mg "len" = none) (ha : SA X EX [a] mr) (he : starEach [a] X.env = [(false, eval a X.env)] := by rfl) : SE X EX (.Call (.Name "len" p) [a] [] pos) (eCall fLen mr) :=
  se_args (pe_callB call_len hg hm PySem.boot_len ha.h (by decide) (by decide) he rfl) ar_len
def fTuple : List D → M D
  | [.tup xs] => pure (.tup xs)
  | [x] => do
    let xs ← seqD x
    pure (.tup xs)
  | _ => bad
theorem ar_tuple : AR X.K EX (fun xs H Q => ∃ p ys, xs = [.ref p] ∧ ((SqL X.K H p ys ∧ ∀ l, H l = none → Q (.ref l) (upd H l (.tup ys))) ∨ (SqT X.K H p ys ∧ Q (.ref p) H))) fTuple := by
  intro ρ h H ds vs Q r rd fin
  unfold fTuple at fin
  split at fin
  · obtain ⟨v, rfl, rv⟩ := rds1 rd
    have rv' := rv
    simp only [RD] at rv
    obtain ⟨q, xs, rfl, h1, h2⟩ := rv
    exact ⟨q, xs, rfl, .inr ⟨h1, FE.here fin r rv'⟩⟩
  · rename_i x hx
    obtain ⟨v, rfl, rv⟩ := rds1 rd
    have f1 := Fin.bind fin
    cases e : seqD x h with
    | bad => rw [e] at f1; exact f1.elim
    | err z hz => exact (seqD_no e).elim
    | ok ys h1 =>
      obtain ⟨rfl, q, xs, rfl, hs, hd⟩ := seqD_rel r rv e
      rw [e] at f1
      have f2 := f1 ρ H (Pre.refl _) (Ext.refl _ _) r
      refine ⟨q, xs, rfl, ?_⟩
      rcases hs with hs | hs
      · exact .inl ⟨hs, fun l hl => FE.tup f2 r hd hl⟩
      · refine .inr ⟨hs, FE.here f2 r ?_⟩
        simp only [RD]
        exact ⟨q, xs, rfl, hs, hd⟩
  · exact fin.elim
theorem se_tuple (hg : Gl X "tuple") (hm : X.mg "tuple" = none) (ha : SA X EX [a] mr) (he : starEach [a] X.env = [(false, eval a X.env)] := by rfl) : SE X EX (.Call (.Name "tuple" p) [a] [] pos) (eCall fTuple mr) :=
  se_args (pe_callTy call_tuple_of hg hm (by decide +kernel) ha.h (by decide) (by decide) he rfl) ar_tuple
/-! ### isinstance(x, T), T a built-in type -/
def tyD : D → M String
  | .non => pure "NoneType"
  | .bl _ => pure "bool"
  | .int _ => pure "int"
  | .str _ => pure "str"
  | .tup _ => pure "tuple"
  | .fl _ => pure "list"
  | .ref n => do
    let _ ← getL n
    pure "list"
def subT (t T : String) : Bool := t == T || (t == "bool" && T == "int")
def tyNames : List String := ["NoneType", "bool", "int", "str", "tuple", "list", "dict"]
def tyAsked : List String := ["bool", "int", "str", "tuple", "list", "dict"]
theorem kit_all : tyNames.all (fun t => tyAsked.all fun T => decide (PySem.W.kitOne [] (.type t) (.type T) = some (subT t T))) = true := by decide +kernel
theorem kit_ty {K : PySem.W.Frag} {t T : String} (h1 : t ∈ tyNames) (h2 : T ∈ tyAsked) : PySem.W.kitOne K (.type t) (.type T) = some (subT t T) := by
  have q := kit_all
  rw [List.all_eq_true] at q
  have q2 := q t h1
  rw [List.all_eq_true] at q2
  have q3 := q2 T h2
  exact of_decide_eq_true q3
def fIsi (T : String) : D → M D := fun x => do
  let t ← tyD x
  pure (.bl (subT t T))
theorem isi_seq {pins : List (Addr × Obj)} {σ : L2.St} {H : Hp} {s : Shared} {E : Value → Shared → Prop} {Q : Value → Shared → Prop} {q : Addr} {c : Value} {k : Bool} {xs : List V} (I : Inv X pins σ H s) (h : SqT X.K H q xs) (e : PySem.W.kitOne X.K (.type "tuple") c = some k) (hQ : ∀ tk, Q (.bool k) { s with toks := tk }) :
    wpAny (model X.prog X.w) X.A (call (.builtin "isinstance") [.ref q, c]) Q E s := by
  obtain ⟨its, _, ht, _⟩ := I.tuple h
  obtain ⟨o, h1, h2, _⟩ := ht
  exact PySem.W.kia_one PySem.W.kitx_tuple I.kIn ⟨o, h1, h2⟩ e (fun z => nomatch z) hQ
theorem isi_lst {pins : List (Addr × Obj)} {σ : L2.St} {H : Hp} {s : Shared} {E : Value → Shared → Prop} {Q : Value → Shared → Prop} {q : Addr} {c : Value} {k : Bool} {xs : List V} (I : Inv X pins σ H s) (h : SqL X.K H q xs) (e : PySem.W.kitOne X.K (.type "list") c = some k) (hQ : ∀ tk, Q (.bool k) { s with toks := tk }) :
    wpAny (model X.prog X.w) X.A (call (.builtin "isinstance") [.ref q, c]) Q E s := by
  obtain ⟨its, _, ht, _⟩ := I.list h
  obtain ⟨o, n, h1, h2, _⟩ := ht
  exact PySem.W.kia_one PySem.W.kitx_list I.kIn ⟨o, h1, h2⟩ e (fun z => nomatch z) hQ
/-- the types of values -/
def TyV (K : PySem.W.Frag) (H : Hp) (v : V) (t : String) : Prop := match v with
  | .non => t = "NoneType"
  | .bl _ => t = "bool"
  | .int _ => t = "int"
  | .str _ => t = "str"
  | .ref q => (t = "tuple" ∧ ∃ xs, SqT K H q xs) ∨ (t = "list" ∧ ∃ xs, SqL K H q xs)
  | _ => False
theorem call_isi {T : String} (hT : T ∈ tyAsked) : CallR X (.builtin "isinstance") (fun xs H Q => ∃ x t, xs = [x, .ty T] ∧ TyV X.K H x t ∧ Q (.bl (subT t T)) H) := by
  intro pins s σ H xs us Q I r h
  obtain ⟨x, t, rfl, ty, q⟩ := h
  obtain ⟨u, w', rfl, rx, rt⟩ := vals2 r
  cases rt
  have fin : ∀ tk, EP X pins σ Q (.bool (subT t T)) { s with toks := tk } := fun tk => ⟨.bl _, H, I.tok tk, rfl, q⟩
  have tb : ∀ {z : V} {t' : Value}, z = x → TyOf X.K H z t' → t' = .type t → t ∈ tyNames → wpAny (model X.prog X.w) X.A (call (.builtin "isinstance") [u, .type T]) (EP X pins σ Q) X.xe s := fun {z t'} e1 ty' e2 hn => by
    subst e1; subst e2
    exact isinst_ok I rx ty' (kit_ty hn hT) fin
  cases x with
  | non => exact tb rfl .non (by rw [show t = "NoneType" from ty]) (by rw [show t = "NoneType" from ty]; decide)
  | bl y => exact tb rfl (.bl y) (by rw [show t = "bool" from ty]) (by rw [show t = "bool" from ty]; decide)
  | int y => exact tb rfl (.int y) (by rw [show t = "int" from ty]) (by rw [show t = "int" from ty]; decide)
  | str y => exact tb rfl (.str y) (by rw [show t = "str" from ty]) (by rw [show t = "str" from ty]; decide)
  | ref y =>
    cases rx
    rcases (show (t = "tuple" ∧ ∃ xs, SqT X.K H y xs) ∨ (t = "list" ∧ ∃ xs, SqL X.K H y xs) from ty) with ⟨rfl, xs, hs⟩ | ⟨rfl, xs, hs⟩
    · exact isi_seq I hs (kit_ty (by decide) hT) fin
    · exact isi_lst I hs (kit_ty (by decide) hT) fin
  | byt y => exact (show False from ty).elim
  | flt y => exact (show False from ty).elim
  | ty y => exact (show False from ty).elim
theorem tyD_rel {K : PySem.W.Frag} {ρ : List Addr} {h h1 : AH} {H : Hp} {x : D} {v : V} {t : String} (r : RH K ρ h H) (rx : RD K ρ H x v) (e : tyD x h = .ok t h1) : h1 = h ∧ TyV K H v t := by
  cases x with
  | non => cases e; simp only [RD] at rx; subst rx; exact ⟨rfl, rfl⟩
  | bl y => cases e; simp only [RD] at rx; subst rx; exact ⟨rfl, rfl⟩
  | int y => cases e; simp only [RD] at rx; subst rx; exact ⟨rfl, rfl⟩
  | str y => cases e; simp only [RD] at rx; subst rx; exact ⟨rfl, rfl⟩
  | tup y => cases e; simp only [RD] at rx; obtain ⟨q, xs, rfl, h2, _⟩ := rx; exact ⟨rfl, .inl ⟨rfl, xs, h2⟩⟩
  | fl y => cases e; simp only [RD] at rx; obtain ⟨q, xs, rfl, h2, _⟩ := rx; exact ⟨rfl, .inr ⟨rfl, xs, h2.sq⟩⟩
  | ref n =>
    simp only [RD] at rx; obtain ⟨q, rfl, h2⟩ := rx
    have e' : (getL n >>= fun _ => (pure "list" : M String)) h = Res.ok t h1 := e
    rw [M.bind_eq] at e'
    cases e3 : getL n h with
    | bad => rw [e3] at e'; cases e'
    | err z hz => exact (getL_no e3).elim
    | ok xs h3 =>
      obtain ⟨rfl, q1⟩ := getL_ok e3
      rw [e3] at e'
      cases e'
      obtain ⟨a1, n1, vs, o1, d1⟩ := r.at q1
      rw [h2] at n1; cases n1
      exact ⟨rfl, .inr ⟨rfl, vs, SqL.of o1⟩⟩
theorem tyD_no {x : D} {h h1 : AH} {z : Exn} (e : tyD x h = .err z h1) : False := by
  cases x with
  | ref n =>
    have e' : (getL n >>= fun _ => (pure "list" : M String)) h = Res.err z h1 := e
    rw [M.bind_eq] at e'
    cases e3 : getL n h with
    | bad => rw [e3] at e'; cases e'
    | err z hz => exact (getL_no e3).elim
    | ok xs h3 => rw [e3] at e'; cases e'
  | _ => cases e
def eIsi (T : String) (ma : G → M D) : G → M D := fun γ => do
  let x ← ma γ
  fIsi T x
theorem se_isi {T : Str} {T' : String} (hg : Gl X "isinstance") (hm : X.mg "isinstance" = none) (hgT : Gl X T) (hmT : X.mg T = none) (hv : bootBuiltins T = some (.type T')) (hT : T' ∈ tyAsked) (ha : SE X EX a ma) (hn : T ≠ "__name__" := by decide) (hd : (T == ("__debug__" : Str)) = false := by decide)
    (he : starEach [a, .Name T p2] X.env = [(false, eval a X.env), (false, eval (.Name T p2) X.env)] := by rfl) (he2 : starEach [.Name T p2] X.env = [(false, eval (.Name T p2) X.env)] := by rfl) : SE X EX (.Call (.Name "isinstance" p) [a, .Name T p2] [] pos) (eIsi T' ma) := by
  constructor
  have hA : PA X [a, .Name T p2] (tCons (tE X.K EX ma) (tCons (tC (.ty T')) tNil)) := pa_cons ha.h (pa_cons (pe_bltn hgT hmT hv rfl hn hd) pa_nil he2) (by rw [he, he2])
  refine PE.imp (pe_callB (call_isi hT) hg hm (by decide +kernel) hA (by decide) (by decide) (by rw [he, he2]) (by rw [he2]; rfl)) fun σ H Q ⟨ρ, γ, h, rel, fin⟩ => ⟨ρ, γ, h, rel, (Fin.bind fin).mono fun x ρ1 h1 H1 p1 e1 r1 f1 v rv => ?_⟩
  have f2 := Fin.bind f1
  cases e : tyD x h1 with
  | bad => rw [e] at f2; exact f2.elim
  | err z hz => exact (tyD_no e).elim
  | ok t h2 =>
    obtain ⟨rfl, ty⟩ := tyD_rel r1 rv e
    rw [e] at f2
    have f3 := f2 ρ1 H1 (Pre.refl _) (Ext.refl _ _) r1
    exact ⟨v, t, rfl, ty, FE.here f3 r1 (by simp [RD])⟩
/-! ### all, any of a list of bools -/
def blsD : List D → Option (List Bool)
  | [] => some []
  | .bl b :: r => (blsD r).map (b :: ·)
  | _ :: _ => none
def fAll (any : Bool) : List D → M D
  | [.ref n] => do
    let xs ← getL n
    match blsD xs with
    | some bs => pure (.bl (if any then bs.any id else bs.all id))
    | none => bad
  | _ => bad
theorem bls_rel {K : PySem.W.Frag} {ρ : List Addr} {H : Hp} : ∀ {xs : List D} {bs : List Bool} {vs : List V}, blsD xs = some bs → RDs K ρ H xs vs → vs = bs.map V.bl
  | [], bs, vs, e, r => by simp only [RDs] at r; cases e; subst r; rfl
  | x :: xs, bs, vs, e, r => by
    simp only [RDs] at r
    obtain ⟨v, r2, rfl, h1, h2⟩ := r
    cases x <;> first | (simp only [blsD] at e; cases e; done) | skip
    rename_i b
    simp only [blsD] at e
    obtain ⟨bs', e1, rfl⟩ := Option.map_eq_some_iff.mp e
    simp only [RD] at h1
    subst h1
    rw [bls_rel e1 h2]; rfl
theorem vals_bls : ∀ {bs : List Bool} {us : List Value}, Vals (bs.map V.bl) us → us = bs.map Value.bool
  | [], us, h => by cases h; rfl
  | b :: bs, us, h => by
    cases h with
    | cons h1 h2 => cases h1; rw [vals_bls h2]; rfl
theorem range_all {bs : List Bool} : ((List.range bs.length).all fun i => bs.getD i false) = bs.all id := by
  rw [Bool.eq_iff_iff, List.all_eq_true, List.all_eq_true]
  constructor
  · intro h x hx
    obtain ⟨i, hi, rfl⟩ := List.getElem_of_mem hx
    have := h i (List.mem_range.mpr hi)
    simpa [List.getD, hi] using this
  · intro h i hi
    have hi' := List.mem_range.mp hi
    have := h bs[i] (List.getElem_mem hi')
    simpa [List.getD, hi'] using this
theorem range_any {bs : List Bool} : ((List.range bs.length).any fun i => bs.getD i false) = bs.any id := by
  rw [Bool.eq_iff_iff, List.any_eq_true, List.any_eq_true]
  constructor
  · rintro ⟨i, hi, h⟩
    have hi' := List.mem_range.mp hi
    refine ⟨bs[i], List.getElem_mem hi', ?_⟩
    simpa [List.getD, hi'] using h
  · rintro ⟨x, hx, h⟩
    obtain ⟨i, hi, rfl⟩ := List.getElem_of_mem hx
    exact ⟨i, List.mem_range.mpr hi, by simpa [List.getD, hi] using h⟩
theorem call_allany (any : Bool) (hc : X.calm = true) : CallR X (.builtin (if any then "any" else "all")) (fun xs H Q => ∃ (q : Addr) (bs : List Bool), xs = [.ref q] ∧ SqL X.K H q (bs.map V.bl) ∧ Q (.bl (if any then bs.any id else bs.all id)) H) := by
  intro pins s σ H xs us Q I r h
  obtain ⟨q, bs, rfl, hq, hQ⟩ := h
  obtain ⟨u, rfl, ru⟩ := vals1 r
  cases ru
  obtain ⟨its, rv, pl, hz⟩ := I.list hq
  have ei := vals_bls rv
  have ne : q ≠ s.heap.objs.size := Nat.ne_of_lt (by obtain ⟨o, n, e, _⟩ := pl; exact Heap.lt_size e)
  have pl' := pl.isList
  have hwalk := Walks.list (prog := X.prog) (w := X.w) (A := X.A.in1) (show X.A.in1.handled = none from I.ok.hd hc) s.heap.objs.size q ne its.toArray
  have len : its.toArray.size = bs.length := by rw [ei]; simp
  have st0 : (s.heap.push { cls := .type "list_iterator", data := .fields #[.ref q, .int 0 0] }).IsListIter s.heap.objs.size q 0 ∧ (s.heap.push { cls := .type "list_iterator", data := .fields #[.ref q, .int 0 0] }).IsList q its.toArray :=
    ⟨⟨_, Heap.get?_push_size _ rfl, rfl, rfl⟩, pl'.at fun o e => Heap.get?_push_of_some _ e⟩
  have tr : TruthOf X.prog X.w X.A.in1 (fun i v => its.toArray[i]? = some v) fun i => bs.getD i false := fun i v s' Q' E' hv hq' => by
    have hv' : its[i]? = some v := by simpa using hv
    rw [ei, List.getElem?_map] at hv'
    cases eb : bs[i]? with
    | none => rw [eb] at hv'; cases hv'
    | some b =>
      rw [eb] at hv'
      cases hv'
      have : bs.getD i false = b := by simp [List.getD, eb]
      dsimp only at hq'; rw [this] at hq'
      exact wpAny_truthy_bool hq'
  have fin : ∀ k, k = (if any then bs.any id else bs.all id) → ∀ h' tk, (∀ b o, b ∉ [s.heap.objs.size] → (s.heap.push { cls := .type "list_iterator", data := .fields #[.ref q, .int 0 0] }).get? b = some o → h'.get? b = some o) →
      EP X pins σ Q (.bool k) { s with heap := h', toks := tk } := fun k ek h' tk hk => by
    subst ek
    refine ⟨.bl _, H, I.kept fun b o e => hk b o ?_ (Heap.get?_push_of_some _ e), rfl, hQ⟩
    intro z
    have : b = s.heap.objs.size := by simpa using z
    exact absurd (Heap.lt_size e) (by rw [this]; exact Nat.lt_irrefl _)
  cases any with
  | false =>
    refine call_all_walk (wpAny_pyIter_list pl' ⟨_, _, _, _, _, _, _, rfl, hwalk, st0, tr, fun h' tk hk => ?_⟩)
    exact fin _ (by rw [len]; exact range_all) h' tk hk
  | true =>
    refine call_any_walk (wpAny_pyIter_list pl' ⟨_, _, _, _, _, _, _, rfl, hwalk, st0, tr, fun h' tk hk => ?_⟩)
    exact fin _ (by rw [len]; exact range_any) h' tk hk
theorem ar_all {any : Bool} : AR X.K EX (fun xs H Q => ∃ (q : Addr) (bs : List Bool), xs = [.ref q] ∧ SqL X.K H q (bs.map V.bl) ∧ Q (.bl (if any then bs.any id else bs.all id)) H) (fAll any) := by
  intro ρ h H ds vs Q r rd fin
  unfold fAll at fin
  split at fin
  · rename_i n
    obtain ⟨v, rfl, rv⟩ := rds1 rd
    have f1 := Fin.bind fin
    cases e : getL n h with
    | bad => rw [e] at f1; exact f1.elim
    | err z hz => exact (getL_no e).elim
    | ok xs h1 =>
      obtain ⟨rfl, q1⟩ := getL_ok e
      rw [e] at f1
      have f2 := f1 ρ H (Pre.refl _) (Ext.refl _ _) r
      dsimp only at f2
      cases eb : blsD xs with
      | none => rw [eb] at f2; exact f2.elim
      | some bs =>
        rw [eb] at f2
        simp only [RD] at rv; obtain ⟨q, rfl, h2⟩ := rv
        obtain ⟨a1, n1, vs, o1, d1⟩ := r.at q1
        rw [h2] at n1; cases n1
        have ev := bls_rel eb d1
        subst ev
        exact ⟨q, bs, rfl, SqL.of o1, FE.here f2 r (by simp [RD])⟩
  · exact fin.elim
theorem se_all (hc : X.calm = true) (hg : Gl X "all") (hm : X.mg "all" = none) (ha : SA X EX [a] mr) (he : starEach [a] X.env = [(false, eval a X.env)] := by rfl) : SE X EX (.Call (.Name "all" p) [a] [] pos) (eCall (fAll false) mr) :=
  se_args (pe_callB (call_allany false hc) hg hm (by decide +kernel) ha.h (by decide) (by decide) he rfl) ar_all
end
end FT
set_option Elab.async false
set_option linter.all false
set_option maxRecDepth 100000
namespace FT
open PySem PySem.Spec PyProof.Rows L2
abbrev EX0 : XX := fun _ _ _ _ => False
/-! ### own functions -/
def spB (K : PySem.W.Frag) (mf : List D → M D) (n : Nat) : Sp := fun vs H Q _ => vs.length = n ∧ ∃ ρ ds h, RH K ρ h H ∧ RDs K ρ H ds vs ∧ FE K EX0 ρ H Q (mf ds h)
structure Fn (P : Program) (w : World) (K : PySem.W.Frag) (mg : Str → Option Value) (base : Heap) (k : Nat) (x : Str) (n : Nat) (mf : List D → M D) : Prop where
  ex : ∃ f fd ps, FnOk P w K mg base CX0 k f fd ps (spB K mf n) ∧ Binds K fd ps [] ∧ PySem.W.keepIn K (.ref f) = true ∧ mg x = some (.ref f)
theorem Fn.up {P : Program} {w : World} {K : PySem.W.Frag} {mg : Str → Option Value} {base : Heap} {j k : Nat} {x : Str} {n : Nat} {mf : List D → M D} (F : Fn P w K mg base j x n mf) (h : j ≤ k) : Fn P w K mg base k x n mf := by
  obtain ⟨f, fd, ps, h1, h2, h3, h4⟩ := F.ex
  exact ⟨f, fd, ps, h1.mono h, h2, h3, h4⟩
def eFn (n : Nat) (mf : List D → M D) (mr : G → M (List D)) : G → M D := fun γ => do
  let xs ← mr γ
  if xs.length = n then mf xs else bad
section
variable {X : Cx} {a b c e : Expr} {pos p p2 : Pos} {ma mb mc : G → M D} {es : List Expr} {mr : G → M (List D)} {k n : Nat} {x : Str} {mf : List D → M D}
theorem se_call (F : Fn X.prog X.w X.K X.mg X.base k x n mf) (hr : Room k X.A) (hg : Gl X x) (ha : SA X EX0 (a :: es) mr) (hdb : (x == ("__debug__" : Str)) = false := by decide)
    (he : starEach (a :: es) X.env = (false, eval a X.env) :: starEach es X.env := by rfl) (hpl : (backTo pos (starEach es X.env)).any (·.1) = false := by rfl) : SE X EX0 (.Call (.Name x p) (a :: es) [] pos) (eFn n mf mr) := by
  constructor
  obtain ⟨f, fd, ps, h1, h2, h3, h4⟩ := F.ex
  refine PE.imp (pe_call h1 hr hg h4 h3 h2 .nil pass0 ha.h hdb he hpl) fun σ H Q ⟨ρ, γ, h, rel, fin⟩ => ⟨ρ, γ, h, rel, (Fin.bind fin).mono fun xs ρ1 h1 H1 p1 e1 r1 f1 vs rvs => ?_⟩
  show spB X.K mf n (vs ++ []) H1 Q E0
  rw [List.append_nil]
  by_cases hl : xs.length = n
  · rw [if_pos hl] at f1
    exact ⟨by rw [← rvs.length]; exact hl, ρ1, xs, h1, r1, rvs, f1⟩
  · rw [if_neg hl] at f1; exact (show False from f1).elim
end
/-- a def as a function on data -/
def startG (n : Nat) (ds : List D) : G := ds.map some ++ List.replicate (n - ds.length) none
def runF (n : Nat) (mb : G → M Out) (ds : List D) : M D := do
  let o ← mb (startG n ds)
  match o with
  | .nx _ => pure .non
  | .rt d => pure d
  | _ => bad
section
variable {P : Program} {w : World} {K : PySem.W.Frag} {mg : Str → Option Value} {base : Heap}
theorem start_rel {ρ : List Addr} {H : Hp} {N : List Str} {ds : List D} {vs : List V} (h : RDs K ρ H ds vs) : RG K ρ H (startG N.length ds) (L2.start N vs) := by
  have hl := h.length
  refine ⟨by unfold startG L2.start; simp [hl], fun i d e => ?_⟩
  unfold startG at e
  unfold L2.start
  rw [List.getElem?_append] at e ⊢
  rw [List.length_map] at e ⊢
  rw [← hl]
  split at e
  · rename_i hi
    rw [if_pos hi]
    rw [List.getElem?_map] at e ⊢
    cases q : ds[i]? with
    | none => rw [q] at e; cases e
    | some d' =>
      rw [q] at e
      cases e
      obtain ⟨v, h1, h2⟩ := h.get q
      exact ⟨v, by rw [h1]; rfl, h2⟩
  · rw [List.getElem?_replicate] at e
    split at e <;> cases e
end
/-! values that are stored as they come -/
section
variable {env : Env} {t : Option Expr} {l : Nat} {tg : List Expr}
theorem sw_List {a p} : swapsWith (.List a p) t l env = pure false := rfl
theorem sw_Tuple {a b p} : swapsWith (.Tuple a b p) t l env = pure false := rfl
theorem sw_Constant {c k p} : swapsWith (.Constant c k p) t l env = pure false := rfl
theorem sw_Name {c p} : swapsWith (.Name c p) t l env = pure false := rfl
theorem sw_Call {a b c p} : swapsWith (.Call a b c p) t l env = pure false := rfl
theorem sw_BinOp {a b c p} : swapsWith (.BinOp a b c p) t l env = pure false := rfl
theorem sw_Compare {a b c p} : swapsWith (.Compare a b c p) t l env = pure false := rfl
theorem sw_Subscript {a b p} : swapsWith (.Subscript a b p) t l env = pure false := rfl
theorem sw_UnaryOp {a b p} : swapsWith (.UnaryOp a b p) t l env = pure false := rfl
theorem sw_BoolOp {a b p} : swapsWith (.BoolOp a b p) t l env = pure false := rfl
theorem sw_IfExp {a b c p} : swapsWith (.IfExp a b c p) t l env = pure false := rfl
end
/-! ### statements -/
section
variable {X : Cx} {EX : XX} {a b c e : Expr} {pos p p2 : Pos} {ma mb mc : G → M D} {ka kb kc : G → M Bool} {st : Stmt} {sts : List Stmt} {ms mt : G → M Out}
def bNil : G → M Out := fun γ => pure (.nx γ)
def bCons (ms mt : G → M Out) : G → M Out := fun γ => do
  let o ← ms γ
  match o with
  | .nx γ' => mt γ'
  | o => pure o
theorem sb_nil : SB X EX [] bNil := ⟨PSs.imp pss_nil fun σ H D ⟨ρ, γ, h, rel, fin⟩ => fin ρ H (Pre.refl _) (Ext.refl _ _) rel.h σ rel.g⟩
theorem sb_cons (h1 : S1 X EX st ms) (h2 : SB X EX sts mt) : SB X EX (st :: sts) (bCons ms mt) :=
  ⟨PSs.imp (pss_cons h1.h h2.h) fun σ H D ⟨ρ, γ, h, rel, fin⟩ => ⟨ρ, γ, h, rel, (Fin.bind fin).mono fun o ρ1 h1 H1 p1 e1 r1 f1 => by
    cases o with
    | nx γ' => exact fun σ' rg => ⟨ρ1, γ', h1, ⟨rg, r1⟩, f1⟩
    | rt d => exact f1 ρ1 H1 (Pre.refl _) (Ext.refl _ _) r1
    | bk γ' => exact f1 ρ1 H1 (Pre.refl _) (Ext.refl _ _) r1
    | ct γ' => exact f1 ρ1 H1 (Pre.refl _) (Ext.refl _ _) r1⟩⟩
theorem s_never : S1 X EX st (fun _ => bad) := ⟨PS.imp ps_never fun σ H D ⟨ρ, γ, h, rel, fin⟩ => (show False from fin)⟩
def sRet (ma : G → M D) : G → M Out := fun γ => do
  let d ← ma γ
  pure (.rt d)
theorem s_ret (ha : SE X EX a ma) : S1 X EX (.Return (some a) pos) (sRet ma) :=
  ⟨PS.imp (ps_ret ha.h) fun σ H D ⟨ρ, γ, h, rel, fin⟩ => ⟨ρ, γ, h, rel, (Fin.bind fin).mono fun d ρ1 h1 H1 p1 e1 r1 f1 v rv => f1 ρ1 H1 (Pre.refl _) (Ext.refl _ _) r1 v rv⟩⟩
def sExpr (ma : G → M D) : G → M Out := fun γ => do
  let _ ← ma γ
  pure (.nx γ)
theorem s_expr (ha : SE X EX a ma) (hs : swapsWith a none pos.line X.env = pure false := by first | exact sw_List | exact sw_Tuple | exact sw_Constant | exact sw_Name | exact sw_Call | exact sw_BinOp | exact sw_Compare | exact sw_Subscript | exact sw_UnaryOp | exact sw_BoolOp | exact sw_IfExp | rfl) : S1 X EX (.Expr a pos) (sExpr ma) :=
  ⟨PS.imp (ps_expr ha.h hs) fun σ H D ⟨ρ, γ, h, rel, fin⟩ => ⟨ρ, γ, h, rel, (Fin.bind fin).mono fun d ρ1 h1 H1 p1 e1 r1 f1 v rv => f1 ρ1 H1 (Pre.refl _) (Ext.refl _ _) r1 σ (rel.g.mono p1 e1)⟩⟩
def sIf (k : G → M Bool) (ms mt : G → M Out) : G → M Out := fun γ => do
  let t ← k γ
  if t then ms γ else mt γ
theorem s_if {sts' : List Stmt} (hc : SC X EX c kc) (h1 : SB X EX sts ms) (h2 : SB X EX sts' mt) : S1 X EX (.If c sts sts' pos) (sIf kc ms mt) :=
  ⟨PS.imp (ps_if hc.h h1.h h2.h) fun σ H D ⟨ρ, γ, h, rel, fin⟩ => ⟨ρ, γ, h, rel, (Fin.bind fin).mono fun t ρ1 h1 H1 p1 e1 r1 f1 => by
    cases t with
    | true => exact ⟨ρ1, γ, h1, ⟨rel.g.mono p1 e1, r1⟩, f1⟩
    | false => exact ⟨ρ1, γ, h1, ⟨rel.g.mono p1 e1, r1⟩, f1⟩⟩⟩
/-- targets -/
def tG (K : PySem.W.Frag) (EX : XX) (m : D → G → M G) : TG := fun v σ H Q => ∃ ρ γ h d, Rel K ρ γ h σ H ∧ RD K ρ H d v ∧ Fin K EX ρ H (fun γ' ρ' _ H' => ∀ σ', RG K ρ' H' γ' σ' → Q σ' H') (m d γ h)
def tGs (K : PySem.W.Frag) (EX : XX) (m : List D → G → M G) : TGs := fun vs σ H Q => ∃ ρ γ h ds, Rel K ρ γ h σ H ∧ RDs K ρ H ds vs ∧ Fin K EX ρ H (fun γ' ρ' _ H' => ∀ σ', RG K ρ' H' γ' σ' → Q σ' H') (m ds γ h)
structure SG (X : Cx) (EX : XX) (tg : Expr) (m : D → G → M G) : Prop where
  h : PG X tg (tG X.K EX m)
structure SGs (X : Cx) (EX : XX) (tg : List Expr) (m : List D → G → M G) : Prop where
  h : PGs X tg (tGs X.K EX m)
theorem PG.imp {X : Cx} {e : Expr} {t t' : TG} (h : PG X e t) (f : ∀ v σ H Q, t' v σ H Q → t v σ H Q) : PG X e t' := fun pins s σ H v u Q I r z => h pins s σ H v u Q I r (f v σ H Q z)
theorem PGs.imp {X : Cx} {e : List Expr} {t t' : TGs} (h : PGs X e t) (f : ∀ v σ H Q, t' v σ H Q → t v σ H Q) : PGs X e t' := fun pins s σ H v u Q I r z => h pins s σ H v u Q I r (f v σ H Q z)
/-- .. with the slots that are written -/
def tGk (K : PySem.W.Frag) (EX : XX) (own : List Nat) (m : D → G → M G) : TG := fun v σ H Q => ∃ ρ γ h d, Rel K ρ γ h σ H ∧ RD K ρ H d v ∧ Fin K EX ρ H (fun γ' ρ' _ H' => ∀ σ', RG K ρ' H' γ' σ' → (∀ j : Nat, j ∉ own → σ'[j]? = σ[j]?) → Q σ' H') (m d γ h)
def tGks (K : PySem.W.Frag) (EX : XX) (own : List Nat) (m : List D → G → M G) : TGs := fun vs σ H Q => ∃ ρ γ h ds, Rel K ρ γ h σ H ∧ RDs K ρ H ds vs ∧ Fin K EX ρ H (fun γ' ρ' _ H' => ∀ σ', RG K ρ' H' γ' σ' → (∀ j : Nat, j ∉ own → σ'[j]? = σ[j]?) → Q σ' H') (m ds γ h)
structure SGk (X : Cx) (EX : XX) (tg : Expr) (own : List Nat) (m : D → G → M G) : Prop where
  h : PG X tg (tGk X.K EX own m)
structure SGks (X : Cx) (EX : XX) (tg : List Expr) (own : List Nat) (m : List D → G → M G) : Prop where
  h : PGs X tg (tGks X.K EX own m)
def gN (i : Nat) : D → G → M G := fun d γ => pure (γ.set i (some d))
theorem sg_name (i : Nat) {x : Str} (hN : X.N.Nodup) (hi : X.N[i]? = some x := by rfl) (hx : Loc X.env.scope x := by first | exact Or.inl rfl | exact Or.inr rfl) (hf : X.fn x = true ∨ X.env.scope.names.lookup x = some .local := by first | exact .inl rfl | exact .inr rfl | assumption) : SG X EX (.Name x pos) (gN i) :=
  ⟨PG.imp (pg_name hN hi hx hf) fun v σ H Q ⟨ρ, γ, h, d, rel, rd, fin⟩ => fin ρ H (Pre.refl _) (Ext.refl _ _) rel.h _ (rel.g.set i rd)⟩
theorem sgk_name (i : Nat) {x : Str} (hN : X.N.Nodup) (hi : X.N[i]? = some x := by rfl) (hx : Loc X.env.scope x := by first | exact Or.inl rfl | exact Or.inr rfl) (hf : X.fn x = true ∨ X.env.scope.names.lookup x = some .local := by first | exact .inl rfl | exact .inr rfl | assumption) : SGk X EX (.Name x pos) [i] (gN i) :=
  ⟨PG.imp (pg_name hN hi hx hf) fun v σ H Q ⟨ρ, γ, h, d, rel, rd, fin⟩ => fin ρ H (Pre.refl _) (Ext.refl _ _) rel.h _ (rel.g.set i rd) fun j hj => List.getElem?_set_ne (fun z => hj (by simp [z]))⟩
def gNils : List D → G → M G := fun ds γ => match ds with
  | [] => pure γ
  | _ => bad
def gConss (m : D → G → M G) (ms : List D → G → M G) : List D → G → M G := fun ds γ => match ds with
  | [] => bad
  | d :: r => do
    let γ1 ← m d γ
    ms r γ1
theorem sgs_nil : SGs X EX [] gNils := ⟨PGs.imp pgs_nil fun v σ H Q ⟨ρ, γ, h, ds, rel, rd, fin⟩ => by
  cases ds with
  | nil => simp only [RDs] at rd; exact ⟨rd, fin ρ H (Pre.refl _) (Ext.refl _ _) rel.h σ rel.g⟩
  | cons d r => exact (show False from fin).elim⟩
theorem sgs_cons {es : List Expr} {m : D → G → M G} {mr : List D → G → M G} (h1 : SG X EX e m) (h2 : SGs X EX es mr) (hs : (assignEach (e :: es) X.env).map (·.2) = assign e X.env :: (assignEach es X.env).map (·.2) := by rfl) : SGs X EX (e :: es) (gConss m mr) :=
  ⟨PGs.imp (pgs_cons h1.h h2.h hs) fun vs σ H Q ⟨ρ, γ, h, ds, rel, rd, fin⟩ => by
    cases ds with
    | nil => exact (show False from fin).elim
    | cons d r =>
      simp only [RDs] at rd
      obtain ⟨v, vr, rfl, h3, h4⟩ := rd
      have fin' : Fin X.K EX ρ H (fun γ' ρ' _ H' => ∀ σ', RG X.K ρ' H' γ' σ' → Q σ' H') ((m d γ >>= fun γ1 => mr r γ1) h) := fin
      exact ⟨v, vr, rfl, ρ, γ, h, d, rel, h3, (Fin.bind fin').mono fun γ1 ρ1 h1 H1 p1 e1 r1 f1 σ1 g1 => ⟨ρ1, γ1, h1, r, ⟨g1, r1⟩, h4.mono p1 e1, f1⟩⟩⟩
def gT (n : Nat) (m : List D → G → M G) : D → G → M G := fun d γ => match d with
  | .tup xs => if xs.length = n then m xs γ else bad
  | _ => bad
theorem sg_tup {es : List Expr} {k n : Nat} {m : List D → G → M G} (hc : X.calm = true) (h : SGs X EX es m) (hn : (assignEach es X.env).length = n := by rfl) (hst : (assignEach es X.env).findIdx? (·.1) = none := by rfl) : SG X EX (.Tuple es k pos) (gT n m) :=
  ⟨PG.imp (pg_tup hc h.h hn hst) fun v σ H Q ⟨ρ, γ, h, d, rel, rd, fin⟩ => by
    cases d <;> first | exact (show False from fin).elim | skip
    rename_i xs
    simp only [RD] at rd
    obtain ⟨q, vs, rfl, h1, h2⟩ := rd
    have fin' : Fin X.K EX ρ H (fun γ' ρ' _ H' => ∀ σ', RG X.K ρ' H' γ' σ' → Q σ' H') ((if xs.length = n then m xs γ else bad) h) := fin
    by_cases hl : xs.length = n
    · rw [if_pos hl] at fin'
      exact ⟨q, vs, rfl, h1, by rw [← h2.length]; exact hl, ρ, γ, h, xs, rel, h2, fin'⟩
    · rw [if_neg hl] at fin'; exact (show False from fin').elim⟩
/-- o[i] = .. of a list -/
def fSet : D → D → D → M Unit := fun o i v => match o, i with
  | .ref n, .int k => fun h => match h[n]? with
    | some (.lst xs) => (match ixN xs.length k with
      | some j => .ok () (h.set n (.lst (xs.set j v)))
      | none => .bad)
    | _ => .bad
  | _, _ => bad
def gIx (mo mi : G → M D) : D → G → M G := fun v γ => do
  let o ← mo γ
  let i ← mi γ
  let _ ← fSet o i v
  pure γ
theorem sg_ix {o i : Expr} {mo mi : G → M D} (ho : SE X EX o mo) (hi : SE X EX i mi)
    (ha : ∀ v, assign (.Subscript o i pos) X.env v = (do
      let ov ← holding [v] (eval o X.env)
      let iv ← holding [v, ov] (eval i X.env)
      standAt pos
      holding [v, ov, iv] (setItem ov iv v)
      release [v, ov, iv] []) := by intro _; rfl) : SG X EX (.Subscript o i pos) (gIx mo mi) :=
  ⟨PG.imp (pg_sub ho.h hi.h set_list ha) fun v σ H Q ⟨ρ, γ, h, d, rel, rd, fin⟩ => ⟨ρ, γ, h, rel, (Fin.bind fin).mono fun od ρ1 h1 H1 p1 e1 r1 f1 ov ro => ⟨ρ1, γ, h1, ⟨rel.g.mono p1 e1, r1⟩, (Fin.bind f1).mono fun id ρ2 h2 H2 p2 e2 r2 f2 iv ri => by
    have f3 := Fin.bind f2
    cases od <;> first | exact (show False from f3).elim | skip
    rename_i n
    cases id <;> first | exact (show False from f3).elim | skip
    rename_i k
    simp only [RD] at ro ri
    obtain ⟨q, rfl, hq⟩ := ro
    subst ri
    have hq2 := p2 n q hq
    unfold fSet at f3
    dsimp only at f3
    cases e4 : h2[n]? with
    | none => rw [e4] at f3; exact (show False from f3).elim
    | some ob =>
      cases ob with
      | set ks => rw [e4] at f3; exact (show False from f3).elim
      | lst xs =>
        rw [e4] at f3
        dsimp only at f3
        cases e5 : ixN xs.length k with
        | none => rw [e5] at f3; exact (show False from f3).elim
        | some j =>
          rw [e5] at f3
          obtain ⟨a1, n1, vs, o1, d1⟩ := r2.at e4
          rw [hq2] at n1; cases n1
          have rd2 := (rd.mono p1 e1).mono p2 e2
          have dd := d1.set j rd2
          refine ⟨q, vs, k, j, rfl, rfl, o1, by rw [← d1.length]; exact e5, ?_⟩
          have ext : Ext X.K H2 (upd H2 q (.lst (vs.set j v))) := Ext.upd (.inr ⟨_, o1, trivial⟩)
          have f4 := f3 ρ2 _ (Pre.refl _) ext (r2.set e4 hq2 dd)
          exact f4 ρ2 _ (Pre.refl _) (Ext.refl _ _) (r2.set e4 hq2 dd) σ (((rel.g.mono p1 e1).mono p2 e2).mono (Pre.refl _) ext)⟩⟩⟩
def sAsg (ma : G → M D) (g : D → G → M G) : G → M Out := fun γ => do
  let d ← ma γ
  let γ1 ← g d γ
  pure (.nx γ1)
theorem s_asg {tg : Expr} {g : D → G → M G} (ha : SE X EX a ma) (hg : SG X EX tg g) (hs : swapsWithSole [tg] a pos.line X.env = pure false := by rfl) (hw : swappedStores [tg] a X.env = pure none := by rfl)
    (h1 : (assignEach [tg] X.env).map (·.2) = [assign tg X.env] := by rfl) : S1 X EX (.Assign [tg] a pos) (sAsg ma g) :=
  ⟨PS.imp (ps_asg ha.h hg.h hs hw h1) fun σ H D ⟨ρ, γ, h, rel, fin⟩ => ⟨ρ, γ, h, rel, (Fin.bind fin).mono fun d ρ1 h1 H1 p1 e1 r1 f1 v rv => ⟨ρ1, γ, h1, d, ⟨rel.g.mono p1 e1, r1⟩, rv, (Fin.bind f1).mono fun γ1 ρ2 h2 H2 p2 e2 r2 f2 σ2 g2 =>
    f2 ρ2 H2 (Pre.refl _) (Ext.refl _ _) r2 σ2 g2⟩⟩⟩
theorem s_set (i : Nat) {x : Str} (hN : X.N.Nodup) (ha : SE X EX a ma) (hi : X.N[i]? = some x := by rfl) (hx : Loc X.env.scope x := by first | exact Or.inl rfl | exact Or.inr rfl) (hs : swapsWith a (some (.Name x p)) pos.line X.env = pure false := by first | exact sw_List | exact sw_Tuple | exact sw_Constant | exact sw_Name | exact sw_Call | exact sw_BinOp | exact sw_Compare | exact sw_Subscript | exact sw_UnaryOp | exact sw_BoolOp | exact sw_IfExp | rfl)
    (hf : X.fn x = true ∨ X.env.scope.names.lookup x = some .local := by first | exact .inl rfl | exact .inr rfl | assumption) : S1 X EX (.Assign [.Name x p] a pos) (sAsg ma (gN i)) :=
  ⟨PS.imp (ps_set hN hi hx ha.h hs hf) fun σ H D ⟨ρ, γ, h, rel, fin⟩ => ⟨ρ, γ, h, rel, (Fin.bind fin).mono fun d ρ1 h1 H1 p1 e1 r1 f1 v rv => f1 ρ1 H1 (Pre.refl _) (Ext.refl _ _) r1 _ ((rel.g.mono p1 e1).set i rv)⟩⟩
end
end FT
set_option Elab.async false
set_option linter.all false
set_option maxRecDepth 100000
namespace FT
open PySem PySem.Spec PyProof.Rows L2
/-! ### methods of lists -/
section
variable {X : Cx} {EX : XX} {a o e : Expr} {pos cpos apos : Pos} {ma mo : G → M D}
def updL (n : Nat) (f : List D → Option (D × List D)) : M D := fun h => match h[n]? with
  | some (.lst xs) => (match f xs with
    | some (d, ys) => if ys.length ≤ sizeLine then .ok d (h.set n (.lst ys)) else .bad
    | none => .bad)
  | _ => .bad
def asRef : D → M Nat
  | .ref n => fun h => match h[n]? with
    | some (.lst _) => .ok n h
    | _ => .bad
  | _ => bad
def fAppend (n : Nat) (v : D) : M D := updL n fun xs => some (.non, xs ++ [v])
def fPopAt (n : Nat) (i : D) : M D := match i with
  | .int k => updL n fun xs => if -(2 ^ 63) ≤ k ∧ k < 2 ^ 63 then (match seqIndex? k xs.length with
    | some j => (xs[j]?).map fun d => (d, xs.eraseIdx j)
    | none => none) else none
  | _ => bad
def eM1 (f : Nat → D → M D) (mo ma : G → M D) : G → M D := fun γ => do
  let o ← mo γ
  let n ← asRef o
  let v ← ma γ
  f n v
def eM0 (f : Nat → M D) (mo : G → M D) : G → M D := fun γ => do
  let o ← mo γ
  let n ← asRef o
  f n
theorem updL_rel {K : PySem.W.Frag} {ρ : List Addr} {h : AH} {H : Hp} {Q : VK} {n : Nat} {q : Addr} {f : List D → Option (D × List D)} (r : RH K ρ h H) (hq : ρ[n]? = some q) (fin : FE K EX ρ H Q (updL n f h)) :
    ∃ xs d ys vs, f xs = some (d, ys) ∧ ys.length ≤ sizeLine ∧ H q = some (.lst vs) ∧ RDs K ρ H xs vs ∧ ∀ v ws, RD K ρ H d v → RDs K ρ H ys ws → Q v (upd H q (.lst ws)) := by
  unfold updL at fin
  cases e : h[n]? with
  | none => rw [e] at fin; exact fin.elim
  | some ob =>
    cases ob with
    | set ks => rw [e] at fin; exact fin.elim
    | lst xs =>
      rw [e] at fin
      dsimp only at fin
      cases e2 : f xs with
      | none => rw [e2] at fin; exact fin.elim
      | some dy =>
        obtain ⟨d, ys⟩ := dy
        rw [e2] at fin
        dsimp only at fin
        split at fin
        · rename_i hl
          obtain ⟨a1, n1, vs, o1, d1⟩ := r.at e
          rw [hq] at n1; cases n1
          refine ⟨xs, d, ys, vs, e2, hl, o1, d1, fun v ws rv rw' => ?_⟩
          have ext : Ext K H (upd H q (.lst ws)) := Ext.upd (.inr ⟨_, o1, trivial⟩)
          exact fin ρ _ (Pre.refl _) ext (r.set e hq rw') v (rv.mono (Pre.refl _) ext)
        · exact fin.elim
theorem list_ty {K : PySem.W.Frag} {ρ : List Addr} {h : AH} {H : Hp} {n : Nat} {q : Addr} {Z : Nat → List Addr → AH → Hp → Prop} (r : RH K ρ h H) (hq : ρ[n]? = some q) (f : Fin K EX ρ H Z (asRef (.ref n) h)) : tyV K "list" (.ref q) H ∧ Z n ρ h H := by
  unfold asRef at f
  dsimp only at f
  cases e : h[n]? with
  | none => rw [e] at f; exact f.elim
  | some ob =>
    cases ob with
    | set ks => rw [e] at f; exact f.elim
    | lst xs =>
      rw [e] at f
      obtain ⟨a1, n1, vs, o1, d1⟩ := r.at e
      rw [hq] at n1; cases n1
      exact ⟨.inl ⟨rfl, vs, SqL.of o1⟩, f ρ H (Pre.refl _) (Ext.refl _ _) r⟩
theorem meth1 {f : Nat → D → M D} {r : V → List V → Hp → VK → Prop} (hr : ∀ ρ h H n q y u Q, RH X.K ρ h H → ρ[n]? = some q → RD X.K ρ H y u → FE X.K EX ρ H Q (f n y h) → r (.ref q) [u] H Q) :
    ∀ σ H Q, tE X.K EX (eM1 f mo ma) σ H Q → tBM X.K "list" r (tE X.K EX mo) (tCons (tE X.K EX ma) tNil) σ H Q := fun σ H Q ⟨ρ, γ, h, rel, fin⟩ => ⟨ρ, γ, h, rel, (Fin.bind fin).mono fun x ρ1 h1 H1 p1 e1 r1 f1 v rv => by
    have f2 := Fin.bind f1
    cases x <;> first | exact (show False from f2).elim | skip
    rename_i n
    simp only [RD] at rv
    obtain ⟨q, rfl, hq⟩ := rv
    obtain ⟨lt, f3⟩ := list_ty r1 hq f2
    exact ⟨lt, ρ1, γ, h1, ⟨rel.g.mono p1 e1, r1⟩, (Fin.bind f3).mono fun y ρ2 h2 H2 p2 e2 r2 f4 u ru => hr ρ2 h2 H2 n q y u Q r2 (p2 n q hq) ru f4⟩⟩
theorem se_append (ho : SE X EX o mo) (ha : SE X EX a ma)
    (hbase : attributeBase o "append" X.env (eval o X.env) = eval o X.env := by rfl)
    (hfew : ((backTo cpos (starEach [a] X.env)).all (fun x => !x.1) && (backToKw cpos (keywordEach [] X.env)).all (fun x => x.1.isSome)
      && decide (([a] : List Expr).length + ([] : List Keyword).length + (if ([] : List Keyword).isEmpty then 0 else 1) < 30)) = true := by rfl)
    (hline : (apos.endLine == cpos.line) = true := by rfl) (hs : starEach [a] X.env = [(false, eval a X.env)] := by rfl) :
    SE X EX (.Call (.Attribute o "append" apos) [a] [] cpos) (eM1 fAppend mo ma) :=
  ⟨PE.imp (pe_bm PySem.F.plainAttrs_list PySem.F.slot_list_append PySem.F.type_list_append mt_append ho.h (pa_cons ha.h pa_nil hs) hbase hfew hline hs rfl) (meth1 fun ρ h H n q y u Q r hq ru fin => by
    obtain ⟨xs, d, ys, vs, g1, g2, g3, g4, g5⟩ := updL_rel r hq fin
    cases g1
    have hl := g4.length
    rw [List.length_append, List.length_singleton] at g2
    exact ⟨q, vs, u, rfl, rfl, g3, by omega, g5 _ _ (by simp [RD]) (g4.append (RDs.cons ru RDs.nil))⟩)⟩
theorem se_popAt (ho : SE X EX o mo) (ha : SE X EX a ma)
    (hbase : attributeBase o "pop" X.env (eval o X.env) = eval o X.env := by rfl)
    (hfew : ((backTo cpos (starEach [a] X.env)).all (fun x => !x.1) && (backToKw cpos (keywordEach [] X.env)).all (fun x => x.1.isSome)
      && decide (([a] : List Expr).length + ([] : List Keyword).length + (if ([] : List Keyword).isEmpty then 0 else 1) < 30)) = true := by rfl)
    (hline : (apos.endLine == cpos.line) = true := by rfl) (hs : starEach [a] X.env = [(false, eval a X.env)] := by rfl) :
    SE X EX (.Call (.Attribute o "pop" apos) [a] [] cpos) (eM1 fPopAt mo ma) :=
  ⟨PE.imp (pe_bm PySem.F.plainAttrs_list PySem.F.slot_list_pop PySem.F.type_list_pop mt_popAt ho.h (pa_cons ha.h pa_nil hs) hbase hfew hline hs rfl) (meth1 fun ρ h H n q y u Q r hq ru fin => by
    cases y <;> first | exact (show False from fin).elim | skip
    rename_i k
    simp only [RD] at ru
    subst ru
    obtain ⟨xs, d, ys, vs, g1, g2, g3, g4, g5⟩ := updL_rel r hq fin
    split at g1
    · rename_i hk
      cases e5 : seqIndex? k xs.length with
      | none => rw [e5] at g1; cases g1
      | some j =>
        rw [e5] at g1
        obtain ⟨d', e1, e2⟩ := Option.map_eq_some_iff.mp g1
        cases e2
        obtain ⟨v, e3, e4⟩ := g4.get e1
        exact ⟨q, vs, k, j, v, rfl, rfl, g3, hk.1, hk.2, by rw [← g4.length]; exact e5, e3, g5 _ _ e4 (g4.eraseIdx j)⟩
    · cases g1)⟩
end
/-! ### what a loop walks -/
inductive Src where
  | con (xs : List D)
  | lst (n : Nat) (xs : List D)
def Src.items : Src → List D
  | .con xs => xs
  | .lst _ xs => xs
def Src.good : Src → AH → Prop
  | .con _, _ => True
  | .lst n xs, h => h[n]? = some (.lst xs)
open Classical in
noncomputable def Src.chk (s : Src) : M Unit := fun h => if s.good h then .ok () h else .bad
/-- the iterator J walks the source's items -/
def JOK (K : PySem.W.Frag) (src : Src) (ρ : List Addr) (H : Hp) (J : It) : Prop := ∀ i ρ1 h1 H1, Pre ρ ρ1 → Ext K H H1 → RH K ρ1 h1 H1 → src.good h1 →
  (∀ d, src.items[i]? = some d → J.go i H1 ∧ ∀ x H2, J.yld i H1 x H2 → RD K ρ1 H2 d x ∧ RH K ρ1 h1 H2 ∧ Ext K H1 H2) ∧ (src.items.length = i → J.stop i H1)
def tI (K : PySem.W.Frag) (EX : XX) (m : G → M Src) : TI := fun σ H R => ∃ ρ γ h, Rel K ρ γ h σ H ∧ Fin K EX ρ H (fun src ρ' _ H' => ∀ J, JOK K src ρ' H' J → R J H') (m γ h)
structure SI (X : Cx) (EX : XX) (tg iter : Expr) (m : G → M Src) : Prop where
  h : PI X tg iter (tI X.K EX m)
theorem PI.imp {X : Cx} {tg e : Expr} {t t' : TI} (h : PI X tg e t) (f : ∀ σ H R, t' σ H R → t σ H R) : PI X tg e t' := fun pins s σ H R I z => h pins s σ H R I (f σ H R z)
section
variable {X : Cx} {EX : XX} {a o e tg : Expr} {pos cpos apos p : Pos} {ma mo : G → M D} {mr : G → M (List D)}
def iSeqL (ma : G → M D) : G → M Src := fun γ => do
  let x ← ma γ
  match x with
  | .fl xs => pure (.con xs)
  | .ref n => do
    let xs ← getL n
    pure (.lst n xs)
  | _ => bad
theorem si_list (ha : SE X EX a ma) : SI X EX tg a (iSeqL ma) :=
  ⟨PI.imp (pi_list ha.h) fun σ H R ⟨ρ, γ, h, rel, fin⟩ => ⟨ρ, γ, h, rel, (Fin.bind fin).mono fun x ρ1 h1 H1 p1 e1 r1 f1 v rv => by
    cases x <;> first | exact (show False from f1).elim | skip
    case fl xs =>
      simp only [RD] at rv
      obtain ⟨q, vs, rfl, h2, h3⟩ := rv
      refine ⟨q, rfl, ⟨vs, h2.sq⟩, f1 ρ1 H1 (Pre.refl _) (Ext.refl _ _) r1 _ fun i ρ2 h4 H2 p2 e2 r2 _ => ⟨fun d hd => ?_, fun hi => ?_⟩⟩
      · have h3' := h3.mono p2 e2
        obtain ⟨x, g1, g2⟩ := h3'.get hd
        refine ⟨⟨vs, x, (e2.l _ _ h2).sq, g1⟩, fun y H3 ⟨z1, z2⟩ => ?_⟩
        subst z1
        have := z2 vs (e2.l _ _ h2).sq
        rw [g1] at this; cases this
        exact ⟨g2, r2, Ext.refl _ _⟩
      · exact ⟨vs, (e2.l _ _ h2).sq, by rw [← h3.length]; exact Nat.le_of_eq hi⟩
    case ref n =>
      have f2 : Fin X.K EX ρ1 H1 (fun src ρ' _ H' => ∀ J, JOK X.K src ρ' H' J → R J H') ((getL n >>= fun xs => (pure (.lst n xs) : M Src)) h1) := f1
      have f3 := Fin.bind f2
      cases e3 : getL n h1 with
      | bad => rw [e3] at f3; exact f3.elim
      | err z hz => exact (getL_no e3).elim
      | ok xs h3 =>
        obtain ⟨rfl, q1⟩ := getL_ok e3
        rw [e3] at f3
        simp only [RD] at rv
        obtain ⟨q, rfl, hq⟩ := rv
        obtain ⟨a1, n1, vs, o1, d1⟩ := r1.at q1
        rw [hq] at n1; cases n1
        have f4 := f3 ρ1 H1 (Pre.refl _) (Ext.refl _ _) r1
        refine ⟨q, rfl, ⟨vs, SqL.of o1⟩, f4 ρ1 H1 (Pre.refl _) (Ext.refl _ _) r1 _ fun i ρ2 h4 H2 p2 e2 r2 g => ?_⟩
        have g' : h4[n]? = some (.lst xs) := g
        obtain ⟨a2, n2, vs2, o2, d2⟩ := r2.at g'
        rw [p2 n q hq] at n2; cases n2
        refine ⟨fun d hd => ?_, fun hi => ⟨vs2, SqL.of o2, by rw [← d2.length]; exact Nat.le_of_eq hi⟩⟩
        obtain ⟨x, g1, g2⟩ := d2.get hd
        refine ⟨⟨vs2, x, SqL.of o2, g1⟩, fun y H3 ⟨z1, z2⟩ => ?_⟩
        subst z1
        have := z2 vs2 (SqL.of o2)
        rw [g1] at this; cases this
        exact ⟨g2, r2, Ext.refl _ _⟩⟩⟩
def iSeqT (ma : G → M D) : G → M Src := fun γ => do
  let x ← ma γ
  match x with
  | .tup xs => pure (.con xs)
  | _ => bad
theorem si_tup (ha : SE X EX a ma) : SI X EX tg a (iSeqT ma) :=
  ⟨PI.imp (pi_tup ha.h) fun σ H R ⟨ρ, γ, h, rel, fin⟩ => ⟨ρ, γ, h, rel, (Fin.bind fin).mono fun x ρ1 h1 H1 p1 e1 r1 f1 v rv => by
    cases x <;> first | exact (show False from f1).elim | skip
    rename_i xs
    simp only [RD] at rv
    obtain ⟨q, vs, rfl, h2, h3⟩ := rv
    refine ⟨q, rfl, ⟨vs, h2⟩, f1 ρ1 H1 (Pre.refl _) (Ext.refl _ _) r1 _ fun i ρ2 h4 H2 p2 e2 r2 _ => ⟨fun d hd => ?_, fun hi => ?_⟩⟩
    · have h3' := h3.mono p2 e2
      obtain ⟨x, g1, g2⟩ := h3'.get hd
      refine ⟨⟨vs, x, e2.t _ _ h2, g1⟩, fun y H3 ⟨z1, z2⟩ => ?_⟩
      subst z1
      have := z2 vs (e2.t _ _ h2)
      rw [g1] at this; cases this
      exact ⟨g2, r2, Ext.refl _ _⟩
    · exact ⟨vs, e2.t _ _ h2, by rw [← h3.length]; exact Nat.le_of_eq hi⟩⟩⟩
/-- range(n) -/
def intsD (n : Nat) : List D := (List.range n).map fun (i : Nat) => .int i
def iRange (ma : G → M D) : G → M Src := fun γ => do
  let x ← ma γ
  match x with
  | .int j => if -(2 ^ 62) ≤ j ∧ j < 2 ^ 62 then pure (.con (intsD j.toNat)) else bad
  | _ => bad
theorem si_range (hg : Gl X "range") (hm : X.mg "range" = none) (ha : SE X EX a ma) (hs : starEach [a] X.env = [(false, eval a X.env)] := by rfl) : SI X EX tg (.Call (.Name "range" p) [a] [] pos) (iRange ma) :=
  ⟨PI.imp (pi_range1 hg hm (pa_cons ha.h pa_nil hs) hs) fun σ H R ⟨ρ, γ, h, rel, fin⟩ => ⟨ρ, γ, h, rel, (Fin.bind fin).mono fun x ρ1 h1 H1 p1 e1 r1 f1 v rv => by
    cases x <;> first | exact (show False from f1).elim | skip
    rename_i j
    simp only [RD] at rv
    subst rv
    have f2 : Fin X.K EX ρ1 H1 (fun src ρ' _ H' => ∀ J, JOK X.K src ρ' H' J → R J H') ((if -(2 ^ 62) ≤ j ∧ j < 2 ^ 62 then pure (.con (intsD j.toNat)) else bad : M Src) h1) := f1
    by_cases hj : -(2 ^ 62) ≤ j ∧ j < 2 ^ 62
    · rw [if_pos hj] at f2
      refine ⟨j, rfl, hj.1, hj.2, f2 ρ1 H1 (Pre.refl _) (Ext.refl _ _) r1 _ fun i ρ2 h4 H2 p2 e2 r2 _ => ⟨fun d hd => ?_, fun hi => ?_⟩⟩
      · have hd' : (intsD j.toNat)[i]? = some d := hd
        unfold intsD at hd'
        rw [List.getElem?_map] at hd'
        have hi : i < j.toNat := by
          by_cases hi : i < j.toNat
          · exact hi
          · rw [List.getElem?_eq_none (by simpa using hi)] at hd'; cases hd'
        rw [List.getElem?_range hi] at hd'
        cases hd'
        refine ⟨hi, fun y H3 ⟨z1, z2⟩ => ?_⟩
        subst z1; subst z2
        exact ⟨by simp [RD], r2, Ext.refl _ _⟩
      · have hi' : (intsD j.toNat).length = i := hi
        unfold intsD at hi'
        rw [List.length_map, List.length_range] at hi'
        exact Nat.le_of_eq hi'
    · rw [if_neg hj] at f2; exact f2.elim⟩⟩
end
/-! ### for -/
noncomputable def forR (src : Src) (g : D → G → M G) (body : G → M Out) : List D → G → M Out
  | [], γ => do
    let _ ← src.chk
    pure (.nx γ)
  | d :: r, γ => do
    let _ ← src.chk
    let γ1 ← g d γ
    let o ← body γ1
    match o with
    | .nx γ2 => forR src g body r γ2
    | .ct γ2 => forR src g body r γ2
    | .bk γ2 => pure (.nx γ2)
    | .rt v => pure (.rt v)
noncomputable def sFor (mi : G → M Src) (g : D → G → M G) (body : G → M Out) : G → M Out := fun γ => do
  let src ← mi γ
  forR src g body src.items γ
theorem chk_ok {K : PySem.W.Frag} {EX : XX} {ρ : List Addr} {H : Hp} {α : Type} {P : α → List Addr → AH → Hp → Prop} {src : Src} {f : Unit → M α} {h : AH} (fin : Fin K EX ρ H P ((src.chk >>= f) h)) (r : RH K ρ h H) : src.good h ∧ Fin K EX ρ H P (f () h) := by
  have f1 := Fin.bind fin
  unfold Src.chk at f1
  split at f1
  · rename_i hg
    exact ⟨hg, f1 ρ H (Pre.refl _) (Ext.refl _ _) r⟩
  · exact f1.elim
section
variable {X : Cx} {EX : XX} {a o e tg c : Expr} {pos cpos apos p : Pos} {ma mo : G → M D} {mi : G → M Src} {g : D → G → M G} {mb : G → M Out} {sts : List Stmt} {kc : G → M Bool}
theorem s_for (hp : PassesOwn (model X.prog X.w) X.A X.env X.xe) (hc : X.calm = true) (hi : SI X EX tg e mi) (hg : SG X EX tg g) (hb : SB X EX sts mb) (hs : ∀ x, foldedSetIterable e X.env x = pure x := by intro _; rfl) : S1 X EX (.For tg e sts [] pos) (sFor mi g mb) :=
  ⟨PS.imp (ps_for hp hc hi.h hg.h hb.h hs) fun σ H D ⟨ρ, γ, h, rel, fin⟩ => ⟨ρ, γ, h, rel, (Fin.bind fin).mono fun src ρ0 h0 H0 p0 e0 r0 f0 J hJ => by
    refine ⟨fun i m σ H => m + i = src.items.length ∧ ∃ ρ γ h, Pre ρ0 ρ ∧ Ext X.K H0 H ∧ Rel X.K ρ γ h σ H ∧ Fin X.K EX ρ H (fun o ρ' _ H' => OutP X.K D o ρ' H') (forR src g mb (src.items.drop i) γ h),
      ⟨src.items.length, rfl, ρ0, γ, h0, Pre.refl _, Ext.refl _ _, ⟨rel.g.mono p0 e0, r0⟩, f0⟩, ?_⟩
    rintro i m σ1 H1 ⟨hm, ρ1, γ1, h1, p1, e1, rel1, f1⟩
    by_cases hi : i < src.items.length
    · have hd : src.items.drop i = src.items[i] :: src.items.drop (i + 1) := List.drop_eq_getElem_cons hi
      rw [hd] at f1
      unfold forR at f1
      obtain ⟨good, f2⟩ := chk_ok f1 rel1.h
      obtain ⟨j1, j2⟩ := hJ i ρ1 h1 H1 p1 e1 rel1.h good
      obtain ⟨go, yld⟩ := j1 src.items[i] (List.getElem?_eq_getElem hi)
      refine .inr ⟨go, fun σ' H' => ∃ ρ γ h, Pre ρ0 ρ ∧ Ext X.K H0 H' ∧ Rel X.K ρ γ h σ' H' ∧ Fin X.K EX ρ H' (fun o ρ' _ H' => OutP X.K D o ρ' H') (forR src g mb (src.items.drop (i + 1)) γ h), fun σ' H' z => ⟨m - 1, by omega, by omega, z⟩, fun x H2 y => ?_⟩
      obtain ⟨rd, rh, ext⟩ := yld x H2 y
      refine ⟨ρ1, γ1, h1, _, ⟨rel1.g.mono (Pre.refl _) ext, rh⟩, rd, (Fin.bind (Fin.up (Pre.refl _) ext f2)).mono fun γ2 ρ3 h3 H3 p3 e3 r3 f3 σ3 g3 => ⟨ρ3, γ2, h3, ⟨g3, r3⟩, (Fin.bind f3).mono fun o ρ4 h4 H4 p4 e4 r4 f4 => ?_⟩⟩
      have pp : Pre ρ0 ρ4 := (p1.trans p3).trans p4
      have ee : Ext X.K H0 H4 := ((e1.trans ext).trans e3).trans e4
      cases o with
      | nx γ5 => exact fun σ5 g5 => ⟨ρ4, γ5, h4, pp, ee, ⟨g5, r4⟩, f4⟩
      | ct γ5 => exact fun σ5 g5 => ⟨ρ4, γ5, h4, pp, ee, ⟨g5, r4⟩, f4⟩
      | bk γ5 => exact fun σ5 g5 => f4 ρ4 H4 (Pre.refl _) (Ext.refl _ _) r4 σ5 g5
      | rt d => exact fun v rv => f4 ρ4 H4 (Pre.refl _) (Ext.refl _ _) r4 v rv
    · have hd : src.items.drop i = [] := List.drop_eq_nil_of_le (by omega)
      rw [hd] at f1
      unfold forR at f1
      obtain ⟨good, f2⟩ := chk_ok f1 rel1.h
      obtain ⟨j1, j2⟩ := hJ i ρ1 h1 H1 p1 e1 rel1.h good
      exact .inl ⟨j2 (by omega), f2 ρ1 H1 (Pre.refl _) (Ext.refl _ _) rel1.h σ1 rel1.g⟩⟩⟩
/-! ### while -/
end
end FT
set_option Elab.async false
set_option linter.all false
set_option maxRecDepth 100000
namespace FT
open PySem PySem.Spec PyProof.Rows L2
/-! ### comprehensions -/
def capG (cap : List (Option Nat)) (γ : G) : G := cap.map fun o => match o with | some j => (γ[j]?).join | none => none
theorem cap_rel {K : PySem.W.Frag} {ρ : List Addr} {H : Hp} {γ : G} {σ : L2.St} (cap : List (Option Nat)) (r : RG K ρ H γ σ) : RG K ρ H (capG cap γ) (capSt cap σ) := by
  refine ⟨by simp [capG, capSt], fun i d e => ?_⟩
  unfold capG at e
  unfold capSt
  rw [List.getElem?_map] at e ⊢
  cases q : cap[i]? with
  | none => rw [q] at e; cases e
  | some o =>
    rw [q] at e
    cases o with
    | none => simp at e
    | some j =>
      have e2 : (γ[j]?).join = some d := by simpa using e
      have e3 : γ[j]? = some (some d) := by
        cases q2 : γ[j]? with
        | none => rw [q2] at e2; simp at e2
        | some o2 => rw [q2] at e2; simp at e2; rw [e2]
      obtain ⟨v, h1, h2⟩ := r.var j d e3
      exact ⟨v, by simp [h1], h2⟩
noncomputable def compR (src : Src) (g : D → G → M G) (k : G → M Bool) (me : G → M D) (n0 : Nat) (γ : G) : List D → M Unit
  | [] => do
    let _ ← src.chk
    pure ()
  | d :: r => do
    let _ ← src.chk
    let γ1 ← g d γ
    let t ← k γ1
    if t then do
      let v ← me γ1
      let _ ← fAppend n0 v
      compR src g k me n0 γ r
    else compR src g k me n0 γ r
noncomputable def eComp (cap : List (Option Nat)) (mi : G → M Src) (g : D → G → M G) (k : G → M Bool) (me : G → M D) : G → M D := fun γ => do
  let src ← mi γ
  let n0 ← (fun h => .ok h.length (h ++ [.lst []]) : M Nat)
  let _ ← compR src g k me n0 (capG cap γ) src.items
  pure (.ref n0)
structure SCs (X : Cx) (EX : XX) (ifs : List Expr) (m : G → M Bool) : Prop where
  h : PTs X ifs (tT X.K EX m)
theorem PTs.imp {X : Cx} {e : List Expr} {t t' : TT} (h : PTs X e t) (f : ∀ σ H Q, t' σ H Q → t σ H Q) : PTs X e t' := fun pins s σ H Q I z => h pins s σ H Q I (f σ H Q z)
section
variable {X : Cx} {EX : XX} {elt tg iter c : Expr} {ifs : List Expr} {sc : Scope} {pos : Pos} {N' : List Str} {cap : List (Option Nat)} {own : List Nat} {mi : G → M Src} {g : D → G → M G} {k kr : G → M Bool} {me : G → M D}
theorem scs_nil : SCs X EX [] (fun _ => pure true) := ⟨PTs.imp pts_nil fun σ H Q ⟨ρ, γ, h, rel, fin⟩ => fin ρ H (Pre.refl _) (Ext.refl _ _) rel.h⟩
theorem scs_one (h : SC X EX c k) : SCs X EX [c] k := ⟨PTs.imp (pts_cons h.h pts_nil) fun σ H Q ⟨ρ, γ, h, rel, fin⟩ => ⟨ρ, γ, h, rel, fin.mono fun t ρ1 h1 H1 p1 e1 r1 f1 => by
  cases t with
  | true => exact f1
  | false => exact f1⟩⟩
theorem comp_run {σ : L2.St} {H0 : Hp} {ρ0 : List Addr} {h0 : AH} {γ : G} {src : Src} {J : It} {Dd : Addr} {P : Hp → Prop} (r0 : RH X.K ρ0 h0 H0) (rg : RG X.K ρ0 H0 γ σ) (hJ : JOK X.K src ρ0 H0 J) (hD : H0 Dd = none) (hown : ∀ j ∈ own, cap[j]? = some none)
    (fin : Fin X.K EX (ρ0 ++ [Dd]) (upd H0 Dd (.lst [])) (fun _ ρ' h' H' => ρ'[h0.length]? = some Dd → RH X.K ρ' h' H' → Ext X.K (upd H0 Dd (.lst [])) H' → Pre (ρ0 ++ [Dd]) ρ' → P H') (compR src g k me h0.length (capG cap γ) src.items (h0 ++ [.lst []]))) :
    compRun cap (tGk X.K EX own g) (tT X.K EX k) (tE X.K EX me) σ J Dd P (upd H0 Dd (.lst [])) := by
  have rP := r0.push hD (RDs.nil (K := X.K) (ρ := ρ0) (H := H0))
  have eP : Ext X.K H0 (upd H0 Dd (.lst [])) := Ext.upd (.inl hD)
  have at0 : (ρ0 ++ [Dd])[h0.length]? = some Dd := by rw [← r0.len]; simp
  refine ⟨fun i m H => m + i = src.items.length ∧ ∃ ρ h, Pre (ρ0 ++ [Dd]) ρ ∧ Ext X.K (upd H0 Dd (.lst [])) H ∧ RH X.K ρ h H ∧
    Fin X.K EX ρ H (fun _ ρ' h' H' => ρ'[h0.length]? = some Dd → RH X.K ρ' h' H' → Ext X.K (upd H0 Dd (.lst [])) H' → Pre (ρ0 ++ [Dd]) ρ' → P H') (compR src g k me h0.length (capG cap γ) (src.items.drop i) h),
    ⟨src.items.length, rfl, _, _, Pre.refl _, Ext.refl _ _, rP, fin⟩, ?_⟩
  rintro i m H1 ⟨hm, ρ1, h1, p1, e1, r1, f1⟩
  have p01 : Pre ρ0 ρ1 := (Pre.app _ _).trans p1
  have e01 : Ext X.K H0 H1 := eP.trans e1
  by_cases hi : i < src.items.length
  · have hd : src.items.drop i = src.items[i] :: src.items.drop (i + 1) := List.drop_eq_getElem_cons hi
    rw [hd] at f1
    unfold compR at f1
    obtain ⟨good, f2⟩ := chk_ok f1 r1
    obtain ⟨j1, j2⟩ := hJ i ρ1 h1 H1 p01 e01 r1 good
    obtain ⟨go, yld⟩ := j1 src.items[i] (List.getElem?_eq_getElem hi)
    refine .inr ⟨go, fun x H2 y => ?_⟩
    obtain ⟨rd, rh, ext⟩ := yld x H2 y
    have rgc : RG X.K ρ1 H2 (capG cap γ) (capSt cap σ) := (cap_rel cap rg).mono p01 (e01.trans ext)
    refine ⟨ρ1, _, h1, _, ⟨rgc, rh⟩, rd, (Fin.bind (Fin.up (Pre.refl _) ext f2)).mono fun γ2 ρ3 h3 H3 p3 e3 r3 f3 σ3 g3 k3 => ⟨fun j v hv => ?_, ρ3, γ2, h3, ⟨g3, r3⟩, (Fin.bind f3).mono fun t ρ4 h4 H4 p4 e4 r4 f4 => ?_⟩⟩
    · rw [k3 j fun hj => ?_]
      · exact hv
      · have z := hown j hj
        unfold capSt at hv
        rw [List.getElem?_map, z] at hv
        simp at hv
    · have pp : Pre (ρ0 ++ [Dd]) ρ4 := (p1.trans p3).trans p4
      have ee : Ext X.K (upd H0 Dd (.lst [])) H4 := ((e1.trans ext).trans e3).trans e4
      cases t with
      | false =>
        rw [if_neg (by decide)] at f4
        dsimp only
        rw [if_neg (by decide)]
        exact ⟨m - 1, by omega, by omega, ρ4, h4, pp, ee, r4, f4⟩
      | true =>
        rw [if_pos rfl] at f4
        dsimp only
        rw [if_pos rfl]
        refine ⟨ρ4, γ2, h4, ⟨g3.mono p4 e4, r4⟩, (Fin.bind f4).mono fun d ρ5 h5 H5 p5 e5 r5 f5 v rv => ?_⟩
        have hq : ρ5[h0.length]? = some Dd := (pp.trans p5) _ _ at0
        have f6 := Fin.bind f5
        unfold fAppend updL at f6
        cases e7 : h5[h0.length]? with
        | none => rw [e7] at f6; exact f6.elim
        | some ob =>
          cases ob with
          | set ks => rw [e7] at f6; exact f6.elim
          | lst xs =>
            rw [e7] at f6
            dsimp only at f6
            split at f6
            · rename_i hl
              obtain ⟨a1, n1, vs, o1, d1⟩ := r5.at e7
              rw [hq] at n1; cases n1
              have dd := d1.append (RDs.cons rv RDs.nil)
              have ext2 : Ext X.K H5 (upd H5 Dd (.lst (vs ++ [v]))) := Ext.upd (.inr ⟨_, o1, trivial⟩)
              have r6 := r5.set e7 hq dd
              rw [List.length_append, List.length_singleton] at hl
              have hl2 := d1.length
              exact ⟨vs, o1, by omega, m - 1, by omega, by omega, ρ5, _, pp.trans p5, (ee.trans e5).trans ext2, r6, f6 ρ5 _ (Pre.refl _) ext2 r6⟩
            · exact f6.elim
  · have hd : src.items.drop i = [] := List.drop_eq_nil_of_le (by omega)
    rw [hd] at f1
    unfold compR at f1
    obtain ⟨good, f2⟩ := chk_ok f1 r1
    obtain ⟨j1, j2⟩ := hJ i ρ1 h1 H1 p01 e01 r1 good
    exact .inl ⟨j2 (by omega), f2 ρ1 H1 (Pre.refl _) (Ext.refl _ _) r1 (p1 _ _ at0) r1 e1 p1⟩
theorem se_comp (hc : X.calm = true) (S : CS X sc N' cap) (hi : SI X EX tg iter mi) (hg : ∀ s H fp xe, SGk (X.comp N' sc s H fp xe) EX tg own g) (ht : ∀ s H fp xe, SCs (X.comp N' sc s H fp xe) EX ifs k)
    (he : ∀ s H fp xe, SE (X.comp N' sc s H fp xe) EX elt me) (hown : ∀ j ∈ own, cap[j]? = some none := by decide) (hs : ∀ x, foldedSetIterable iter X.env x = pure x := by intro _; rfl) : SE X EX (.ListComp elt [⟨tg, iter, ifs, 0⟩] sc pos) (eComp cap mi g k me) :=
  ⟨PE.imp (pe_comp (g := tGk X.K EX own g) (ti := tT X.K EX k) (te := tE X.K EX me) hc S hi.h (fun s H fp xe => (hg s H fp xe).h) (fun s H fp xe => (ht s H fp xe).h) (fun s H fp xe => (he s H fp xe).h) hs) fun σ H Q ⟨ρ, γ, h, rel, fin⟩ => ⟨ρ, γ, h, rel, (Fin.bind fin).mono fun src ρ0 h0 H0 p0 e0 r0 f0 J hJ Dd hD => by
    have rP := r0.push hD (RDs.nil (K := X.K) (ρ := ρ0) (H := H0))
    have eP : Ext X.K H0 (upd H0 Dd (.lst [])) := Ext.upd (.inl hD)
    have f1 := Fin.bind f0
    have f2 := f1 (ρ0 ++ [Dd]) _ (Pre.app _ _) eP rP
    refine comp_run r0 (rel.g.mono p0 e0) hJ hD hown ((Fin.bind f2).mono fun _ ρ5 h5 H5 p5 e5 r5 f5 hat rr ee pp => ?_)
    refine FE.here (d := .ref h0.length) (h := h5) f5 rr ?_
    simp only [RD]
    exact ⟨Dd, rfl, hat⟩⟩⟩
noncomputable def sComp' (i : Nat) (cap : List (Option Nat)) (mi : G → M Src) (g : D → G → M G) (k : G → M Bool) (me : G → M D) : G → M Out := sAsg (eComp cap mi g k me) (gN i)
theorem s_comp (i : Nat) {y : Str} {py spos : Pos} (hc : X.calm = true) (S : CS X sc N' cap) (hi : SI X EX tg iter mi) (hg : ∀ s H fp xe, SGk (X.comp N' sc s H fp xe) EX tg own g) (ht : ∀ s H fp xe, SCs (X.comp N' sc s H fp xe) EX ifs k)
    (he : ∀ s H fp xe, SE (X.comp N' sc s H fp xe) EX elt me) (hN : X.N.Nodup) (hy : X.N[i]? = some y := by rfl) (hl : X.env.scope.names.lookup y = some .local := by rfl) (hown : ∀ j ∈ own, cap[j]? = some none := by decide)
    (hsw : swapsWith (.ListComp elt [⟨tg, iter, ifs, 0⟩] sc pos) (some (.Name y py)) spos.line X.env = pure true := by rfl) (hs : ∀ x, foldedSetIterable iter X.env x = pure x := by intro _; rfl) :
    S1 X EX (.Assign [.Name y py] (.ListComp elt [⟨tg, iter, ifs, 0⟩] sc pos) spos) (sComp' i cap mi g k me) :=
  ⟨PS.imp (ps_comp (g := tGk X.K EX own g) (ti := tT X.K EX k) (te := tE X.K EX me) hc S hi.h (fun s H fp xe => (hg s H fp xe).h) (fun s H fp xe => (ht s H fp xe).h) (fun s H fp xe => (he s H fp xe).h) hN hy hl hsw hs) fun σ H D ⟨ρ, γ, h, rel, fin⟩ => ⟨ρ, γ, h, rel, (Fin.bind (Fin.bind fin)).mono fun src ρ0 h0 H0 p0 e0 r0 f0 J hJ Dd hD => by
    have rP := r0.push hD (RDs.nil (K := X.K) (ρ := ρ0) (H := H0))
    have eP : Ext X.K H0 (upd H0 Dd (.lst [])) := Ext.upd (.inl hD)
    have f1 := Fin.bind f0
    have f2 := f1 (ρ0 ++ [Dd]) _ (Pre.app _ _) eP rP
    refine comp_run r0 (rel.g.mono p0 e0) hJ hD hown ((Fin.bind f2).mono fun _ ρ5 h5 H5 p5 e5 r5 f5 hat rr ee pp => ?_)
    have f6 := f5 ρ5 H5 (Pre.refl _) (Ext.refl _ _) rr
    have f7 := f6 ρ5 H5 (Pre.refl _) (Ext.refl _ _) rr
    refine f7 _ (RG.set (((rel.g.mono p0 e0).mono (Pre.app _ _) eP).mono pp ee) i ?_)
    simp only [RD]
    exact ⟨Dd, rfl, hat⟩⟩⟩
end
end FT
set_option Elab.async false
set_option linter.all false
set_option maxRecDepth 100000
namespace FT
open PySem PySem.Spec PyProof.Rows L2
def csOk (osc : Scope) (N : List Str) (sc : Scope) (N' : List Str) (cap : List (Option Nat)) : Bool :=
  (sc.kind == .function) && sc.names.all (fun y => y.2 != .cell) && sc.names.all (fun x => x.2 != .local || sc.names.lookup x.1 == some .local) &&
  sc.names.all (fun x => x.2 != .free || (osc.names.lookup x.1 == some .cell || osc.names.lookup x.1 == some .free)) && (cap.length == N'.length) &&
  (List.range cap.length).all fun i => match cap[i]? with
    | some (some j) => (match N'[i]?, N[j]? with
      | some x, some y => x == y && sc.names.lookup x == some .free
      | _, _ => false)
    | _ => true
theorem cs_mk {X : Cx} {sc : Scope} {N' : List Str} {cap : List (Option Nat)} (h : csOk X.env.scope X.N sc N' cap = true) : CS X sc N' cap := by
  unfold csOk at h
  simp only [Bool.and_eq_true] at h
  obtain ⟨⟨⟨⟨⟨h1, h2⟩, h3⟩, h4⟩, h5⟩, h6⟩ := h
  refine ⟨by simpa using h1, fun y hy => ?_, fun x hx hl => ?_, fun x hx hf => ?_, by simpa using h5, fun i j e => ?_⟩
  · have := List.all_eq_true.mp h2 y hy
    simpa using this
  · have := List.all_eq_true.mp h3 x hx
    simpa [hl] using this
  · have := List.all_eq_true.mp h4 x hx
    have : (X.env.scope.names.lookup x.1 == some .cell || X.env.scope.names.lookup x.1 == some .free) = true := by simpa [hf] using this
    rw [Bool.or_eq_true] at this
    rcases this with z | z
    · exact .inl (show X.env.scope.names.lookup x.1 = _ by simpa using z)
    · exact .inr (show X.env.scope.names.lookup x.1 = _ by simpa using z)
  · have hi : i < cap.length := (List.getElem?_eq_some_iff.mp e).1
    have := List.all_eq_true.mp h6 i (List.mem_range.mpr hi)
    rw [e] at this
    dsimp only at this
    cases e1 : N'[i]? with
    | none => rw [e1] at this; cases this
    | some x =>
      cases e2 : X.N[j]? with
      | none => rw [e1, e2] at this; cases this
      | some y =>
        rw [e1, e2] at this
        simp only [Bool.and_eq_true] at this
        have exy : x = y := by simpa using this.1
        subst exy
        exact ⟨x, rfl, rfl, by simpa using this.2⟩
/-! ### what stands at the top -/
def DefAt (K : PySem.W.Frag) (x : Str) (st : Stmt) : Prop := ∃ f fd, PySem.W.nsIn K mainGlobals x = some (some (.ref f)) ∧ Fun K x x st f fd
theorem defAt_mk {K : PySem.W.Frag} {x : Str} {st : Stmt} {f : Addr} {oc : Value} {od an : Option Addr} {sl : Array (Option Value)} {kV dc pm cd ct : Value} (a : PySem.W.nsIn K mainGlobals x = some (some (.ref f)))
    (l : K.lookup f = some ⟨oc, od, .func (PySem.W.fnOf x x (defArgs st) (defBody st) (defScope st) .none kV dc pm an cd ct), sl⟩) (c : PySem.W.codeIn K cd x = true) (k : PySem.W.keepIn K (.ref f) = true) : DefAt K x st :=
  ⟨f, _, a, fun_mk l c k⟩
/-- a constant of the module -/
structure Cst (K : PySem.W.Frag) (mg : Str → Option Value) (x : Str) (d : D) : Prop where
  ex : ∃ v u, mg x = some u ∧ RelV v u ∧ ∀ ρ H, RD K ρ H d v
theorem cst_int {K : PySem.W.Frag} {mg : Str → Option Value} {x : Str} {i : Int} {t : Tok} (h : mg x = some (.int i t)) : Cst K mg x (.int i) := ⟨.int i, _, h, ⟨t, rfl⟩, fun _ _ => by simp [RD]⟩
/-- flat data as values -/
def relF : D → Value → Bool
  | .non, .none => true
  | .bl a, .bool b => a == b
  | .int a, .int b _ => a == b
  | .str a, .str b _ => a == b
  | _, _ => false
def relFs : List D → List Value → Bool
  | [], [] => true
  | d :: ds, u :: us => relF d u && relFs ds us
  | _, _ => false
def toV : D → V
  | .non => .non
  | .bl b => .bl b
  | .int i => .int i
  | .str x => .str x
  | _ => .non
theorem relF_ok {K : PySem.W.Frag} {ρ : List Addr} {H : Hp} {d : D} {u : Value} (h : relF d u = true) : RelV (toV d) u ∧ RD K ρ H d (toV d) := by
  cases d <;> cases u <;> first
    | (have h' : false = true := h; cases h')
    | skip
  case non.none => exact ⟨rfl, by simp [RD, toV]⟩
  case bl.bool a b => have : a = b := by simpa [relF] using h
                      subst this; exact ⟨rfl, by simp [RD, toV]⟩
  case int.int a b t => have : a = b := by simpa [relF] using h
                        subst this; exact ⟨⟨t, rfl⟩, by simp [RD, toV]⟩
  case str.str a b t => have : a = b := by simpa [relF] using h
                        subst this; exact ⟨⟨t, rfl⟩, by simp [RD, toV]⟩
theorem relFs_ok {K : PySem.W.Frag} {ρ : List Addr} {H : Hp} : ∀ {ds : List D} {us : List Value}, relFs ds us = true → Vals (ds.map toV) us ∧ RDs K ρ H ds (ds.map toV)
  | [], [], _ => ⟨.nil, RDs.nil⟩
  | [], _ :: _, h => by cases h
  | _ :: _, [], h => by cases h
  | d :: ds, u :: us, h => by
    have h' : (relF d u && relFs ds us) = true := h
    rw [Bool.and_eq_true] at h'
    obtain ⟨a1, a2⟩ := relF_ok (K := K) (ρ := ρ) (H := H) h'.1
    obtain ⟨b1, b2⟩ := relFs_ok (K := K) (ρ := ρ) (H := H) h'.2
    exact ⟨.cons a1 b1, RDs.cons a2 b2⟩
theorem cst_tup {K : PySem.W.Frag} {mg : Str → Option Value} {x : Str} {a : Addr} {ds : List D} {od : Option Addr} {its : Array Value} {n : Nat} {sl : Array (Option Value)} (h : mg x = some (.ref a)) (hk : K.lookup a = some ⟨.type "tuple", od, .seq its n, sl⟩)
    (hr : relFs ds its.toList = true) (hz : its.size ≤ sizeLine) : Cst K mg x (.tup ds) := by
  refine ⟨.ref a, _, h, rfl, fun ρ H => ?_⟩
  obtain ⟨h1, h2⟩ := relFs_ok (K := K) (ρ := ρ) (H := H) hr
  simp only [RD]
  exact ⟨a, _, rfl, .inr ⟨_, its, n, hk, rfl, rfl, hz, h1⟩, h2⟩
theorem se_cst {X : Cx} {EX : XX} {x : Str} {d : D} {pos : Pos} (C : Cst X.K X.mg x d) (hg : Gl X x) (hd : (x == ("__debug__" : Str)) = false := by decide) : SE X EX (.Name x pos) (fun _ => pure d) := by
  obtain ⟨v, u, h1, h2, h3⟩ := C.ex
  exact se_glob hg h1 h2 h3 hd
end FT
set_option Elab.async false
set_option linter.all false
set_option maxRecDepth 100000
/-! zip and enumerate of tuples, the signs of a text, as what a loop walks. -/
namespace FT
open PySem PySem.Spec PyProof.Rows L2
section
variable {prog : Program} {w : World} {A : Around} {E : Value → Shared → Prop} {s : Shared}
/-- a zip of two tuples, behind i turns -/
structure ZS (h : Heap) (z TI TO i1 i2 t1 t2 : Addr) (i : Nat) (f0 : Value) : Prop where
  zip : IsZip h z TI TO f0
  ti : IsPair h TI (.ref i1) (.ref i2)
  to : ∃ a b, IsPair h TO a b
  n1 : h.IsTupleIter i1 t1 i
  n2 : h.IsTupleIter i2 t2 i
structure ZA (z TI TO i1 i2 : Addr) : Prop where
  a1 : TI ≠ z
  a2 : TO ≠ z
  a3 : i1 ≠ z
  a4 : i2 ≠ z
  a5 : TI ≠ TO
  a6 : TI ≠ i1
  a7 : TI ≠ i2
  a8 : TO ≠ i1
  a9 : TO ≠ i2
  a0 : i1 ≠ i2
structure ZO (z TO i1 i2 t : Addr) : Prop where
  o1 : t ≠ z
  o2 : t ≠ TO
  o3 : t ≠ i1
  o4 : t ≠ i2
end
end FT
set_option Elab.async false
set_option linter.all false
set_option maxRecDepth 100000
namespace FT
open PySem PySem.Spec PyProof.Rows L2
/-! ### zip of two tuples -/
section
variable {X : Cx} {EX : XX} {a b : Expr} {elts : List Expr} {kk : Nat} {p pos pt : Pos} {ma mb : G → M D}
end
end FT
set_option Elab.async false
set_option linter.all false
set_option maxRecDepth 100000
namespace FT
open PySem PySem.Spec PyProof.Rows L2
/-! ### the signs of a text -/
def Its (x : Str) : It := ⟨fun i _ => i < x.cps.size, fun i H v H' => H' = H ∧ ∃ c, x.cps[i]? = some c ∧ v = .str ⟨#[c]⟩, fun i _ => x.cps.size = i⟩
theorem turn_str {P : Program} {w : World} {K : PySem.W.Frag} {tg : Expr} {it : Addr} {x : Str} {t : Tok} {T : String}
    (W : ∀ A : Around, A.handled = none → Walks P w A it [it] [it] x.cps.size (SignAt x) (fun i h => h.IsStrIter it T x t i))
    (hself : ∀ (A : Around) (i : Nat) (s : Shared) (Q : Value → Shared → Prop) (E : Value → Shared → Prop), s.heap.IsStrIter it T x t i → Q (.ref it) s → wpAny (model P w) A (pyIter (.ref it)) Q E s) : Turn P w K tg (Its x) [it] it (fun i h => h.IsStrIter it T x t i) where
  mem := by simp
  obj := fun i h st b hb => by
    have e : b = it := by simpa using hb
    subst e
    obtain ⟨o, e1, c1, d1⟩ := st
    exact ⟨o, e1, fun v z => by rw [d1] at z; cases z⟩
  keep := fun i h h' st k => let ⟨o, e1, r⟩ := st; ⟨o, k it (by simp) o e1, r⟩
  item := by
    intro X hP hw hK hc i pins s σ H E I hf st hg
    subst hP hw hK
    obtain ⟨f0, f1, f2, f3, f4, f5⟩ := hf it (by simp)
    refine (W X.A (I.ok.hd hc)).item i s _ _ hg st fun v h' tk hv st' kp => ?_
    obtain ⟨c, u, q1, rfl⟩ := hv
    have I1 : L2.Inv X pins σ H { s with heap := h', toks := tk } := I.turned (fun b o hb e => kp b o (by simpa using hb) e) f0 f1 f3 f4 f5
    refine ⟨_, rfl, ?_⟩
    have go : letOwnedTupleGo tg (.ref it) (Value.str ⟨#[c]⟩ u) = pure () := by cases tg <;> rfl
    rw [go]
    exact wpAny_pure ⟨.str ⟨#[c]⟩, H, I1, ⟨_, rfl⟩, ⟨rfl, c, q1, rfl⟩, st', fun b hb => (hf b hb).1⟩
  done := by
    intro X hP hw hK hc i pins s σ H E I hf st hg
    subst hP hw hK
    obtain ⟨f0, f1, f2, f3, f4, f5⟩ := hf it (by simp)
    have hg' : x.cps.size = i := hg
    subst hg'
    exact (W X.A (I.ok.hd hc)).done s _ _ st fun h' tk kp => ⟨rfl, I.turned (fun b o hb e => kp b o (by simpa using hb) e) f0 f1 f3 f4 f5⟩
  self := hself
section
variable {X : Cx} {EX : XX} {a b : Expr} {tg : Expr} {p pos p2 : Pos} {ma mb : G → M D}
def iStrT (ta : TE) : TI := fun σ H R => ta σ H fun v H1 => ∃ x, v = .str x ∧ R (Its x) H1
theorem pi_str {ta : TE} (ha : PE X a ta) : PI X tg a (iStrT ta) := by
  intro pins s σ H R I h
  refine thn (ha pins s σ H _ I h) fun v s1 ⟨y, H1, I1, r1, q1⟩ => ?_
  obtain ⟨x, rfl, q⟩ := q1
  obtain ⟨t, rfl⟩ := r1
  have fo : ∀ b ∈ [s1.heap.objs.size], FpOk X pins H1 b := fun b hb => by
    have e : b = s1.heap.objs.size := by simpa using hb
    subst e
    exact I1.fpOk (Nat.le_refl _) (I1.hok.fresh (Nat.le_refl _))
  cases ha' : x.cps.all (· < 128)
  · refine wpAny_pyIter_wide ha' ?_
    exact ⟨s1.heap.objs.size, [s1.heap.objs.size], _, _, H1, rfl, I1.kept (t' := s1.toks) fun b o e => Heap.get?_push_of_some _ e, turn_str (fun A hA => Walks.strWide hA _ x t) (fun A i s Q E st h => wpAny_pyIter_striter_wide st h), ⟨_, Heap.get?_push_size _ rfl, rfl, rfl⟩, fo, q⟩
  · refine wpAny_pyIter_ascii ha' ?_
    exact ⟨s1.heap.objs.size, [s1.heap.objs.size], _, _, H1, rfl, I1.kept (t' := s1.toks) fun b o e => Heap.get?_push_of_some _ e, turn_str (fun A hA => Walks.strAscii hA _ x t) (fun A i s Q E st h => wpAny_pyIter_striter_ascii st h), ⟨_, Heap.get?_push_size _ rfl, rfl, rfl⟩, fo, q⟩
def signsD (x : Str) : List D := x.cps.toList.map fun c => .str ⟨#[c]⟩
def iStr (ma : G → M D) : G → M Src := fun γ => do
  let x ← ma γ
  match x with
  | .str z => pure (.con (signsD z))
  | _ => bad
theorem si_str (hc : X.calm = true) (ha : SE X EX a ma) : SI X EX tg a (iStr ma) :=
  ⟨PI.imp (pi_str ha.h) fun σ H R ⟨ρ, γ, h, rel, fin⟩ => ⟨ρ, γ, h, rel, (Fin.bind fin).mono fun x ρ1 h1 H1 p1 e1 r1 f1 v rv => by
    cases x <;> first | exact (show False from f1).elim | skip
    rename_i z
    simp only [RD] at rv
    subst rv
    refine ⟨z, rfl, f1 ρ1 H1 (Pre.refl _) (Ext.refl _ _) r1 _ fun i ρ2 h4 H2 p2 e2 r2 _ => ⟨fun d hd => ?_, fun hi => ?_⟩⟩
    · have hd' : (signsD z)[i]? = some d := hd
      unfold signsD at hd'
      rw [List.getElem?_map] at hd'
      cases e : z.cps.toList[i]? with
      | none => rw [e] at hd'; cases hd'
      | some c =>
        rw [e] at hd'
        cases hd'
        have e' : z.cps[i]? = some c := by simpa using e
        refine ⟨?_, fun y H3 ⟨z1, c', z2, z3⟩ => ?_⟩
        · have := (List.getElem?_eq_some_iff.mp e).1
          exact (show i < z.cps.size by simpa using this)
        · subst z1
          rw [e'] at z2; cases z2
          subst z3
          exact ⟨by simp [RD], r2, Ext.refl _ _⟩
    · have hi' : (signsD z).length = i := hi
      unfold signsD at hi'
      rw [List.length_map] at hi'
      exact (show z.cps.size = i by simpa using hi')⟩⟩
/-! ### slices of tuples and lists -/
theorem tup_whole {A : Around} {E : Value → Shared → Prop} {s : Shared} {t sl : Addr} {items : Array Value} {vl vu : Value} {lo hi : Option Int} {Q : Value → Shared → Prop} (ht : IsTup s.heap t items) (hs : s.heap.IsSliceOf sl vl vu .none) (pl : IsPart vl lo) (pu : IsPart vu hi)
    (hw : HT.sIx items.size 0 lo = 0 ∧ HT.sIx items.size items.size hi = items.size) (h : Q (.ref t) s) : wpAny (model X.prog X.w) A (getItem (.ref t) (.ref sl)) Q E s := by
  obtain ⟨os, hos, hcs, hds⟩ := id hs
  have hTs : s.TypeIs (.ref sl) "slice" := ⟨os, hos, hcs⟩
  unfold getItem
  try with_reducible refine wpAny_holding ?_
  first | refine wpAny_bind (wpAny_pure ?_) | skip
  refine wpAny_bind (wpAny_sequenceKey ht.typeIs (by decide) ?_)
  refine wpAny_bind (wpAny_callSpecial?_slot (name := Str.ofString "__getitem__") ht.typeIs PyProof.Rows.slot_tuple_getitem
    (wpAny_call_entry PyProof.Rows.slot_tuple_getitem ht.typeIs entry_tuple_getitem ?_ (args_tuple_getitem _ _)))
  show wpAny _ _ (Builtin.Tuple.tupleItemsOf (.ref t) >>= _) _ _ s
  refine wpAny_bind (tupleItemsOf_ ht ?_)
  refine wpAny_bind (wpAny_typeOf hTs ?_)
  rw [if_pos (by decide)]
  refine wpAny_bind (HT.sliceApplied_gen hs pl pu ?_)
  have yes : ((((HT.sIx items.size 0 lo : Nat) : Int) == 0 && (1 : Int) == 1 && (HT.sIx items.size items.size hi - HT.sIx items.size 0 lo) == items.size) = true) := by
    rw [hw.1, hw.2]; simp
  show wpAny _ _ (if (((HT.sIx items.size 0 lo : Nat) : Int) == 0 && (1 : Int) == 1 && (HT.sIx items.size items.size hi - HT.sIx items.size 0 lo) == items.size) = true then _ else _) _ _ s
  rw [if_pos yes]
  refine wpAny_bind (m := Builtin.Tuple.tupleIsExact (.ref t)) ?_
  unfold Builtin.Tuple.tupleIsExact
  refine wpAny_bind (wpAny_typeOf ht.typeIs (wpAny_pure ?_))
  rw [if_pos (by decide)]
  exact wpAny_bind (wpAny_rule (wpAny_pure ⟨_, rfl, wpAny_pure h⟩))
def rSlW (K : PySem.W.Frag) : V → Option Int → Option Int → Hp → VK → Prop := fun x lo hi H Q => ∃ a xs, x = .ref a ∧ SqT K H a xs ∧ (HT.sIx xs.length 0 lo = 0 ∧ HT.sIx xs.length xs.length hi = xs.length) ∧ Q (.ref a) H
theorem sl_whole : SlR X (rSlW X.K) := by
  intro pins s σ H x v vl vu lo hi sl Q I rx hs pl pu h
  obtain ⟨a, xs, rfl, hx, hw, q⟩ := h
  cases rx
  obtain ⟨its, r, ht, hz⟩ := I.tuple hx
  have hlen : its.toArray.size = xs.length := by rw [List.size_toArray]; exact r.length.symm
  exact ⟨"tuple", _, PyProof.Rows.slot_tuple_getitem.lookup, ht.typeIs, tup_whole ht hs pl pu (by rw [hlen]; exact hw) ⟨.ref a, H, I, rfl, q⟩⟩
def cutD (xs : List D) (lo hi : Option Int) : List D := (xs.drop (HT.sIx xs.length 0 lo)).take (HT.sIx xs.length xs.length hi - HT.sIx xs.length 0 lo)
theorem cut_rel {K : PySem.W.Frag} {ρ : List Addr} {H : Hp} {ds : List D} {xs : List V} (h : RDs K ρ H ds xs) (lo hi : Option Int) : RDs K ρ H (cutD ds lo hi) (cutV xs lo hi) := by
  unfold cutD cutV
  rw [h.length]
  exact (h.drop _).take _
def fSl : D → Option Int → Option Int → M D
  | .tup xs, lo, hi => pure (.tup (cutD xs lo hi))
  | .fl xs, lo, hi => newL (cutD xs lo hi)
  | .ref n, lo, hi => do
    let xs ← getL n
    newL (cutD xs lo hi)
  | _, _, _ => bad
def tO (K : PySem.W.Frag) (EX : XX) (m : G → M (Option Int)) : TO := fun σ H Q => ∃ ρ γ h, Rel K ρ γ h σ H ∧ Fin K EX ρ H (fun o _ _ H' => Q o H') (m γ h)
structure SO (X : Cx) (EX : XX) (e : Option Expr) (m : G → M (Option Int)) : Prop where
  h : PO X e (tO X.K EX m)
theorem PO.imp {X : Cx} {e : Option Expr} {t t' : TO} (h : PO X e t) (f : ∀ σ H Q, t' σ H Q → t σ H Q) : PO X e t' := fun pins s σ H Q I z => h pins s σ H Q I (f σ H Q z)
def oNone : G → M (Option Int) := fun _ => pure none
def oSome (ma : G → M D) : G → M (Option Int) := fun γ => do
  let x ← ma γ
  match x with
  | .int i => pure (some i)
  | _ => bad
theorem so_none : SO X EX none oNone := ⟨PO.imp po_none fun σ H Q ⟨ρ, γ, h, rel, fin⟩ => fin ρ H (Pre.refl _) (Ext.refl _ _) rel.h⟩
theorem so_some (ha : SE X EX a ma) : SO X EX (some a) (oSome ma) := ⟨PO.imp (po_some ha.h) fun σ H Q ⟨ρ, γ, h, rel, fin⟩ => ⟨ρ, γ, h, rel, (Fin.bind fin).mono fun x ρ1 h1 H1 p1 e1 r1 f1 v rv => by
  cases x <;> first | exact (show False from f1).elim | skip
  rename_i i
  simp only [RD] at rv
  exact ⟨i, rv, f1 ρ1 H1 (Pre.refl _) (Ext.refl _ _) r1⟩⟩⟩
def eSlice (ma : G → M D) (ml mh : G → M (Option Int)) : G → M D := fun γ => do
  let x ← ma γ
  let lo ← ml γ
  let hi ← mh γ
  fSl x lo hi
theorem sl_rel {ρ : List Addr} {h : AH} {H : Hp} {x : D} {v : V} {lo hi : Option Int} {Q : VK} (r : RH X.K ρ h H) (rx : RD X.K ρ H x v) (fin : FE X.K EX ρ H Q (fSl x lo hi h)) : rSlL X.K v lo hi H Q ∨ rSlT X.K v lo hi H Q ∨ rSlW X.K v lo hi H Q := by
  cases x <;> first | exact (show False from fin).elim | skip
  case tup xs =>
    have rx' := rx
    simp only [RD] at rx
    obtain ⟨q, vs, rfl, h1, h2⟩ := rx
    have fin' : FE X.K EX ρ H Q (.ok (.tup (cutD xs lo hi)) h) := fin
    by_cases hw : HT.sIx vs.length 0 lo = 0 ∧ HT.sIx vs.length vs.length hi = vs.length
    · refine .inr (.inr ⟨q, vs, rfl, h1, hw, FE.here fin' r ?_⟩)
      have e : cutD xs lo hi = xs := by
        unfold cutD
        rw [h2.length, hw.1, hw.2, List.drop_zero, Nat.sub_zero, ← h2.length, List.take_length]
      rw [e]; exact rx'
    · exact .inr (.inl ⟨q, vs, rfl, h1, hw, fun p hp => FE.tup fin' r (cut_rel h2 lo hi) hp⟩)
  case fl xs =>
    simp only [RD] at rx
    obtain ⟨q, vs, rfl, h1, h2⟩ := rx
    have fin' : FE X.K EX ρ H Q (newL (cutD xs lo hi) h) := fin
    unfold newL at fin'
    split at fin'
    · exact .inl ⟨q, vs, rfl, h1.sq, fun p hp => FE.lst fin' r (cut_rel h2 lo hi) hp⟩
    · exact fin'.elim
  case ref n =>
    simp only [RD] at rx
    obtain ⟨q, rfl, h1⟩ := rx
    have fin' : FE X.K EX ρ H Q ((getL n >>= fun xs => newL (cutD xs lo hi)) h) := fin
    have f1 := Fin.bind fin'
    cases e : getL n h with
    | bad => rw [e] at f1; exact f1.elim
    | err z hz => exact (getL_no e).elim
    | ok xs h2 =>
      obtain ⟨rfl, q1⟩ := getL_ok e
      rw [e] at f1
      have f2 := f1 ρ H (Pre.refl _) (Ext.refl _ _) r
      dsimp only at f2
      unfold newL at f2
      split at f2
      · obtain ⟨a1, n1, vs, o1, d1⟩ := r.at q1
        rw [h1] at n1; cases n1
        exact .inl ⟨q, vs, rfl, SqL.of o1, fun p hp => FE.lst f2 r (cut_rel d1 lo hi) hp⟩
      · exact f2.elim
theorem se_slice {lo hi : Option Expr} {ml mh : G → M (Option Int)} (ha : SE X EX a ma) (hl : SO X EX lo ml) (hh : SO X EX hi mh) : SE X EX (.Subscript a (.Slice lo hi none p2) pos) (eSlice ma ml mh) :=
  ⟨PE.imp (pe_slice (sl_list.or (sl_tup.or sl_whole)) ha.h hl.h hh.h) fun σ H Q ⟨ρ, γ, h, rel, fin⟩ => ⟨ρ, γ, h, rel, (Fin.bind fin).mono fun x ρ1 h1 H1 p1 e1 r1 f1 v rv => ⟨ρ1, γ, h1, ⟨rel.g.mono p1 e1, r1⟩, (Fin.bind f1).mono fun l ρ2 h2 H2 p2 e2 r2 f2 =>
    ⟨ρ2, γ, h2, ⟨(rel.g.mono p1 e1).mono p2 e2, r2⟩, (Fin.bind f2).mono fun u ρ3 h3 H3 p3 e3 r3 f3 => sl_rel r3 ((rv.mono p2 e2).mono p3 e3) f3⟩⟩⟩⟩
end
end FT
set_option Elab.async false
set_option linter.all false
set_option maxRecDepth 100000
namespace FT
open PySem PySem.Spec PyProof.Rows L2
/-! ### sorted of texts, of ints -/
section
variable {X : Cx} {EX : XX} {a : Expr} {p pos : Pos} {mr : G → M (List D)}
theorem rds_ints {K : PySem.W.Frag} {ρ : List Addr} {H : Hp} : ∀ (l : List Int), RDs K ρ H (l.map .int) (l.map V.int)
  | [] => RDs.nil
  | x :: r => RDs.cons (by simp [RD]) (rds_ints r)
end
end FT
set_option Elab.async false
set_option linter.all false
set_option maxRecDepth 100000
set_option maxHeartbeats 2000000
/-! Code that changes nothing that was there. -/
namespace FT
open PySem PySem.Spec PyProof.Rows L2
@[simp] theorem bindM {α β : Type} (m : M α) (f : α → M β) (h : AH) : (m >>= f) h = match m h with
  | .ok a h1 => f a h1
  | .err x h1 => .err x h1
  | .bad => .bad := rfl
@[simp] theorem pureM {α : Type} (a : α) (h : AH) : (Pure.pure a : M α) h = .ok a h := rfl
@[simp] theorem badM {α : Type} (h : AH) : (bad : M α) h = .bad := rfl
@[simp] theorem iteM {α : Type} {c : Prop} [Decidable c] (a b : M α) (h : AH) : (if c then a else b) h = if c then a h else b h := by split <;> rfl
def Pu {α : Type} (m : M α) (a : α) : Prop := ∀ h, ∃ j, m h = .ok a (h ++ j)
theorem Pu.pure {α : Type} (a : α) : Pu (Pure.pure a : M α) a := fun h => ⟨[], by simp⟩
theorem Pu.bind {α β : Type} {m : M α} {f : α → M β} {a : α} {b : β} (h1 : Pu m a) (h2 : Pu (f a) b) : Pu (m >>= f) b := fun h => by
  obtain ⟨j, e⟩ := h1 h
  obtain ⟨j', e'⟩ := h2 (h ++ j)
  exact ⟨j ++ j', by rw [M.bind_ok e, e', List.append_assoc]⟩
theorem Pu.of {α : Type} {m : M α} {a : α} (h : ∀ x, m x = .ok a x) : Pu m a := fun x => ⟨[], by rw [h]; simp⟩
theorem Pu.ite {α : Type} {c : Bool} {m n : M α} {a : α} (h1 : c = true → Pu m a) (h2 : c = false → Pu n a) : Pu (if c = true then m else n) a := by
  cases c with
  | true => exact h1 rfl
  | false => exact h2 rfl
theorem pu_var {γ : G} {i : Nat} {d : D} (h : γ[i]? = some (some d)) : Pu (eVar i γ) d := Pu.of fun x => by unfold eVar; rw [h]; rfl
theorem pu_args0 (γ : G) : Pu (aNil γ) [] := Pu.pure _
theorem pu_args {γ : G} {ma : G → M D} {mr : G → M (List D)} {d : D} {ds : List D} (h1 : Pu (ma γ) d) (h2 : Pu (mr γ) ds) : Pu (aCons ma mr γ) (d :: ds) := h1.bind (h2.bind (Pu.pure _))
theorem pu_two {γ : G} {ma mb : G → M D} {f : D → D → M D} {a b c : D} (h1 : Pu (ma γ) a) (h2 : Pu (mb γ) b) (h3 : Pu (f a b) c) : Pu (e2 f ma mb γ) c := h1.bind (h2.bind h3)
theorem pu_fn {γ : G} {n : Nat} {mr : G → M (List D)} {f : List D → M D} {ds : List D} {d : D} (h1 : Pu (mr γ) ds) (hn : ds.length = n) (h2 : Pu (f ds) d) : Pu (eFn n f mr γ) d := h1.bind (by rw [if_pos hn]; exact h2)
theorem pu_and {γ : G} {ma mb : G → M D} {b c : Bool} (h1 : Pu (ma γ) (.bl b)) (h2 : b = true → Pu (mb γ) (.bl c)) : Pu (eAnd ma mb γ) (.bl (b && c)) := h1.bind (Pu.bind (Pu.pure b) (Pu.ite (fun e => by subst e; exact h2 rfl) (fun e => by subst e; exact Pu.pure _)))
theorem pu_or {γ : G} {ma mb : G → M D} {b c : Bool} (h1 : Pu (ma γ) (.bl b)) (h2 : b = false → Pu (mb γ) (.bl c)) : Pu (eOr ma mb γ) (.bl (b || c)) := h1.bind (Pu.bind (Pu.pure b) (Pu.ite (fun e => by subst e; exact Pu.pure _) (fun e => by subst e; exact h2 rfl)))
theorem pu_cval {γ : G} {ma : G → M D} {b : Bool} (h1 : Pu (ma γ) (.bl b)) : Pu (cVal ma γ) b := h1.bind (Pu.pure _)
theorem pu_cnot {γ : G} {k : G → M Bool} {b : Bool} (h1 : Pu (k γ) b) : Pu (cNot k γ) (!b) := h1.bind (Pu.pure _)
theorem pu_cor {γ : G} {k l : G → M Bool} {b c : Bool} (h1 : Pu (k γ) b) (h2 : b = false → Pu (l γ) c) : Pu (cOr k l γ) (b || c) := h1.bind (Pu.ite (fun e => by subst e; exact Pu.pure _) (fun e => by subst e; exact h2 rfl))
/-- blocks -/
theorem pu_ret {γ : G} {ma : G → M D} {d : D} {mt : G → M Out} (h : Pu (ma γ) d) : Pu (bCons (sRet ma) mt γ) (.rt d) := Pu.bind (h.bind (Pu.pure _)) (Pu.pure _)
theorem pu_if {γ : G} {k : G → M Bool} {ms mt mr : G → M Out} {b : Bool} {o : Out} (h : Pu (k γ) b) (h1 : b = true → Pu (bCons ms mr γ) o) (h2 : b = false → Pu (bCons mt mr γ) o) : Pu (bCons (sIf k ms mt) mr γ) o := by
  have q : bCons (sIf k ms mt) mr γ = (k γ >>= fun t => (if t = true then bCons ms mr γ else bCons mt mr γ)) := by
    funext x
    simp only [bCons, sIf, bindM]
    cases k γ x with
    | ok t h1 => cases t <;> simp
    | err e h1 => rfl
    | bad => rfl
  rw [q]
  exact h.bind (Pu.ite h1 h2)
theorem pu_nilnext {γ : G} {mr : G → M Out} {o : Out} (h : Pu (mr γ) o) : Pu (bCons bNil mr γ) o := fun x => h x
theorem pu_rets {γ : G} {ms mr : G → M Out} {d : D} (h : Pu (ms γ) (.rt d)) : Pu (bCons ms mr γ) (.rt d) := Pu.bind h (Pu.pure _)
theorem pu_set {γ γ' : G} {ma : G → M D} {g : D → G → M G} {mr : G → M Out} {d : D} {o : Out} (h : Pu (ma γ) d) (h1 : Pu (g d γ) γ') (h2 : Pu (mr γ') o) : Pu (bCons (sAsg ma g) mr γ) o := Pu.bind (h.bind (h1.bind (Pu.pure _))) h2
theorem pu_run {n : Nat} {mb : G → M Out} {ds : List D} {d : D} (h : Pu (mb (startG n ds)) (.rt d)) : Pu (runF n mb ds) d := h.bind (Pu.pure _)
/-! ### comprehensions -/
theorem compR_pu {g : D → G → M G} {k : G → M Bool} {me : G → M D} {γ : G} {p : D → Bool} {f : D → D} (xs : List D) : ∀ (items : List D) (h0 : AH) (acc : List D) (j : AH), acc.length + items.length ≤ 1000000 →
    (∀ d ∈ items, ∃ γ1, (∀ h, g d γ h = .ok γ1 h) ∧ Pu (k γ1) (p d) ∧ (p d = true → Pu (me γ1) (f d))) →
    ∃ j', compR (.con xs) g k me h0.length γ items (h0 ++ .lst acc :: j) = .ok () (h0 ++ .lst (acc ++ (items.filter p).map f) :: j')
  | [], h0, acc, j, hl, hd => ⟨j, by unfold compR Src.chk Src.good; simp⟩
  | d :: r, h0, acc, j, hl, hd => by
    obtain ⟨γ1, e1, e2, e3⟩ := hd d List.mem_cons_self
    obtain ⟨j1, q1⟩ := e2 (h0 ++ .lst acc :: j)
    unfold compR
    have chk : (Src.con xs).chk (h0 ++ .lst acc :: j) = .ok () (h0 ++ .lst acc :: j) := by unfold Src.chk Src.good; simp
    rw [M.bind_ok chk, M.bind_ok (e1 _), M.bind_ok q1]
    simp only [List.length_cons] at hl
    have hr : ∀ d ∈ r, ∃ γ1, (∀ h, g d γ h = .ok γ1 h) ∧ Pu (k γ1) (p d) ∧ (p d = true → Pu (me γ1) (f d)) := fun x hx => hd x (List.mem_cons_of_mem _ hx)
    cases hp : p d with
    | false =>
      rw [if_neg (by decide)]
      obtain ⟨j', q⟩ := compR_pu xs r h0 acc (j ++ j1) (by omega) hr
      refine ⟨j', ?_⟩
      rw [List.append_assoc, List.cons_append, q, List.filter_cons, hp]
      rfl
    | true =>
      rw [if_pos rfl]
      obtain ⟨j2, q2⟩ := e3 hp ((h0 ++ .lst acc :: j) ++ j1)
      rw [M.bind_ok q2]
      have ap : fAppend h0.length (f d) ((h0 ++ .lst acc :: j) ++ j1 ++ j2) = .ok .non (h0 ++ .lst (acc ++ [f d]) :: (j ++ j1 ++ j2)) := by
        unfold fAppend updL
        have g1 : ((h0 ++ .lst acc :: j) ++ j1 ++ j2)[h0.length]? = some (.lst acc) := by simp
        rw [g1]
        dsimp only
        have hs : (acc ++ [f d]).length ≤ sizeLine := by
          rw [List.length_append, List.length_singleton]
          exact Nat.le_trans (show acc.length + 1 ≤ 1000000 by omega) (by decide)
        rw [if_pos hs]
        simp
      rw [M.bind_ok ap]
      obtain ⟨j', q⟩ := compR_pu xs r h0 (acc ++ [f d]) (j ++ j1 ++ j2) (by simp; omega) hr
      refine ⟨j', ?_⟩
      rw [q, List.filter_cons, hp]
      simp
theorem comp_pu {cap : List (Option Nat)} {mi : G → M Src} {g : D → G → M G} {k : G → M Bool} {me : G → M D} {γ : G} {items : List D} (p : D → Bool) (f : D → D) (hi : Pu (mi γ) (.con items)) (hl : items.length ≤ 1000000)
    (hd : ∀ d ∈ items, ∃ γ1, (∀ h, g d (capG cap γ) h = .ok γ1 h) ∧ Pu (k γ1) (p d) ∧ (p d = true → Pu (me γ1) (f d))) (h : AH) :
    ∃ i j1 j2, i = h.length + j1.length ∧ eComp cap mi g k me γ h = .ok (.ref i) (h ++ j1 ++ .lst ((items.filter p).map f) :: j2) := by
  obtain ⟨j1, e1⟩ := hi h
  obtain ⟨j', e⟩ := compR_pu (g := g) (k := k) (me := me) (γ := capG cap γ) (p := p) (f := f) items items (h ++ j1) [] [] (by simpa using hl) hd
  refine ⟨(h ++ j1).length, j1, j', by simp, ?_⟩
  show (mi γ >>= _) h = _
  rw [M.bind_ok e1]
  rw [M.bind_ok (m := (fun h => Res.ok (List.length h) (h ++ [O.lst []]) : M Nat)) (h := h ++ j1) rfl]
  have e' : compR (.con items) g k me (h ++ j1).length (capG cap γ) (Src.con items).items (h ++ j1 ++ [.lst []]) = .ok () (h ++ j1 ++ .lst (((items.filter p).map f)) :: j') := by simpa [Src.items] using e
  rw [M.bind_ok e']
  rfl
theorem all_pu {cap : List (Option Nat)} {mi : G → M Src} {g : D → G → M G} {me : G → M D} {γ : G} {items : List D} (f : D → Bool) (hi : Pu (mi γ) (.con items)) (hl : items.length ≤ 1000000)
    (hd : ∀ d ∈ items, ∃ γ1, (∀ h, g d (capG cap γ) h = .ok γ1 h) ∧ Pu (me γ1) (.bl (f d))) : Pu (eCall (fAll false) (aCons (eComp cap mi g (fun _ => Pure.pure true) me) aNil) γ) (.bl (items.all f)) := fun h => by
  obtain ⟨i, j1, j2, hi', e⟩ := comp_pu (cap := cap) (k := fun _ => Pure.pure true) (fun _ => true) (fun d => .bl (f d)) hi hl (fun d hm => let ⟨γ1, q1, q2⟩ := hd d hm; ⟨γ1, q1, Pu.pure _, fun _ => q2⟩) h
  refine ⟨j1 ++ .lst (((items.filter fun _ => true).map fun d => .bl (f d))) :: j2, ?_⟩
  have bl : ∀ xs : List D, blsD (xs.map fun d => .bl (f d)) = some (xs.map f) := fun xs => by
    induction xs with
    | nil => rfl
    | cons x r ih => simp [blsD, ih]
  have hg : (h ++ j1 ++ O.lst ((items.filter fun _ => true).map fun d => .bl (f d)) :: j2)[i]? = some (.lst ((items.filter fun _ => true).map fun d => .bl (f d))) := by
    subst hi'
    rw [show h.length + j1.length = (h ++ j1).length by simp]
    simp
  have ha : aCons (eComp cap mi g (fun _ => Pure.pure true) me) aNil γ h = .ok [.ref i] (h ++ j1 ++ .lst ((items.filter fun _ => true).map fun d => .bl (f d)) :: j2) := by
    show (eComp cap mi g (fun _ => Pure.pure true) me γ >>= _) h = _
    rw [M.bind_ok e]; rfl
  show (aCons (eComp cap mi g (fun _ => Pure.pure true) me) aNil γ >>= _) h = _
  rw [M.bind_ok ha]
  unfold fAll getL
  simp only [bindM]
  rw [hg]
  dsimp only
  rw [bl]
  simp [Function.comp_def]
end FT
set_option Elab.async false
set_option linter.all false
set_option maxRecDepth 100000
/-! A set's table: its places rise. -/
namespace FT
open PySem PySem.Spec PyProof.Rows L2
theorem Rise.lt {xs : Array Nat} (h : Rise xs) {i j a b : Nat} (ha : xs[i]? = some a) (hb : xs[j]? = some b) (hij : i < j) : a < b := by
  obtain ⟨h1, e1⟩ := Array.getElem?_eq_some_iff.mp ha
  obtain ⟨h2, e2⟩ := Array.getElem?_eq_some_iff.mp hb
  have := List.pairwise_iff_getElem.mp h i j (by simpa using h1) (by simpa using h2) hij
  simp only [Array.getElem_toList] at this
  rw [e1, e2] at this
  exact this
theorem below_go {xs : Array Nat} (h : Rise xs) (j : Nat) : ∀ (fuel lo hi : Nat), hi - lo ≤ fuel → lo ≤ hi → hi ≤ xs.size → (∀ (i : Nat) a, i < lo → xs[i]? = some a → a < j) → (∀ (i : Nat) a, hi ≤ i → xs[i]? = some a → j ≤ a) →
    (SetTable.below.go xs j fuel lo hi) ≤ xs.size ∧ (∀ (i : Nat) a, i < SetTable.below.go xs j fuel lo hi → xs[i]? = some a → a < j) ∧ ∀ (i : Nat) a, SetTable.below.go xs j fuel lo hi ≤ i → xs[i]? = some a → j ≤ a
  | 0, lo, hi, hf, hl, hs, h1, h2 => by
    have : hi = lo := by omega
    subst this
    exact ⟨by simp only [SetTable.below.go]; omega, by simpa only [SetTable.below.go] using h1, by simpa only [SetTable.below.go] using h2⟩
  | fuel + 1, lo, hi, hf, hl, hs, h1, h2 => by
    rw [SetTable.below.go]
    split
    · rename_i hlt
      have hm : (lo + hi) / 2 < xs.size := by omega
      have e : xs[(lo + hi) / 2]? = some xs[(lo + hi) / 2] := Array.getElem?_eq_getElem hm
      have ed : xs.getD ((lo + hi) / 2) j = xs[(lo + hi) / 2] := by rw [Array.getD_eq_getD_getElem?, e]; rfl
      dsimp only
      rw [ed]
      split
      · rename_i q
        refine below_go h j fuel _ hi (by omega) (by omega) hs (fun i a hi' ha => ?_) h2
        by_cases z : i = (lo + hi) / 2
        · subst z; rw [e] at ha; cases ha; exact q
        · exact Nat.lt_trans (h.lt ha e (by omega)) q
      · rename_i q
        refine below_go h j fuel lo _ (by omega) (by omega) (by omega) h1 (fun i a hi' ha => ?_)
        by_cases z : i = (lo + hi) / 2
        · subst z; rw [e] at ha; cases ha; omega
        · have := h.lt e ha (by omega); omega
    · exact ⟨by omega, h1, fun i a hi' ha => h2 i a (by omega) ha⟩
theorem below_spec {xs : Array Nat} (h : Rise xs) (j : Nat) : SetTable.below xs j ≤ xs.size ∧ (∀ (i : Nat) a, i < SetTable.below xs j → xs[i]? = some a → a < j) ∧ ∀ (i : Nat) a, SetTable.below xs j ≤ i → xs[i]? = some a → j ≤ a := by
  unfold SetTable.below
  refine below_go h j xs.size 0 xs.size (by omega) (by omega) (by omega) (fun i a hi => by omega) (fun i a hi ha => ?_)
  have := (Array.getElem?_eq_some_iff.mp ha).1
  omega
theorem put_rise {t : SetTable} {j : Nat} (h : Rise t.place) (hj : t.place[SetTable.below t.place j]? ≠ some j) : Rise (t.put j).1.place := by
  obtain ⟨b1, b2, b3⟩ := below_spec h j
  show (SetTable.insertAt t.place (SetTable.below t.place j) j).toList.Pairwise _
  rw [SetTable.toList_insertAt]
  have tk : ∀ a ∈ t.place.toList.take (SetTable.below t.place j), a < j := fun a ha => by
    obtain ⟨i, hi, e⟩ := List.getElem_of_mem ha
    rw [List.getElem_take] at e
    have hi2 : i < SetTable.below t.place j := by
      rw [List.length_take] at hi; omega
    have hi3 : i < t.place.size := by omega
    exact b2 i a hi2 (by rw [Array.getElem?_eq_getElem hi3]; simpa using e)
  have dr : ∀ a ∈ t.place.toList.drop (SetTable.below t.place j), j < a := fun a ha => by
    obtain ⟨i, hi, e⟩ := List.getElem_of_mem ha
    rw [List.getElem_drop] at e
    have hi3 : SetTable.below t.place j + i < t.place.size := by
      rw [List.length_drop] at hi; simp at hi; omega
    have e2 : t.place[SetTable.below t.place j + i]? = some a := by rw [Array.getElem?_eq_getElem hi3]; simpa using e
    have := b3 _ a (by omega) e2
    by_cases q : a = j
    · subst q
      cases i with
      | zero => exact absurd e2 hj
      | succ i =>
        have hlt : SetTable.below t.place a < t.place.size := by omega
        have e3 : t.place[SetTable.below t.place a]? = some t.place[SetTable.below t.place a] := Array.getElem?_eq_getElem hlt
        have a1 := b3 _ _ (Nat.le_refl _) e3
        have a2 := h.lt e3 e2 (by omega)
        omega
    · omega
  have p1 := List.Pairwise.take (i := SetTable.below t.place j) h
  have p2 := List.Pairwise.drop (i := SetTable.below t.place j) h
  simp only [List.pairwise_append, List.pairwise_cons]
  first
    | (refine ⟨p1, ⟨dr, p2⟩, fun a ha b hb => ?_⟩
       rcases List.mem_cons.mp hb with rfl | hb
       · exact tk a ha
       · exact Nat.lt_trans (tk a ha) (dr b hb))
    | skip
theorem slot_not {t : SetTable} {j : Nat} (h : ∀ i, t.slot j ≠ .live i) : t.place[SetTable.below t.place j]? ≠ some j := fun e => by
  refine h (SetTable.below t.place j) ?_
  unfold SetTable.slot
  dsimp only
  rw [e, if_pos (by simp)]
theorem probe_go {t : SetTable} {ha : Nat → Int} {hx : Int} : ∀ (fuel : Nat) (p : SetTable.Probe) (j : Nat) (dm : Option Nat), (∀ d, p.dummy = some d → t.slot d = .dummy) → SetTable.probe.go t ha hx fuel p = some (.empty j dm) → t.slot j = .empty ∧ ∀ d, dm = some d → t.slot d = .dummy
  | 0, p, j, dm, hd, e => by simp [SetTable.probe.go] at e
  | fuel + 1, p, j, dm, hd, e => by
    rw [SetTable.probe.go] at e
    have adv : ∀ q : SetTable.Probe, (t.advance q).dummy = q.dummy := fun q => by
      unfold SetTable.advance
      split <;> rfl
    split at e
    · rename_i hs
      cases e
      exact ⟨hs, hd⟩
    · rename_i hs
      refine probe_go fuel _ j dm (fun d z => ?_) e
      rw [adv] at z
      cases z
      exact hs
    · split at e
      · cases e
      · refine probe_go fuel _ j dm (fun d z => ?_) e
        rw [adv] at z
        exact hd d z
theorem free_not {t : SetTable} {hx : Int} {j : Nat} {b : Bool} (e : t.freeSlot hx = some (j, b)) : t.place[SetTable.below t.place j]? ≠ some j := by
  unfold SetTable.freeSlot SetTable.probe at e
  split at e
  · rename_i j' dm hp
    obtain ⟨s1, s2⟩ := probe_go _ _ j' dm (fun d z => by simp [SetTable.probeStart] at z) hp
    cases dm with
    | none => cases e; exact slot_not (fun i z => by rw [show t.slot (none.getD j') = _ from s1] at z; cases z)
    | some d => cases e; exact slot_not (fun i z => by rw [show t.slot ((some d).getD j') = _ from s2 d rfl] at z; cases z)
  · cases e
theorem range_rise (n : Nat) : Rise (Array.range n) := by
  show (Array.range n).toList.Pairwise _
  rw [Array.toList_range]
  exact List.pairwise_lt_range
theorem layNew_rise {t : SetTable} {es : Array (Int × Value)} {hx : Int} {x : Value} (h : Rise t.place) : Rise (layNew t es hx x).2.1.place ∧ (layNew t es hx x).2.1.led = t.led := by
  unfold layNew
  split
  · rename_i sl wd e
    dsimp only
    unfold SetTable.orStandIn
    split
    · exact ⟨put_rise h (free_not e), rfl⟩
    · exact ⟨range_rise _, rfl⟩
  · exact ⟨range_rise _, rfl⟩
theorem laid_rise {mask finger moves : Nat} {led plain : Bool} {hs : Array Int} {t : SetTable} {o : Array Nat} (e : SetTable.laid mask finger moves led plain hs = some (t, o)) : Rise t.place ∧ t.led = led := by
  unfold SetTable.laid at e
  cases hl : SetTable.layClean mask hs with
  | none => rw [hl] at e; cases e
  | some ow =>
    rw [hl] at e
    cases e
    refine ⟨?_, rfl⟩
    unfold Rise
    dsimp only
    rw [List.pairwise_map, List.pairwise_filterMap]
    refine List.pairwise_lt_range.imp fun {a b} hab c hc d hd => ?_
    cases h1 : ow.getD a none with
    | none => rw [h1] at hc; cases hc
    | some u =>
      cases h2 : ow.getD b none with
      | none => rw [h2] at hd; cases hd
      | some v =>
        rw [h1] at hc; rw [h2] at hd
        cases hc; cases hd
        exact hab
theorem relay_rise {t : SetTable} {es : Array (Int × Value)} {n : Nat} : Rise (relayAll t es n).2.1.place ∧ (relayAll t es n).2.1.led = t.led := by
  unfold relayAll
  split
  · rename_i t' o e
    obtain ⟨r1, r2⟩ := laid_rise e
    dsimp only
    split
    · exact ⟨r1, r2⟩
    · exact ⟨range_rise _, rfl⟩
  · exact ⟨range_rise _, rfl⟩
end FT
set_option Elab.async false
set_option linter.all false
set_option maxRecDepth 100000
/-! Sets of numbers and texts on the heap. -/
namespace FT
open PySem PySem.Spec PyProof.Rows L2
section
variable {P : Program} {w : World}
theorem paired_perm {α β : Type} {R : α → β → Prop} {l' l : List β} (p : l'.Perm l) : ∀ {ks : List α}, Paired R ks l → ∃ ks', ks'.Perm ks ∧ Paired R ks' l' := by
  induction p with
  | nil => intro ks h; exact ⟨ks, .refl _, h⟩
  | cons x _ ih =>
    intro ks h
    cases h with
    | cons a b =>
      obtain ⟨ks', q1, q2⟩ := ih b
      exact ⟨_ :: ks', .cons _ q1, .cons a q2⟩
  | swap x y l =>
    intro ks h
    cases h with
    | cons a b =>
      cases b with
      | cons c d => exact ⟨_ :: _ :: _, .swap _ _ _, .cons c (.cons a d)⟩
  | trans _ _ ih1 ih2 =>
    intro ks h
    obtain ⟨k1, a1, a2⟩ := ih2 h
    obtain ⟨k2, b1, b2⟩ := ih1 a2
    exact ⟨k2, b1.trans a1, b2⟩
theorem paired_snoc {α β : Type} {R : α → β → Prop} : ∀ {ks : List α} {l : List β} {k : α} {x : β}, Paired R ks l → R k x → Paired R (ks ++ [k]) (l ++ [x])
  | _, _, _, _, .nil, h => .cons h .nil
  | _, _, _, _, .cons a b, h => .cons a (paired_snoc b h)
theorem paired_mem {α β : Type} {R : α → β → Prop} : ∀ {ks : List α} {l : List β} {x : β}, Paired R ks l → x ∈ l → ∃ k ∈ ks, R k x
  | _, _, _, .cons a b, h => by
    rcases List.mem_cons.mp h with rfl | h
    · exact ⟨_, List.mem_cons_self, a⟩
    · obtain ⟨k, h1, h2⟩ := paired_mem b h; exact ⟨k, List.mem_cons_of_mem _ h1, h2⟩
theorem paired_memL {α β : Type} {R : α → β → Prop} : ∀ {ks : List α} {l : List β} {k : α}, Paired R ks l → k ∈ ks → ∃ x ∈ l, R k x
  | _, _, _, .cons a b, h => by
    rcases List.mem_cons.mp h with rfl | h
    · exact ⟨_, List.mem_cons_self, a⟩
    · obtain ⟨k, h1, h2⟩ := paired_memL b h; exact ⟨k, List.mem_cons_of_mem _ h1, h2⟩
theorem key_scan {k : Key} {v : Value} (h : keyIs k v = true) : v.scannable = true := by
  rcases keyIs_shape h with ⟨i, t, rfl, rfl⟩ | ⟨x, t, rfl, rfl⟩ <;> rfl
theorem elems_of {ks : List Key} {l : List (Int × Value)} (h : Paired (KE w) ks l) : ElemsOf (mixKind P w) l := fun e he => by
  obtain ⟨k, _, h1, h2⟩ := paired_mem h he
  exact ⟨⟨k, h1, h2⟩, key_scan h1⟩
theorem key_inj {k k' : Key} {v : Value} (h : keyIs k v = true) (h' : keyIs k' v = true) : k = k' := by
  rcases keyIs_shape h with ⟨i, t, rfl, rfl⟩ | ⟨x, t, rfl, rfl⟩
  · rcases keyIs_shape h' with ⟨j, u, rfl, e⟩ | ⟨y, u, rfl, e⟩
    · cases e; rfl
    · cases e
  · rcases keyIs_shape h' with ⟨j, u, rfl, e⟩ | ⟨y, u, rfl, e⟩
    · cases e
    · cases e; rfl
theorem mem_of {ks : List Key} {l : List (Int × Value)} (h : Paired (KE w) ks l) (k : Key) : k ∈ ks ↔ ∃ e ∈ l, keyIs k e.2 = true := by
  constructor
  · intro hk
    obtain ⟨e, h1, h2, _⟩ := paired_memL h hk
    exact ⟨e, h1, h2⟩
  · rintro ⟨e, h1, h2⟩
    obtain ⟨k', h3, h4, _⟩ := paired_mem h h1
    exact key_inj h2 h4 ▸ h3
theorem SetAt.setOf {h : Heap} {a : Addr} {ks : List Key} (x : SetAt w h a ks) : h.SetOf (mixKind P w) a (fun k => decide (k ∈ ks)) ks.length := by
  obtain ⟨o, es, ep, t, ks', h1, h2, h3, h4, h5, h6, h7, h8, h9, _⟩ := x
  refine ⟨o, es, ep, t, h1, h2, h3, elems_of h4, fun k => ?_, h7, h8, ?_⟩
  · rw [decide_eq_true_eq, ← h5.mem_iff]
    exact mem_of h4 k
  · rw [← h5.length_eq, Paired.length h4, Array.length_toList]
theorem SetAt.stay {h h' : Heap} {a : Addr} {ks : List Key} (x : SetAt w h a ks) (k : ∀ o, h.get? a = some o → h'.get? a = some o) : SetAt w h' a ks := by
  obtain ⟨o, es, ep, t, ks', h1, h2⟩ := x
  exact ⟨o, es, ep, t, ks', k o h1, h2⟩
theorem setAt_new {h : Heap} {led : Bool} (hl : led = true ∨ w.params.followText "set-order" = true) : SetAt w (h.push { cls := .type "set", dict := none, data := .set #[] 0 (.fresh 0 0 led) }) h.objs.size [] :=
  ⟨_, #[], 0, _, [], Heap.get?_push_size _ rfl, ⟨rfl, rfl, rfl⟩, rfl, .nil, .refl _, List.nodup_nil, by decide, by rfl, by show ([] : List Nat).Pairwise _; exact .nil, hl⟩
variable {A : Around} {E : Value → Shared → Prop} {s : Shared} {a : Addr}
theorem store_at {ks : List Key} {o : Obj} {es es' : Array (Int × Value)} {ep : Nat} {t t' : SetTable} {ks' : List Key} {h : Heap} (ho : h.get? a = some o) (hex : o.ExactSet) (hd : o.data = .set es ep t) (h4 : Paired (KE w) ks' es'.toList) (h5 : ks'.Perm ks) (h6 : ks.Nodup)
    (hb : es'.size < scanBound) (hf : t'.fits es'.size = true) (hr : Rise t'.place) (hl : t'.led = true ∨ w.params.followText "set-order" = true) :
    SetAt w (h.update a (Obj.putSet es' t')) a ks ∧ ∃ o', (h.update a (Obj.putSet es' t')).get? a = some o' ∧ o'.ExactSet ∧ o'.data = .set es' (ep + 1) t' := by
  have g : (h.update a (Obj.putSet es' t')).get? a = some { o with data := .set es' (ep + 1) t' } := by
    have := Heap.get?_update_self (Obj.putSet es' t') ho (by rw [putSet_of es' t' hd]; rfl)
    rw [putSet_of es' t' hd] at this; exact this
  exact ⟨⟨_, es', ep + 1, t', ks', g, hex, rfl, h4, h5, h6, hb, hf, hr, hl⟩, _, g, hex, rfl⟩
theorem tail_at {ks ks1 : List Key} {o : Obj} {es es1 : Array (Int × Value)} {ep : Nat} {t t2 : SetTable} {wd : Bool} {gw : Bool → Sem Unit} {R : Option Bool → Shared → Prop} (hG : ∀ (g : Bool) (s1 : Shared) (Z : Unit → Shared → Prop), Z () s1 → wpAny (model P w) A (gw g) Z E s1)
    (ho : s.heap.get? a = some o) (hex : o.ExactSet) (hd : o.data = .set es ep t) (h4 : Paired (KE w) ks1 es1.toList) (h5 : ks1.Perm ks) (h6 : ks.Nodup) (hb : es1.size < scanBound) (hf : t2.fits es1.size = true) (hr : Rise t2.place) (hl : t2.led = true ∨ w.params.followText "set-order" = true)
    (h : ∀ h', Heap.SameBut a s.heap h' → SetAt w h' a ks → R (some true) { s with heap := h' }) :
    wpAny (model P w) A (storeSet a es1 t2 >>= fun _ => if (!wd && t2.tooFull) = true then (gw (relayAll t2 es1 (SetTable.grown es1.size)).2.2 >>= fun _ => storeSet a (relayAll t2 es1 (SetTable.grown es1.size)).1 (relayAll t2 es1 (SetTable.grown es1.size)).2.1 >>= fun _ => pure (some true)) else pure (some true)) R E s := by
  obtain ⟨S1, o1, g1, x1, d1⟩ := store_at (h := s.heap) (t' := t2) ho hex hd h4 h5 h6 hb hf hr hl
  have sb := Heap.SameBut.update s.heap a (Obj.putSet es1 t2)
  refine wpAny_bind (wpAny_storeSet_of ho hd ?_ (fits_of_scanBound hb))
  split
  · have rp := relayAll_perm t2 es1 (SetTable.grown es1.size)
    have rf := relayAll_fits t2 es1 (SetTable.grown es1.size)
    have rr := relay_rise (t := t2) (es := es1) (n := SetTable.grown es1.size)
    obtain ⟨ks2, p1, p2⟩ := paired_perm rp h4
    have sz : (relayAll t2 es1 (SetTable.grown es1.size)).1.size = es1.size := by rw [← Array.length_toList, rp.length_eq, Array.length_toList]
    have b2 : (relayAll t2 es1 (SetTable.grown es1.size)).1.size < scanBound := by rw [sz]; exact hb
    refine wpAny_bind (hG _ _ _ (wpAny_bind (wpAny_storeSet_of g1 d1 (wpAny_pure ?_) (fits_of_scanBound b2))))
    obtain ⟨S2, _⟩ := store_at (h := s.heap.update a (Obj.putSet es1 t2)) (t' := (relayAll t2 es1 (SetTable.grown es1.size)).2.1) g1 x1 d1 p2 (p1.trans h5) h6 b2 rf rr.1 (by rw [rr.2]; exact hl)
    exact h _ (sb.trans (Heap.SameBut.update _ a _)) S2
  · exact wpAny_pure (h _ sb S1)
theorem add_at {ks : List Key} {k : Key} {x : Value} {Q : Bool → Shared → Prop} (hk : keyIs k x = true) (hS : SetAt w s.heap a ks) (hroom : ks.length + 1 < scanBound)
    (h : ∀ h' b, Heap.SameBut a s.heap h' → SetAt w h' a (if k ∈ ks then ks else ks ++ [k]) → Q b { s with heap := h' }) :
    wpAny (model P w) A (setAddHashed a x (keyH w k)) Q E s := by
  obtain ⟨o, es, ep, t, ks', ho, hex, hd, h4, h5, h6, h7, h8, h9, h0⟩ := hS
  have el := elems_of (P := P) h4
  have sc := key_scan hk
  have hn : es.size = ks.length := by rw [← h5.length_eq, Paired.length h4, Array.length_toList]
  unfold setAddHashed setAddHashedIn
  refine wpAny_holding (wpAny_bind (wpAny_setState_of ho hd h8 ?_))
  dsimp only
  rw [byScan_of sc h7 el, if_pos rfl]
  unfold setAddByScan
  refine wpAny_bind (wpAny_bind (wpAny_rule (wpAny_bind (wpAny_setScan_of (knd := mixKind P w) (k := k) hk ho hd h8 el ?_))))
  cases hr : List.findIdx? (fun e => (mixKind P w).is k e.2) es.toList with
  | some j =>
    dsimp only
    obtain ⟨hj, hp, _⟩ := List.findIdx?_eq_some_iff_getElem.mp hr
    have hm : k ∈ ks := h5.mem_iff.mp ((mem_of h4 k).mpr ⟨_, List.getElem_mem hj, hp⟩)
    have := h s.heap false (Heap.SameBut.refl a s.heap) (by rw [if_pos hm]; exact ⟨o, es, ep, t, ks', ho, hex, hd, h4, h5, h6, h7, h8, h9, h0⟩)
    exact wpAny_pure (wpAny_pure this)
  | none =>
    dsimp only
    have hm : k ∉ ks := fun z => by
      obtain ⟨e, he, hp⟩ := (mem_of h4 k).mp (h5.mem_iff.mpr z)
      have := List.findIdx?_eq_none_iff.mp hr e he
      rw [show (mixKind P w).is k e.2 = true from hp] at this
      cases this
    rw [if_neg hm] at h
    have np := layNew_perm t es (keyH w k) x
    have nf := layNew_fits t es (keyH w k) x
    have nr := layNew_rise (t := t) (es := es) (hx := keyH w k) (x := x) h9
    have hG : ∀ (g : Bool) (s1 : Shared) (R : Unit → Shared → Prop), R () s1 → wpAny (model P w) A (match g with | true => rule "set.scan.the-table-gave-way" | false => pure ()) R E s1 :=
      fun g s1 R q => by cases g <;> first | exact wpAny_pure q | exact wpAny_rule q
    generalize hL : layNew t es (keyH w k) x = L at np nf nr ⊢
    obtain ⟨es1, t1, wd, gv⟩ := L
    dsimp only at np nf nr ⊢
    rw [Array.toList_push] at np
    obtain ⟨ks1, p1, p2⟩ := paired_perm np (paired_snoc h4 (show KE w k (keyH w k, x) from ⟨hk, rfl⟩))
    have nd : (ks ++ [k]).Nodup := by
      rw [List.nodup_append]
      exact ⟨h6, by simp, fun u hu v hv => by simp at hv; subst hv; exact fun z => hm (z ▸ hu)⟩
    have b1 : es1.size < scanBound := by
      rw [← Array.length_toList, np.length_eq, List.length_append, Array.length_toList]
      simpa [hn] using hroom
    have p3 : ks1.Perm (ks ++ [k]) := p1.trans (h5.append_right [k])
    have l1 : t1.led = true ∨ w.params.followText "set-order" = true := by rw [nr.2]; exact h0
    refine wpAny_bind (hG _ _ _ ?_)
    split
    · rw [hashByValue_scannable 8 sc]
      refine wpAny_bind (wpAny_pure ?_)
      refine tail_at (t2 := if plainKind x = true then t1 else { t1 with plain := false }) hG ho hex hd p2 p3 nd b1 ?_ ?_ ?_ fun h' sb S => wpAny_pure (h h' true sb S)
      · split
        · exact nf
        · exact SetTable.fits_plain_off nf
      · split
        · exact nr.1
        · exact nr.1
      · split
        · exact l1
        · exact l1
    · refine wpAny_bind (wpAny_pure ?_)
      simp only [if_pos]
      exact tail_at hG ho hex hd p2 p3 nd b1 nf nr.1 l1 fun h' sb S => wpAny_pure (h h' true sb S)
end
end FT
set_option Elab.async false
set_option linter.all false
set_option maxRecDepth 100000
namespace FT
open PySem PySem.Spec PyProof.Rows L2
/-- keys, each once, as they first come -/
def putK (acc : List Key) (k : Key) : List Key := if k ∈ acc then acc else acc ++ [k]
def dedK (ks : List Key) : List Key := ks.foldl putK []
theorem putK_len (acc : List Key) (k : Key) : (putK acc k).length ≤ acc.length + 1 := by
  unfold putK
  split
  · omega
  · simp
theorem foldK_len : ∀ (ks acc : List Key), (ks.foldl putK acc).length ≤ acc.length + ks.length
  | [], acc => by simp
  | k :: ks, acc => by
    have h1 := foldK_len ks (putK acc k)
    have h2 := putK_len acc k
    simp only [List.foldl_cons, List.length_cons]
    omega
theorem dedK_len (ks : List Key) : (dedK ks).length ≤ ks.length := by
  have := foldK_len ks []
  simpa [dedK] using this
theorem dedK_snoc (ks : List Key) (k : Key) : dedK (ks ++ [k]) = putK (dedK ks) k := by
  unfold dedK
  rw [List.foldl_append]
  rfl
section
variable {P : Program} {w : World} {A : Around} {E : Value → Shared → Prop} {s : Shared} {a : Addr}
theorem SetAt.typeIs {ks : List Key} (x : SetAt w s.heap a ks) : s.TypeIs (.ref a) "set" := (x.setOf (P := default)).typeIs
theorem setAdd_at {ks : List Key} {k : Key} {x : Value} {Q : Bool → Shared → Prop} (hk : keyIs k x = true) (hS : SetAt w s.heap a ks) (hroom : ks.length + 1 < scanBound)
    (h : ∀ h' b, Heap.SameBut a s.heap h' → SetAt w h' a (putK ks k) → Q b { s with heap := h', toks := s.toks + 1 }) : wpAny (model P w) A (setAdd a x) Q E s := by
  unfold setAdd
  refine wpAny_holding (wpAny_bind ((mixKind P w).pyHash (k := k) hk ?_))
  exact add_at (s := { s with toks := s.toks + 1 }) hk hS hroom fun h' b sb S => h h' b sb S
end
section
variable {P : Program} {w : World} {A : Around} {R : Result → Shared → Prop} {I : Addr} {fp wr : List Addr} {G : Array GenState → Array GenState → Prop} {n : Nat} {PV : Nat → Value → Prop} {St : Nat → Shared → Prop}
theorem update_at (W : WalksS P w A.in1 I fp wr G n PV St) (S : Addr) (hSf : S ∉ fp) (key : Nat → Key) (hv : ∀ i v, PV i v → keyIs (key i) v = true) (hb : n + 1 < scanBound) :
    ∀ (k i : Nat) (s : Shared), i + k = n → St i s → SetAt w s.heap S (dedK ((List.range i).map key)) →
      (∀ s', Moved (S :: wr) G s s' → SetAt w s'.heap S (dedK ((List.range n).map key)) → R (.ok (.ret .none)) s') →
      codeAny (model P w) A (.builtin "set.update.loop" ⟨[.ref S, .ref I], []⟩) R s := by
  have nw : S ∉ wr := fun h => hSf (W.sub _ h)
  have up : ∀ b ∈ wr, b ∈ S :: wr := fun b hb => List.mem_cons_of_mem _ hb
  intro k
  induction k with
  | zero =>
    intro i s hk st hS hR
    obtain rfl : i = n := by omega
    refine codeAny_builtin F.entry_set_update_loop ?_
    rw [Around.under_plainId F.plain_set_update_loop _]
    show wpAny _ A.in1 (pyNext (.ref I) >>= _) _ _ s
    refine wpAny_bind (W.done s _ _ st fun s' hm => ?_)
    show wpAny _ A.in1 (ret Value.none) _ _ s'
    exact wpAny_pure (hR s' (hm.mono up) (hS.stay fun o e => hm.heap S o nw e))
  | succ k ih =>
    intro i s hk st hS hR
    refine codeAny_builtin F.entry_set_update_loop ?_
    rw [Around.under_plainId F.plain_set_update_loop _]
    show wpAny _ A.in1 (pyNext (.ref I) >>= _) _ _ s
    refine wpAny_bind (W.item i s _ _ (by omega) st fun v s' hP st' hm => ?_)
    show wpAny _ A.in1 (holding [v] (setAdd S v) >>= _) _ _ s'
    have room : (dedK ((List.range i).map key)).length + 1 < scanBound := by
      have := dedK_len ((List.range i).map key)
      rw [List.length_map, List.length_range] at this
      omega
    refine wpAny_bind (wpAny_holding (setAdd_at (hv i v hP) (hS.stay fun o e => hm.heap S o nw e) room fun h' b sb S2 => ?_))
    have nx : dedK ((List.range (i + 1)).map key) = putK (dedK ((List.range i).map key)) (key i) := by
      rw [List.range_succ, List.map_append]
      exact dedK_snoc _ _
    refine wpAny_pure ⟨plainId_quiet F.plain_set_update_loop _, ih (i + 1) _ (by omega) (W.frame _ s' _ _ st' (Nat.le_succ _) fun b hb o e => ?_) (by rw [nx]; exact S2) fun s'' hm'' S3 => ?_⟩
    · rw [sb.2 b (fun z : b = S => hSf (z ▸ hb))]; exact e
    · refine hR s'' (Moved.trans W.gtrans ((hm.mono up).then_heap (Nat.le_succ _) fun b o hb e => ?_) hm'') S3
      rw [sb.2 b (fun z : b = S => hb (by rw [z]; exact List.mem_cons_self))]; exact e
end
end FT
set_option Elab.async false
set_option linter.all false
set_option maxRecDepth 100000
set_option maxHeartbeats 3200000
namespace FT
open PySem PySem.Spec PyProof.Rows L2
theorem tup_no_set : isSubtype (.type "tuple") (.type "set") = pure false := by rw [isSubtype_type]; kernel_rfl
theorem tup_no_fset : isSubtype (.type "tuple") (.type "frozenset") = pure false := by rw [isSubtype_type]; kernel_rfl
/-- a new set, as it lies -/
abbrev freshS (w : World) : Obj := { cls := .type "set", dict := none, data := .set #[] 0 (.fresh 0 0 (!w.params.followText "set-order")) }
theorem led_ok (w : World) : (!w.params.followText "set-order") = true ∨ w.params.followText "set-order" = true := by
  cases w.params.followText "set-order" <;> simp
section
variable {P : Program} {w : World} {A : Around} {E : Value → Shared → Prop} {s : Shared}
theorem fresh_at {h : Heap} : SetAt w (h.push (freshS w)) h.objs.size [] := setAt_new (led_ok w)
theorem newCode (a : Value) {Q : Value → Shared → Prop} (h : Q (.ref s.heap.objs.size) { s with heap := s.heap.push (freshS w) }) :
    codeAny (model P w) A (.call (.builtin "set.__new__") ⟨[.type "set", a], []⟩) (wants Q E) s := by
  refine codeAny_of_tree (show wpAny _ A.in1 (do checkBuiltinCall "set.__new__" ⟨[.type "set", a], []⟩; again (.builtin "set.__new__" ⟨[.type "set", a], []⟩)) _ _ s from ?_)
  refine wpAny_bind (wpAny_of_eq (F.newCall_set_1 a) (wpAny_pure ⟨plainId_quiet F.plain_set_new _, codeAny_builtin F.entry_set_new ?_⟩))
  rw [Around.under_plainId F.plain_set_new _]
  unfold Builtin.«set.__new__» Builtin.Frozenset.newClass
  have hz := sub_set_self
  obtain ⟨hp, g, d, tk, os⟩ := s
  dsimp only
  wp_walk
  refine wpAny_askSetting (wpAny_pure ?_)
  dsimp only
  simp only [newObj]
  refine wpAny_bind (wpAny_alloc (wpAny_pure ?_))
  exact wpAny_pure h
/-- set(l) of a list or a tuple -/
theorem call_setT {T : String} {l : Addr} {items : Array Value} {key : Nat → Key} {Q : Value → Shared → Prop} (hT : T = "list" ∨ T = "tuple") (hh : A.handled = none) (hl : ∃ o, s.heap.get? l = some o ∧ o.cls = .type T ∧ ∃ n, o.data = .seq items n)
    (hv : ∀ (i : Nat) v, items[i]? = some v → keyIs (key i) v = true) (hb : items.size + 1 < scanBound)
    (h : ∀ h' tk, SetAt w h' s.heap.objs.size (dedK ((List.range items.size).map key)) → (∀ b o, s.heap.get? b = some o → h'.get? b = some o) → Q (.ref s.heap.objs.size) { s with heap := h', toks := tk }) :
    wpAny (model P w) A (call (.type "set") [.ref l]) Q E s := by
  obtain ⟨c, tl, hmro⟩ := F.called_set.mro
  have z1 := F.called_set.made
  have z2 := F.called_set.sub
  have z3 := F.called_set.notType
  have z4 := F.called_set.canCreate
  have z5 := F.typeCall_set_1 (.ref l)
  obtain ⟨ol, hol, hcl, nl, hdl⟩ := hl
  obtain ⟨ocls, odict, odata, oslots⟩ := ol
  simp only at hcl hdl
  subst hcl; subst hdl
  refine wpAny_call (codeAny_of_tree (show wpAny _ _ (callAny (.type "set") _) _ _ _ from ?_))
  refine wpAny_pure ⟨Code.quiet_builtin _ (by decide +kernel), codeAny_builtin F.entry_type_call ?_⟩
  rw [Around.under_plain (weight_type_call_type "set" [.ref l] []) rfl]
  repeat (any_goals (first | assumption | wp_step))
  refine codeAny_mono (newCode (.ref l) (E := E) (Q := fun obj s1 => obj = .ref s.heap.objs.size ∧ s1 = { s with heap := s.heap.push (freshS w) }) ⟨rfl, rfl⟩) fun r s1 hr => ?_
  cases r with
  | error e => exact hr
  | ok fl =>
    cases fl with
    | next => exact hr.elim
    | brk => exact hr.elim
    | cont => exact hr.elim
    | ret obj =>
      obtain ⟨rfl, rfl⟩ := hr
      have gS : (s.heap.push (freshS w)).get? s.heap.objs.size = some (freshS w) := Heap.get?_push_size _ rfl
      have tS : Shared.TypeIs { s with heap := s.heap.push (freshS w) } (.ref s.heap.objs.size) "set" := ⟨_, gS, rfl⟩
      have y1 := F.called_set.init.lookup
      have y2 := F.called_set.init.bind (.ref s.heap.objs.size)
      repeat (any_goals (first | assumption | wp_step))
      refine codeAny_mono (codeAny_call_builtin (R := wants (fun r s2 => r = .none ∧ ∃ h' tk, s2 = { s with heap := h', toks := tk } ∧ SetAt w h' s.heap.objs.size (dedK ((List.range items.size).map key)) ∧ ∀ b o, s.heap.get? b = some o → h'.get? b = some o) E) F.called_set.init.plain F.entry_set_init (check_set_init_1 tS ?_)) fun r2 s2 hr2 => ?_
      · have gl : (s.heap.push (freshS w)).get? l = some { cls := .type T, dict := odict, data := .seq items nl, slots := oslots } := Heap.get?_push_of_some _ hol
        have hll : l < s.heap.objs.size := Heap.lt_size hol
        have h3 : A.in1.in1.in1.handled = none := by simp [hh]
        have neI : l ≠ (s.heap.push (freshS w)).objs.size := by rw [Heap.size_push]; exact Nat.ne_of_lt (Nat.lt_succ_of_lt hll)
        have nf : s.heap.objs.size ∉ [(s.heap.push (freshS w)).objs.size, l] := by
          rw [Heap.size_push]
          simp only [List.mem_cons, List.mem_singleton, List.not_mem_nil, or_false, not_or]
          exact ⟨Nat.ne_of_lt (Nat.lt_succ_self _), Nat.ne_of_gt hll⟩
        have start : ∀ ob : Obj, SetAt w ((s.heap.push (freshS w)).push ob) s.heap.objs.size (dedK ((List.range 0).map key)) := fun ob => fresh_at.stay fun o e => Heap.get?_push_of_some _ e
        have fin : ∀ (ob : Obj) s', Moved [s.heap.objs.size, (s.heap.push (freshS w)).objs.size] (fun g g' => g' = g) { s with heap := (s.heap.push (freshS w)).push ob } s' → SetAt w s'.heap s.heap.objs.size (dedK ((List.range items.size).map key)) →
            ∃ h' tk, s' = { s with heap := h', toks := tk } ∧ SetAt w h' s.heap.objs.size (dedK ((List.range items.size).map key)) ∧ ∀ b o, s.heap.get? b = some o → h'.get? b = some o := fun ob s' hm S2 => by
          obtain ⟨h', g', d', tk', os'⟩ := s'
          have e1 : g' = s.gens := hm.gens
          have e2 : d' = s.drawn := hm.drawn
          have e3 : os' = s.os := hm.os
          subst e1; subst e2; subst e3
          refine ⟨h', tk', rfl, S2, fun b o e => hm.heap b o ?_ (Heap.get?_push_of_some _ (Heap.get?_push_of_some _ e))⟩
          have := Heap.lt_size e
          rw [Heap.size_push]
          simp only [List.mem_cons, List.mem_singleton, List.not_mem_nil, or_false, not_or]
          exact ⟨Nat.ne_of_lt this, Nat.ne_of_lt (Nat.lt_succ_of_lt this)⟩
        rcases hT with rfl | rfl
        · have x1 := F.sub_list_set
          have x2 := F.sub_list_frozenset
          have x3 : (Value.type "list" == Value.type "dict") = false := by decide
          have il : (s.heap.push (freshS w)).IsList l items := ⟨_, gl, rfl, nl, rfl⟩
          unfold Builtin.«set.__init__» noKeywords Builtin.Frozenset.updateFrom
          generalize hPI : pyIter = PI
          wp_walk
          subst hPI
          refine wpAny_pyIter_list il (wpAny_bind (wpAny_runValue ?_))
          refine update_at ((Walks.list h3 _ l neI items).toS) s.heap.objs.size nf key (fun i v e => hv i v e) hb items.size 0 _ (by omega) ⟨⟨_, Heap.get?_push_size _ rfl, rfl, rfl⟩, il.push _⟩ (start _) fun s' hm S2 => ?_
          obtain ⟨h', tk, rfl, q1, q2⟩ := fin _ s' hm S2
          exact wpAny_pure (show wpAny _ _ (ret Value.none) _ _ _ from wpAny_pure ⟨rfl, h', tk, rfl, q1, q2⟩)
        · have x1 := tup_no_set
          have x2 := tup_no_fset
          have x3 : (Value.type "tuple" == Value.type "dict") = false := by decide
          have il : (s.heap.push (freshS w)).IsTuple l items := ⟨_, gl, rfl, nl, rfl⟩
          unfold Builtin.«set.__init__» noKeywords Builtin.Frozenset.updateFrom
          generalize hPI : pyIter = PI
          wp_walk
          subst hPI
          refine wpAny_pyIter_tuple il (wpAny_bind (wpAny_runValue ?_))
          refine update_at ((Walks.tuple h3 _ l neI items).toS) s.heap.objs.size nf key (fun i v e => hv i v e) hb items.size 0 _ (by omega) ⟨⟨_, Heap.get?_push_size _ rfl, rfl, rfl⟩, ⟨_, Heap.get?_push_of_some _ gl, rfl, nl, rfl⟩⟩ (start _) fun s' hm S2 => ?_
          obtain ⟨h', tk, rfl, q1, q2⟩ := fin _ s' hm S2
          exact wpAny_pure (show wpAny _ _ (ret Value.none) _ _ _ from wpAny_pure ⟨rfl, h', tk, rfl, q1, q2⟩)
      · cases r2 with
        | error e => exact hr2
        | ok f2 =>
          cases f2 with
          | next => exact hr2.elim
          | brk => exact hr2.elim
          | cont => exact hr2.elim
          | ret r =>
            obtain ⟨rfl, h', tk, rfl, q1, q2⟩ := hr2
            repeat (any_goals (first | assumption | wp_step))
            exact h _ _ q1 q2
end
end FT
set_option Elab.async false
set_option linter.all false
set_option maxRecDepth 100000
set_option maxHeartbeats 1600000
/-! A walk over a set. -/
namespace FT
open PySem PySem.Spec PyProof.Rows L2
section
variable {P : Program} {w : World} {A : Around} {E : Value → Shared → Prop} {s : Shared}
end
end FT
set_option Elab.async false
set_option linter.all false
set_option maxRecDepth 100000
set_option maxHeartbeats 1600000
namespace FT
open PySem PySem.Spec PyProof.Rows L2
section
variable (w : World) (S : Addr) (es : Array (Int × Value)) (ep : Nat) (t : SetTable)
/-- how the walk stands at the i-th element of ord -/
inductive Stand (h : Heap) (i : Nat) : Value → List (Int × Value) → Prop where
  | txt (b : w.params.followText "set-order" = true) : Stand h i (rawInt 0) (pickOrder (w.params.setOrder S ep) es).toList
  | drw (T : Addr) (pl : List Nat) (b : w.params.followText "set-order" = false) (hT : ∃ o n, h.get? T = some o ∧ o.data = .seq (pl.map fun (j : Nat) => rawInt j).toArray n) (hp : pl.Perm (List.range es.size)) : Stand h i (.ref T) (pl.filterMap fun j => es[j]?)
  | slo (sl : Nat) (b : w.params.followText "set-order" = false) (c : (!t.plain && decide (es.size > 1)) = false) (l : t.led = true) (e : SetTable.below t.place sl = i) : Stand h i (rawInt sl) es.toList
end
section
variable {P : Program} {w : World} {A : Around} {E : Value → Shared → Prop} {s : Shared} {S I : Addr} {es : Array (Int × Value)} {ep : Nat} {t : SetTable} {i : Nat} {f : Value} {ord : List (Int × Value)} {o : Obj}
end
end FT
set_option Elab.async false
set_option linter.all false
set_option maxRecDepth 100000
set_option maxHeartbeats 1600000
namespace FT
open PySem PySem.Spec PyProof.Rows L2
section
variable {P : Program} {w : World} {A : Around} {E : Value → Shared → Prop} {s : Shared} {S : Addr} {es : Array (Int × Value)} {ep : Nat} {t : SetTable} {o : Obj}
end
end FT
set_option Elab.async false
set_option linter.all false
set_option maxRecDepth 100000
set_option maxHeartbeats 1600000
/-! Rules for sets. -/
namespace FT
open PySem PySem.Spec PyProof.Rows L2
theorem key_val {k : Key} {u : Value} (r : RelV (kV k) u) : keyIs k u = true := by
  cases k with
  | inl i => obtain ⟨t, rfl⟩ := r; exact keyIs_int i t
  | inr x => obtain ⟨t, rfl⟩ := r; exact keyIs_str x t
theorem keys_vals : ∀ {ks : List Key} {us : List Value}, Vals (ks.map kV) us → ∀ (i : Nat) u, us[i]? = some u → ∃ k, ks[i]? = some k ∧ keyIs k u = true
  | [], _, h, i, u, e => by cases h; simp at e
  | k :: ks, _, .cons h1 h2, 0, u, e => by simp at e; subst e; exact ⟨k, rfl, key_val h1⟩
  | k :: ks, _, .cons h1 h2, i + 1, u, e => by
    obtain ⟨k', q1, q2⟩ := keys_vals h2 i u (by simpa using e)
    exact ⟨k', by simpa using q1, q2⟩
theorem range_keys (ks : List Key) : (List.range ks.length).map (fun i => (ks[i]?).getD (.inl 0)) = ks := by
  refine List.ext_getElem? fun i => ?_
  rw [List.getElem?_map]
  by_cases h : i < ks.length
  · rw [List.getElem?_range h, List.getElem?_eq_getElem h]
    simp [List.getElem?_eq_getElem h]
  · rw [List.getElem?_eq_none (by simpa using h), List.getElem?_eq_none (by omega)]
    rfl
section
variable {X : Cx}
theorem call_setR (hc : X.calm = true) : CallR X (.type "set") (fun xs H Q => ∃ l ks, xs = [.ref l] ∧ (SqL X.K H l (ks.map kV) ∨ SqT X.K H l (ks.map kV)) ∧ ks.length + 1 < scanBound ∧ ∀ q, H q = none → Q (.ref q) (upd H q (.set (dedK ks)))) := by
  intro pins s σ H xs us Q I r h
  obtain ⟨l, ks, rfl, hq, hb, q⟩ := h
  obtain ⟨u, rfl, ru⟩ := vals1 r
  cases ru
  have hh := I.ok.hd hc
  have go : ∀ {its : List Value} {T : String}, T = "list" ∨ T = "tuple" → Vals (ks.map kV) its → (∃ o, s.heap.get? l = some o ∧ o.cls = .type T ∧ ∃ n, o.data = .seq its.toArray n) → wpAny (model X.prog X.w) X.A (call (.type "set") [.ref l]) (EP X pins σ Q) X.xe s := fun {its T} hT rv hl => by
    have le : its.length = ks.length := by rw [← rv.length, List.length_map]
    refine call_setT (key := fun i => (ks[i]?).getD (.inl 0)) hT hh hl (fun i v e => ?_) (by rw [List.size_toArray, le]; exact hb) fun h' tk S2 kp => ?_
    · obtain ⟨k, e1, e2⟩ := keys_vals rv i v (by simpa using e)
      rw [e1]
      exact e2
    · rw [show its.toArray.size = ks.length by rw [List.size_toArray, le], range_keys] at S2
      exact ⟨.ref s.heap.objs.size, _, I.laid (t' := tk) (o := .set (dedK ks)) kp (Nat.le_refl _) S2, rfl, q _ I.fresh⟩
  rcases hq with hq | hq
  · obtain ⟨its, r', pl, hz⟩ := I.list hq
    exact go (.inl rfl) r' pl.isList
  · obtain ⟨its, r', pl, hz⟩ := I.tuple hq
    exact go (.inr rfl) r' pl
theorem inv_set {pins : List (Addr × Obj)} {σ : L2.St} {H : Hp} {s : Shared} {a : Addr} {ks : List Key} (I : L2.Inv X pins σ H s) (h : H a = some (.set ks)) : SetAt X.w s.heap a ks := I.hok a _ h
theorem call_lenS : CallR X (.builtin "len") (fun xs H Q => ∃ p ks, xs = [.ref p] ∧ H p = some (.set ks) ∧ Q (.int ks.length) H) := by
  intro pins s σ H xs us Q I r h
  obtain ⟨p, ks, rfl, hH, q⟩ := h
  obtain ⟨u, rfl, ru⟩ := vals1 r
  cases ru
  obtain ⟨o, es, ep, t, ks', h1, h2, h3, h4, h5, h6, h7, h8, h9, _⟩ := inv_set I hH
  have le : es.size = ks.length := by rw [← h5.length_eq, Paired.length h4, Array.length_toList]
  have sm : es.size < 4096 := h7
  exact call_len_set h1 h2 h3 h8 (by omega) ⟨.int ks.length, H, I.tok _, ⟨s.toks + 1, by rw [le]⟩, q⟩
end
end FT
set_option Elab.async false
set_option linter.all false
set_option maxRecDepth 100000
set_option maxHeartbeats 1600000
namespace FT
open PySem PySem.Spec PyProof.Rows L2
section
variable {P : Program} {w : World} {A : Around} {E : Value → Shared → Prop} {s : Shared}
end
/-! ### data -/
def keyD : D → Option Key
  | .int i => some (.inl i)
  | .str x => some (.inr x)
  | _ => none
def keysD : List D → Option (List Key)
  | [] => some []
  | d :: r => match keyD d, keysD r with
    | some k, some ks => some (k :: ks)
    | _, _ => none
theorem key_rel {K : PySem.W.Frag} {ρ : List Addr} {H : Hp} {d : D} {k : Key} {v : V} (e : keyD d = some k) (r : RD K ρ H d v) : v = kV k := by
  cases d <;> first | (simp only [keyD] at e; cases e; done) | skip
  · simp only [keyD, Option.some.injEq] at e; subst e; simp only [RD] at r; exact r
  · simp only [keyD, Option.some.injEq] at e; subst e; simp only [RD] at r; exact r
theorem keys_rel {K : PySem.W.Frag} {ρ : List Addr} {H : Hp} : ∀ {ds : List D} {ks : List Key} {vs : List V}, keysD ds = some ks → RDs K ρ H ds vs → vs = ks.map kV
  | [], ks, vs, e, r => by simp only [RDs] at r; cases e; subst r; rfl
  | d :: ds, ks, vs, e, r => by
    simp only [RDs] at r
    obtain ⟨v, r2, rfl, h1, h2⟩ := r
    rw [keysD] at e
    cases e1 : keyD d with
    | none => rw [e1] at e; cases e
    | some k =>
      rw [e1] at e
      cases e2 : keysD ds with
      | none => rw [e2] at e; cases e
      | some ks' =>
        rw [e2] at e
        cases e
        rw [key_rel e1 h1, keys_rel e2 h2]
        rfl
def getS (n : Nat) : M (List Key) := fun h => match h[n]? with
  | some (.set ks) => .ok ks h
  | _ => .bad
def newSet (ks : List Key) : M D := fun h => .ok (.ref h.length) (h ++ [.set ks])
def fSetOf : List D → M D
  | [x] => do
    let xs ← seqD x
    match keysD xs with
    | some ks => if ks.length + 1 < 4096 then newSet (dedK ks) else bad
    | none => bad
  | _ => bad
def fLenS : List D → M D
  | [.ref n] => do
    let ks ← getS n
    pure (.int ks.length)
  | _ => bad
def asSet : D → M Nat
  | .ref n => fun h => match h[n]? with
    | some (.set _) => .ok n h
    | _ => .bad
  | _ => bad
def eMS (f : Nat → D → M D) (mo ma : G → M D) : G → M D := fun γ => do
  let o ← mo γ
  let n ← asSet o
  let v ← ma γ
  f n v
section
variable {X : Cx} {EX : XX} {a o : Expr} {p pos apos cpos : Pos} {ma mo : G → M D} {mr : G → M (List D)}
theorem getS_rel {K : PySem.W.Frag} {ρ : List Addr} {h : AH} {H : Hp} {n : Nat} {q : Addr} {Z : List Key → List Addr → AH → Hp → Prop} (r : RH K ρ h H) (hq : ρ[n]? = some q) (f : Fin K EX ρ H Z (getS n h)) : ∃ ks, H q = some (.set ks) ∧ Z ks ρ h H := by
  unfold getS at f
  cases e : h[n]? with
  | none => rw [e] at f; exact f.elim
  | some ob =>
    cases ob with
    | lst xs => rw [e] at f; exact f.elim
    | set ks =>
      rw [e] at f
      obtain ⟨a1, n1, o1⟩ := r.at e
      rw [hq] at n1; cases n1
      exact ⟨ks, o1, f ρ H (Pre.refl _) (Ext.refl _ _) r⟩
theorem newSet_rel {K : PySem.W.Frag} {ρ : List Addr} {h : AH} {H : Hp} {ks : List Key} {Q : VK} {q : Addr} (r : RH K ρ h H) (hq : H q = none) (f : FE K EX ρ H Q (newSet ks h)) : Q (.ref q) (upd H q (.set ks)) := by
  refine f (ρ ++ [q]) _ (Pre.app _ _) (Ext.upd (.inl hq)) (r.pushS hq) (.ref q) ?_
  simp only [RD]
  exact ⟨q, rfl, by rw [← r.len]; simp⟩
theorem ar_set : AR X.K EX (fun xs H Q => ∃ l ks, xs = [.ref l] ∧ (SqL X.K H l (ks.map kV) ∨ SqT X.K H l (ks.map kV)) ∧ ks.length + 1 < scanBound ∧ ∀ q, H q = none → Q (.ref q) (upd H q (.set (dedK ks)))) fSetOf := by
  intro ρ h H ds vs Q r rd fin
  unfold fSetOf at fin
  split at fin
  · rename_i x
    obtain ⟨v, rfl, rv⟩ := rds1 rd
    have f1 := Fin.bind fin
    cases e : seqD x h with
    | bad => rw [e] at f1; exact f1.elim
    | err z hz => exact (seqD_no e).elim
    | ok ys h1 =>
      obtain ⟨rfl, p, xs, rfl, hs, hd⟩ := seqD_rel r rv e
      rw [e] at f1
      have f2 := f1 ρ H (Pre.refl _) (Ext.refl _ _) r
      dsimp only at f2
      cases e2 : keysD ys with
      | none => rw [e2] at f2; exact f2.elim
      | some ks =>
        rw [e2] at f2
        dsimp only at f2
        split at f2
        · rename_i hl
          have ek := keys_rel e2 hd
          subst ek
          exact ⟨p, ks, rfl, hs, hl, fun q hq => newSet_rel r hq f2⟩
        · exact f2.elim
  · exact fin.elim
theorem se_setof (hc : X.calm = true) (hg : Gl X "set") (hm : X.mg "set" = none) (ha : SA X EX [a] mr) (he : starEach [a] X.env = [(false, eval a X.env)] := by rfl) : SE X EX (.Call (.Name "set" p) [a] [] pos) (eCall fSetOf mr) :=
  se_args (pe_callTy (call_setR hc) hg hm (by decide +kernel) ha.h (by decide) (by decide) he rfl) ar_set
theorem ar_lenS : AR X.K EX (fun xs H Q => ∃ p ks, xs = [.ref p] ∧ H p = some (.set ks) ∧ Q (.int ks.length) H) fLenS := by
  intro ρ h H ds vs Q r rd fin
  unfold fLenS at fin
  split at fin
  · rename_i n
    obtain ⟨v, rfl, rv⟩ := rds1 rd
    simp only [RD] at rv
    obtain ⟨q, rfl, hq⟩ := rv
    obtain ⟨ks, h1, f2⟩ := getS_rel r hq (Fin.bind fin)
    exact ⟨q, ks, rfl, h1, f2 ρ H (Pre.refl _) (Ext.refl _ _) r _ (by simp [RD])⟩
  · exact fin.elim
theorem se_lenS (hg : Gl X "len") (hm : X.mg "len" = none) (ha : SA X EX [a] mr) (he : starEach [a] X.env = [(false, eval a X.env)] := by rfl) : SE X EX (.Call (.Name "len" p) [a] [] pos) (eCall fLenS mr) :=
  se_args (pe_callB call_lenS hg hm PySem.boot_len ha.h (by decide) (by decide) he rfl) ar_lenS
end
/-- a def, its code's record told -/
theorem fn_mkC {P : Program} {w : World} {K : PySem.W.Frag} {mg : Str → Option Value} {base : Heap} {x : Str} {st : Stmt} {f : Addr} {fd : FuncData} {N ps : List Str} {k n : Nat} {mb : G → M Out} (F : Fun K x x st f fd) (S : FnScope N ps (defScope st)) (hb : Binds K fd ps []) (mx : mg x = some (.ref f)) (hn : ps.length = n)
    (body : ∀ (cdv : Value) (A : Around) (outer : List Env) (s : Shared) (H : Hp) (E : XK), PySem.W.codeIn K cdv x = true → Room k (A.deeper (envOfC x (defScope st) s.heap.objs.size f cdv)) →
      SB (cxOf CX0 P w K mg base N x (defScope st) f cdv A outer s H E).nox EX0 (defBody st) mb) : Fn P w K mg base (k + 1) x n (runF N.length mb) := by
  refine ⟨f, fd, ps, ?_, hb, F.kp, mx⟩
  obtain ⟨oc, od, kV, doc, pm, an, cdv, ct, osl, rfl, lk, hcd⟩ := F.ex
  refine fn_of lk hcd S (fun vs H Q E h => h.1.trans hn.symm) fun A outer s H vs Q E hr h => ?_
  obtain ⟨hl, ρ, ds, h, rh, rd, fin⟩ := h
  refine ⟨_, (body cdv A outer s H E hcd hr).h.nox, ρ, startG N.length ds, h, ⟨start_rel rd, rh⟩, ?_⟩
  refine (Fin.bind fin).mono fun o ρ1 h1 H1 p1 e1 r1 f1 => ?_
  cases o with
  | nx γ => exact fun σ _ => FE.here (d := .non) (h := h1) f1 r1 (by simp [RD])
  | rt d => exact fun v rv => f1 ρ1 H1 (Pre.refl _) (Ext.refl _ _) r1 v rv
  | bk γ => exact (show False from f1).elim
  | ct γ => exact (show False from f1).elim
end FT
set_option Elab.async false
set_option linter.all false
set_option maxRecDepth 100000
set_option maxHeartbeats 1600000
/-! Lists of plain things, equal or not. -/
namespace FT
open PySem PySem.Spec PyProof.Rows L2
section
variable {X : Cx}
end
section
variable {X : Cx} {EX : XX}
end
end FT
set_option Elab.async false
set_option linter.all false
set_option maxRecDepth 100000
set_option maxHeartbeats 1600000
/-! enumerate of a tuple -/
namespace FT
open PySem PySem.Spec PyProof.Rows L2
section
variable {X : Cx} {EX : XX} {a : Expr} {elts : List Expr} {kk : Nat} {p pos pt : Pos} {ma : G → M D}
end
end FT
set_option Elab.async false
set_option linter.all false
set_option maxRecDepth 100000
/-! A comprehension over two clauses. -/
namespace L2
open PySem PySem.Spec PyProof.Rows
section
variable {prog : Program} {w : World} {A : Around} {R : Result → Shared → Prop} {s : Shared} {elt tg iter tg1 iter1 : Expr} {ifs ifs1 : List Expr} {scope : Scope} {pos : Pos} {it acc : Value} {env : Env}
theorem turn2_in : compTurn (.ListComp elt [⟨tg, iter, ifs, 0⟩, ⟨tg1, iter1, ifs1, 0⟩] scope pos) 1 it acc env = (do
      standAt iter1.pos
      match ← pyNext it with
      | none => pure (.done .next)
      | some v =>
        letOwnedTupleGo tg1 it v
        assign tg1 env v
        let ok ← testsM ifs1 env
        if ok then
          (do let _ ← call (.builtin "list.append") [acc, ← eval elt env])
        again (.compLoop (.ListComp elt [⟨tg, iter, ifs, 0⟩, ⟨tg1, iter1, ifs1, 0⟩] scope pos) 1 it acc env)) := by rfl
theorem turn2_out : compTurn (.ListComp elt [⟨tg, iter, ifs, 0⟩, ⟨tg1, iter1, ifs1, 0⟩] scope pos) 0 it acc env = (do
      standAt iter.pos
      match ← pyNext it with
      | none => pure (.done .next)
      | some v =>
        letOwnedTupleGo tg it v
        assign tg env v
        let ok ← testsM ifs env
        if ok then
          let x ← eval iter1 env
          standAt iter1.pos
          let x ← foldedSetIterable iter1 env x
          let _ ← runOwn (.compStart (.ListComp elt [⟨tg, iter, ifs, 0⟩, ⟨tg1, iter1, ifs1, 0⟩] scope pos) 1 (← holding [x] (pyIter x)) acc env) env
        again (.compLoop (.ListComp elt [⟨tg, iter, ifs, 0⟩, ⟨tg1, iter1, ifs1, 0⟩] scope pos) 0 it acc env)) := by rfl
abbrev two (elt tg iter tg1 iter1 : Expr) (ifs ifs1 : List Expr) (scope : Scope) (pos : Pos) : Expr := .ListComp elt [⟨tg, iter, ifs, 0⟩, ⟨tg1, iter1, ifs1, 0⟩] scope pos
theorem loop2_in (I : Nat → Shared → Prop)
    (turn : ∀ n s, I n s → wpAny (model prog w) A (pyNext it) (fun r s1 => match r with
      | none => R (.ok .next) s1
      | some v => wpAny (model prog w) A (letOwnedTupleGo tg1 it v) (fun _ s2 =>
          wpAny (model prog w) A (assign tg1 env v) (fun _ s3 =>
            wpAny (model prog w) A (testsM ifs1 env) (fun ok s4 =>
              if ok = true then wpAny (model prog w) A (eval elt env) (fun x s5 =>
                wpAny (model prog w) A (call (.builtin "list.append") [acc, x]) (fun _ s6 => ∃ m, m < n ∧ I m s6)
                  (notedBy (model prog w) A env fun e s' => R (.error e) s') s5)
                  (notedBy (model prog w) A env fun e s' => R (.error e) s') s4
              else ∃ m, m < n ∧ I m s4)
              (notedBy (model prog w) A env fun e s' => R (.error e) s') s3)
            (notedBy (model prog w) A env fun e s' => R (.error e) s') s2)
          (notedBy (model prog w) A env fun e s' => R (.error e) s') s1)
      (notedBy (model prog w) A env fun e s' => R (.error e) s') s)
    (n : Nat) (h : I n s) :
    codeAny (model prog w) A (.compLoop (two elt tg iter tg1 iter1 ifs ifs1 scope pos) 1 it acc env) R s := by
  refine codeAny_loop rfl I (fun n s hI => ?_) n h
  show wpAny _ A ((compTurn (two elt tg iter tg1 iter1 ifs ifs1 scope pos) 1 it acc env).onRaise
    (fun x => do noteFrame x env; theTreesLotGoes x)) _ _ s
  refine wpAny_noted ?_
  rw [turn2_in]
  refine wpAny_bind (wpAny_standAt (wpAny_bind (wpAny_mono (turn n s hI) (fun r s1 h1 => ?_) fun _ _ z => z)))
  cases r with
  | none => exact wpAny_pure h1
  | some v =>
    refine wpAny_bind (wpAny_mono h1 (fun _ s2 h2 => ?_) fun _ _ z => z)
    refine wpAny_bind (wpAny_mono h2 (fun _ s3 h3 => wpAny_bind (wpAny_mono h3 (fun ok s4 h4 => ?_) fun _ _ z => z)) fun _ _ z => z)
    cases ok with
    | false => exact wpAny_pure ⟨rfl, h4⟩
    | true =>
      refine wpAny_bind (wpAny_bind (wpAny_mono h4 (fun x s5 h5 => wpAny_bind (wpAny_mono h5 (fun _ s6 h6 => ?_) fun _ _ z => z)) fun _ _ z => z))
      exact wpAny_pure (wpAny_pure ⟨rfl, h6⟩)
theorem loop2_out (I : Nat → Shared → Prop) (hs : ∀ x, foldedSetIterable iter1 env x = pure x)
    (turn : ∀ n s, I n s → wpAny (model prog w) A (pyNext it) (fun r s1 => match r with
      | none => R (.ok .next) s1
      | some v => wpAny (model prog w) A (letOwnedTupleGo tg it v) (fun _ s2 =>
          wpAny (model prog w) A (assign tg env v) (fun _ s3 =>
            wpAny (model prog w) A (testsM ifs env) (fun ok s4 =>
              if ok = true then wpAny (model prog w) A (eval iter1 env) (fun x s5 => wpAny (model prog w) A (pyIter x) (fun it1 s6 =>
                codeAny (model prog w) A (.compStart (two elt tg iter tg1 iter1 ifs ifs1 scope pos) 1 it1 acc env) (fun r s' => match r with
                  | .ok _ => ∃ m, m < n ∧ I m s'
                  | .error e => cameBackBy (model prog w) A env (notedBy (model prog w) A env fun e s' => R (.error e) s') e s') s6)
                  (notedBy (model prog w) A env fun e s' => R (.error e) s') s5)
                  (notedBy (model prog w) A env fun e s' => R (.error e) s') s4
              else ∃ m, m < n ∧ I m s4)
              (notedBy (model prog w) A env fun e s' => R (.error e) s') s3)
            (notedBy (model prog w) A env fun e s' => R (.error e) s') s2)
          (notedBy (model prog w) A env fun e s' => R (.error e) s') s1)
      (notedBy (model prog w) A env fun e s' => R (.error e) s') s)
    (n : Nat) (h : I n s) :
    codeAny (model prog w) A (.compLoop (two elt tg iter tg1 iter1 ifs ifs1 scope pos) 0 it acc env) R s := by
  refine codeAny_loop rfl I (fun n s hI => ?_) n h
  show wpAny _ A ((compTurn (two elt tg iter tg1 iter1 ifs ifs1 scope pos) 0 it acc env).onRaise
    (fun x => do noteFrame x env; theTreesLotGoes x)) _ _ s
  refine wpAny_noted ?_
  rw [turn2_out]
  refine wpAny_bind (wpAny_standAt (wpAny_bind (wpAny_mono (turn n s hI) (fun r s1 h1 => ?_) fun _ _ z => z)))
  cases r with
  | none => exact wpAny_pure h1
  | some v =>
    refine wpAny_bind (wpAny_mono h1 (fun _ s2 h2 => ?_) fun _ _ z => z)
    refine wpAny_bind (wpAny_mono h2 (fun _ s3 h3 => wpAny_bind (wpAny_mono h3 (fun ok s4 h4 => ?_) fun _ _ z => z)) fun _ _ z => z)
    cases ok with
    | false => exact wpAny_pure ⟨rfl, h4⟩
    | true =>
      refine wpAny_bind (wpAny_mono h4 (fun x s5 h5 => ?_) fun _ _ z => z)
      refine wpAny_bind (wpAny_standAt (wpAny_bind (wpAny_of_eq (hs x) (wpAny_bind (wpAny_holding (wpAny_mono h5 (fun it1 s6 h6 => ?_) fun _ _ z => z))))))
      refine wpAny_bind (wpAny_runOwn (codeAny_mono h6 fun r s' hr => ?_))
      cases r with
      | ok f => exact wpAny_pure ⟨rfl, hr⟩
      | error e => exact hr
theorem start2 {elt : Expr} (h0 : codeAny (model prog w) A (.compLoop (two elt tg iter tg1 iter1 ifs ifs1 scope pos) 1 it acc env) R s)
    (h : wpAny (model prog w) A (pyIter it) (fun it' s' => codeAny (model prog w) A (.compLoop (two elt tg iter tg1 iter1 ifs ifs1 scope pos) 1 it' acc env) R s')
      (notedBy (model prog w) A env fun x s' => R (.error x) s') s) :
    codeAny (model prog w) A (.compStart (two elt tg iter tg1 iter1 ifs ifs1 scope pos) 1 it acc env) R s := by
  refine codeAny_of_tree ?_
  show wpAny _ _ ((compStart (two elt tg iter tg1 iter1 ifs ifs1 scope pos) 1 it acc env).onRaise (fun x => do noteFrame x env; standAt theWindowsPlace)) _ _ s
  refine wpAny_notedAt ?_
  unfold compStart
  show wpAny _ _ (ask >>= _) _ _ s
  refine wpAny_bind (wpAny_askSetting (wpAny_ite ?_))
  split
  · first
      | exact wpAny_bind (wpAny_pure (wpAny_pure (And.intro rfl h0)))
      | exact wpAny_pure (And.intro rfl h0)
  · first
      | exact wpAny_bind (wpAny_rule (wpAny_bind (wpAny_standAt (wpAny_bind (wpAny_mono h (fun it' s' h' => wpAny_pure (And.intro rfl h')) fun _ _ x => x)))))
      | (refine wpAny_bind (wpAny_rule ?_); show wpAny _ _ (standAt iter1.pos >>= _) _ _ s; exact wpAny_bind (wpAny_standAt (wpAny_bind (wpAny_mono h (fun it' s' h' => wpAny_pure (And.intro rfl h')) fun _ _ x => x))))
end
end L2
set_option Elab.async false
set_option linter.all false
set_option maxRecDepth 100000
namespace L2
open PySem PySem.Spec PyProof.Rows
/-- the inner clause, from a state of the block -/
def compIn (g : TG) (ti : TT) (te : TE) (σ0 : St) (J : It) (D : Addr) (Q : Hp → Prop) (H : Hp) : Prop :=
  ∃ W : Nat → Nat → Hp → Prop, (∃ m, W 0 m H) ∧ ∀ i m H, W i m H →
    (J.stop i H ∧ Q H) ∨ (J.go i H ∧ ∀ x H1, J.yld i H x H1 → g x σ0 H1 fun σ2 H2 => (∀ (j : Nat) v, σ0[j]? = some (some v) → σ2[j]? = some (some v)) ∧
      ti σ2 H2 fun ok H3 => if ok = true then te σ2 H3 fun v H4 => ∃ acc, H4 D = some (.lst acc) ∧ acc.length < sizeLine ∧ ∃ m', m' < m ∧ W (i + 1) m' (upd H4 D (.lst (acc ++ [v])))
        else ∃ m', m' < m ∧ W (i + 1) m' H3)
def compRun2 (cap : List (Option Nat)) (g : TG) (wi : TI) (g1 : TG) (ti : TT) (te : TE) (σ : St) (J : It) (D : Addr) (Q : Hp → Prop) (H : Hp) : Prop :=
  ∃ W : Nat → Nat → Hp → Prop, (∃ m, W 0 m H) ∧ ∀ i m H, W i m H →
    (J.stop i H ∧ Q H) ∨ (J.go i H ∧ ∀ x H1, J.yld i H x H1 → g x (capSt cap σ) H1 fun σ2 H2 => (∀ (j : Nat) v, (capSt cap σ)[j]? = some (some v) → σ2[j]? = some (some v)) ∧
      wi σ2 H2 fun J1 H3 => compIn g1 ti te σ2 J1 D (fun H4 => ∃ m', m' < m ∧ W (i + 1) m' H4) H3)
section
variable {X : Cx} {elt tg iter tg1 iter1 : Expr} {ifs1 : List Expr} {sc : Scope} {pos : Pos} {N' : List Str} {cap : List (Option Nat)} {g g1 : TG} {wi1 : TI} {ti : TT} {te : TE}
/-- the inner clause's loop, within the block -/
theorem core_in {pins : List (Addr × Obj)} {σ0 : St} {H2 : Hp} {s2 : Shared} {it : Addr} {fp : List Addr} {tn : Nat → Heap → Prop} {J : It} {D : Addr} {R : Result → Shared → Prop} {Q : Hp → Prop}
    (hc : X.calm = true) (hg : PG (X.wish (notedBy (model X.prog X.w) X.A X.env fun e s' => R (.error e) s')) tg1 g1) (ht : PTs (X.wish (notedBy (model X.prog X.w) X.A X.env fun e s' => R (.error e) s')) ifs1 ti)
    (he : PE (X.wish (notedBy (model X.prog X.w) X.A X.env fun e s' => R (.error e) s')) elt te)
    (I2 : Inv X pins σ0 H2 s2) (T : Turn X.prog X.w X.K tg1 J fp it tn) (st2 : tn 0 s2.heap) (f2 : ∀ b ∈ fp, FpOk X pins H2 b)
    (hq : compIn g1 ti te σ0 J D Q H2) (hR : ∀ s' H', Inv X pins σ0 H' s' → Q H' → R (.ok .next) s') :
    codeAny (model X.prog X.w) X.A (.compStart (two elt tg iter tg1 iter1 [] ifs1 sc pos) 1 (.ref it) (.ref D) X.env) R s2 := by
  let xe : Value → Shared → Prop := notedBy (model X.prog X.w) X.A X.env fun e s' => R (.error e) s'
  have stat : ∀ {H' : Hp}, (∀ b ∈ fp, H' b = none) → ∀ b ∈ fp, FpOk X pins H' b := fun hn b hb => ⟨hn b hb, (f2 b hb).2⟩
  obtain ⟨W, ⟨m0, w0⟩, turn⟩ := hq
  have loop : codeAny (model X.prog X.w) X.A (.compLoop (two elt tg iter tg1 iter1 [] ifs1 sc pos) 1 (.ref it) (.ref D) X.env) R s2 := by
    refine loop2_in (fun n s' => ∃ i H', Inv X pins σ0 H' s' ∧ tn i s'.heap ∧ (∀ b ∈ fp, H' b = none) ∧ W i n H') ?_ m0 ⟨0, H2, I2, st2, fun b hb => (f2 b hb).1, w0⟩
    rintro n s5 ⟨i, H5, I5, st5, fr5, w5⟩
    rcases turn i n H5 w5 with ⟨stop, qn⟩ | ⟨go, step⟩
    · refine thn (T.done X rfl rfl rfl hc i pins s5 _ H5 xe I5 (stat fr5) st5 stop) fun r s6 ⟨hr, I6⟩ => ?_
      subst hr
      exact hR s6 H5 I6 qn
    · refine thn (T.item X rfl rfl rfl hc i pins s5 _ H5 xe I5 (stat fr5) st5 go) fun r s6 ⟨u, hr, h6⟩ => ?_
      subst hr
      refine thn h6 fun _ s7 ⟨x, H7, I7, r7, y7, st7, fr7⟩ => ?_
      have I7' := I7.pinned (stat fr7) (T.obj _ _ st7)
      refine thn (hg _ s7 _ H7 x u _ (I7'.wish _) r7 (step x H7 y7)) fun _ s8 ⟨σ8, H8, I8, k8, q8⟩ => ?_
      refine thn (ht _ s8 σ8 H8 _ I8 q8) fun ok s9 ⟨H9, I9, q9⟩ => ?_
      have again : ∀ {σa : St} {Ha : Hp} {sa : Shared}, Inv (X.wish xe) (pins ++ pinsAt fp s7.heap) σa Ha sa → (∀ (j : Nat) v, σ0[j]? = some (some v) → σa[j]? = some (some v)) →
          Inv X pins σ0 Ha sa ∧ tn (i + 1) sa.heap ∧ ∀ b ∈ fp, Ha b = none := fun {σa Ha sa} Iw ka => by
        have Ia := Iw.unwish
        refine ⟨Ia.unpinned.weak (I5.len.trans Ia.len.symm) ka, T.keep _ _ _ st7 fun b hb o e => (Ia.pin (b, o) (List.mem_append_right _ (List.mem_append_right _ (mem_pinsAt hb e)))).1, fun b hb => ?_⟩
        obtain ⟨o, e, d⟩ := T.obj _ _ st7 b hb
        exact (Ia.pin (b, o) (List.mem_append_right _ (List.mem_append_right _ (mem_pinsAt hb e)))).2.1
      cases ok with
      | false =>
        have q9' : ∃ m', m' < n ∧ W (i + 1) m' H9 := by simpa using q9
        obtain ⟨m', hm, w9⟩ := q9'
        obtain ⟨a1, a2, a3⟩ := again I9 k8
        exact ⟨m', hm, i + 1, H9, a1, a2, a3, w9⟩
      | true =>
        rw [if_pos rfl] at q9
        refine thn (he _ s9 σ8 H9 _ I9 q9) fun v sa ⟨y, Ha, Ia, ra, acc, ea, za, m', hm, wa⟩ => ?_
        refine thn (mt_append (X := X.wish xe) _ sa σ8 Ha (.ref D) [y] (.ref D) [v] (fun _ H' => H' = upd Ha D (.lst (acc ++ [y]))) Ia rfl (.cons ra .nil) ⟨D, acc, y, rfl, rfl, ea, za, rfl⟩) fun _ sb ⟨_, Hb, Ib, _, eb⟩ => ?_
        subst eb
        obtain ⟨a1, a2, a3⟩ := again Ib k8
        exact ⟨m', hm, i + 1, _, a1, a2, a3, wa⟩
  exact start2 loop (T.self _ 0 _ _ _ st2 loop)
theorem core2 {pins : List (Addr × Obj)} {σ : St} {H2 : Hp} {s2 : Shared} {it : Addr} {fp : List Addr} {tn : Nat → Heap → Prop} {J : It} {E : Value → Shared → Prop} {RR : Value → Addr → Result → Shared → Prop} {Q : Addr → Hp → Prop}
    (hc : X.calm = true) (S : CS X sc N' cap) (hg : ∀ s H fp xe, PG (X.comp N' sc s H fp xe) tg g) (hi1 : ∀ s H fp xe, PI (X.comp N' sc s H fp xe) tg1 iter1 wi1) (hg1 : ∀ s H fp xe, PG (X.comp N' sc s H fp xe) tg1 g1) (ht : ∀ s H fp xe, PTs (X.comp N' sc s H fp xe) ifs1 ti) (he : ∀ s H fp xe, PE (X.comp N' sc s H fp xe) elt te)
    (hs1 : ∀ env x, foldedSetIterable iter1 env x = pure x)
    (I2 : Inv X pins σ H2 s2) (T : Turn X.prog X.w X.K tg J fp it tn) (st2 : tn 0 s2.heap) (f2 : ∀ b ∈ fp, FpOk X pins H2 b)
    (hq : ∀ D, H2 D = none → compRun2 cap g wi1 g1 ti te σ J D (Q D) (upd H2 D (.lst [])))
    (hRR : ∀ (D : Addr) (s3 : Shared) (H3 : Hp) (xe : Value → Shared → Prop) (H' : Hp) (pins' : List (Addr × Obj)) (σ' : St) (s' : Shared), Inv X pins σ H3 s3 → (∀ b ∈ fp, FpOk X pins H3 b) → Inv (X.comp N' sc s3 H3 fp xe) pins' σ' H' s' → Q D H' → RR (.ref D) s3.heap.objs.size (.ok .next) s') :
    wpAny (model X.prog X.w) X.A (newList []) (fun acc s3 => wpAny (model X.prog X.w) X.A (newFunctionEnv sc X.env.globals (capCells X.env sc.names []) [] X.env.qual none .none (some X.env)) (fun cenv s4 =>
      codeAny (model X.prog X.w) X.A (.compStart (two elt tg iter tg1 iter1 [] ifs1 sc pos) 0 (.ref it) acc { cenv with scope := relabel sc X.env }) (RR acc cenv.locals) s4) E s3) E s2 := by
  refine wpAny_newObj_type ?_
  have I3 := I2.lnew (ys := []) (its := []) (t' := s2.toks) .nil (Nat.zero_le _)
  have hfr : H2 s2.heap.objs.size = none := I2.fresh
  have lt2 : ∀ b ∈ fp, b < s2.heap.objs.size := fun b hb => by
    obtain ⟨o, e, _⟩ := T.obj _ _ st2 b hb
    exact Heap.lt_size e
  generalize hD : s2.heap.objs.size = D at I3 hfr lt2 ⊢
  have r0 := hq D hfr
  generalize hs3 : ({ s2 with heap := s2.heap.push { cls := .type "list", data := .seq ([] : List Value).toArray }, toks := s2.toks } : Shared) = s3 at I3
  have f3 : ∀ b ∈ fp, FpOk X pins (upd H2 D (.lst [])) b := fun b hb => ⟨by rw [upd_ne (Nat.ne_of_lt (lt2 b hb))]; exact (f2 b hb).1, (f2 b hb).2⟩
  have kp3 : ∀ b o, s2.heap.get? b = some o → s3.heap.get? b = some o := fun b o e => by rw [← hs3]; exact Heap.get?_push_of_some _ e
  have st3 : tn 0 s3.heap := T.keep _ _ _ st2 fun b hb o e => kp3 b o e
  have lt3 : ∀ b ∈ fp, b < s3.heap.objs.size := fun b hb => by
    obtain ⟨o, e, _⟩ := T.obj _ _ st3 b hb
    exact Heap.lt_size e
  generalize upd H2 D (.lst []) = H3 at I3 r0 f3
  refine wpAny_newFunctionEnv S.nocell (fun x hx => absurd hx (by simp)) (fun h1 hns hsb => ?_) S.kind
  have kp4 : ∀ b o, s3.heap.get? b = some o → h1.get? b = some o := fun b o e => by
    rw [hsb.2 b (Nat.ne_of_lt (Heap.lt_size e))]
    exact Heap.get?_push_of_some _ e
  have hns' : h1.Ns s3.heap.objs.size fun _ => none := hns
  have st4 : tn 0 h1 := T.keep _ _ _ st3 fun b hb o e => kp4 b o e
  have frees : ∀ b ∈ fp, H3 b = none := fun b hb => (f3 b hb).1
  have loop : codeAny (model X.prog X.w) X.A (.compLoop (two elt tg iter tg1 iter1 [] ifs1 sc pos) 0 (.ref it) (.ref D) (compEnvC sc (capCells X.env sc.names []) s3.heap.objs.size X.env))
      (RR (.ref D) s3.heap.objs.size) { s3 with heap := h1, toks := s3.toks + ([] : List (Str × Value)).length } := by
    let xe : Value → Shared → Prop := notedBy (model X.prog X.w) X.A (compEnvC sc (capCells X.env sc.names []) s3.heap.objs.size X.env) fun e s' => RR (.ref D) s3.heap.objs.size (.error e) s'
    have I4 : Inv (X.comp N' sc s3 H3 fp xe) [] (capSt cap σ) H3 { s3 with heap := h1, toks := s3.toks + ([] : List (Str × Value)).length } := I3.compIn S f3 lt3 hns' kp4
    have stat : ∀ {H' : Hp}, (∀ b ∈ fp, H' b = none) → ∀ b ∈ fp, FpOk (X.comp N' sc s3 H3 fp xe) [] H' b := fun hn b hb => by
      obtain ⟨q1, q2⟩ := I4.ok.exf b hb
      exact ⟨hn b hb, q1, I4.ok.exfs b hb, .inl hb, q2, fun p hp => absurd (show p ∈ ([] : List (Addr × Obj)) from hp) (by simp)⟩
    obtain ⟨W, ⟨m0, w0⟩, turn⟩ := r0
    refine loop2_out (fun n s' => ∃ i H', Inv (X.comp N' sc s3 H3 fp xe) [] (capSt cap σ) H' s' ∧ tn i s'.heap ∧ (∀ b ∈ fp, H' b = none) ∧ W i n H') (hs1 _) ?_ m0 ⟨0, H3, I4, st4, frees, w0⟩
    rintro n s5 ⟨i, H5, I5, st5, fr5, w5⟩
    rcases turn i n H5 w5 with ⟨stop, qn⟩ | ⟨go, step⟩
    · refine thn (T.done (X.comp N' sc s3 H3 fp xe) rfl rfl rfl hc i [] s5 _ H5 xe I5 (stat fr5) st5 stop) fun r s6 ⟨hr, I6⟩ => ?_
      subst hr
      exact hRR D s3 H3 xe H5 [] _ s6 I3 f3 I6 qn
    · refine thn (T.item (X.comp N' sc s3 H3 fp xe) rfl rfl rfl hc i [] s5 _ H5 xe I5 (stat fr5) st5 go) fun r s6 ⟨u, hr, h6⟩ => ?_
      subst hr
      refine thn h6 fun _ s7 ⟨x, H7, I7, r7, y7, st7, fr7⟩ => ?_
      have I7' := I7.pinned (stat fr7) (T.obj _ _ st7)
      refine thn (hg s3 H3 fp xe _ s7 _ H7 x u _ I7' r7 (step x H7 y7)) fun _ s8 ⟨σ8, H8, I8, k8, q8⟩ => ?_
      have again : ∀ {σa : St} {Ha : Hp} {sa : Shared}, Inv (X.comp N' sc s3 H3 fp xe) ([] ++ pinsAt fp s7.heap) σa Ha sa → (∀ (j : Nat) v, (capSt cap σ)[j]? = some (some v) → σa[j]? = some (some v)) →
          Inv (X.comp N' sc s3 H3 fp xe) [] (capSt cap σ) Ha sa ∧ tn (i + 1) sa.heap ∧ ∀ b ∈ fp, Ha b = none := fun {σa Ha sa} Ia ka => by
        refine ⟨Ia.unpinned.weak (I5.len.trans Ia.len.symm) ka, T.keep _ _ _ st7 fun b hb o e => (Ia.pin (b, o) (List.mem_append_right _ (List.mem_append_right _ (mem_pinsAt hb e)))).1, fun b hb => ?_⟩
        obtain ⟨o, e, d⟩ := T.obj _ _ st7 b hb
        exact (Ia.pin (b, o) (List.mem_append_right _ (List.mem_append_right _ (mem_pinsAt hb e)))).2.1
      refine wpAny_pure ?_
      show (if true = true then _ else _)
      rw [if_pos rfl]
      refine thn (hi1 s3 H3 fp xe _ s8 σ8 H8 _ I8 q8) fun v9 s9 h9 => thn h9 fun itv sa ha => ?_
      obtain ⟨it1, fp1, tn1, J1, Ha, e, Ia, T1, sta, fa, rq⟩ := ha
      subst e
      refine core_in (X := X.comp N' sc s3 H3 fp xe) hc (hg1 s3 H3 fp _) (ht s3 H3 fp _) (he s3 H3 fp _) Ia T1 sta fa rq fun sb Hb Ib qb => ?_
      obtain ⟨m', hm, wb⟩ := qb
      obtain ⟨a1, a2, a3⟩ := again Ib k8
      exact ⟨m', hm, i + 1, Hb, a1, a2, a3, wb⟩
  exact codeAny_compStart_list loop (T.self _ 0 _ _ _ st4 loop)
/-- [elt for tg in iter for tg1 in iter1 if ..] -/
def tComp2 (cap : List (Option Nat)) (wi : TI) (g : TG) (wi1 : TI) (g1 : TG) (ti : TT) (te : TE) : TE := fun σ H Q => wi σ H fun J H1 => ∀ D, H1 D = none → compRun2 cap g wi1 g1 ti te σ J D (fun H' => Q (.ref D) H') (upd H1 D (.lst []))
theorem pe_comp2 {wi : TI} (hc : X.calm = true) (S : CS X sc N' cap) (hi : PI X tg iter wi) (hg : ∀ s H fp xe, PG (X.comp N' sc s H fp xe) tg g) (hi1 : ∀ s H fp xe, PI (X.comp N' sc s H fp xe) tg1 iter1 wi1) (hg1 : ∀ s H fp xe, PG (X.comp N' sc s H fp xe) tg1 g1) (ht : ∀ s H fp xe, PTs (X.comp N' sc s H fp xe) ifs1 ti)
    (he : ∀ s H fp xe, PE (X.comp N' sc s H fp xe) elt te) (hs : ∀ x, foldedSetIterable iter X.env x = pure x) (hs1 : ∀ env x, foldedSetIterable iter1 env x = pure x) : PE X (two elt tg iter tg1 iter1 [] ifs1 sc pos) (tComp2 cap wi g wi1 g1 ti te) := by
  intro pins s σ H Q I h
  rw [eval_ListComp]
  refine wpAny_comprehension_free (use := none) rfl hs (closureFor_eq (S.cells I)) S.kind S.loc (thn (hi pins s σ H _ I h) fun v s1 h1 => thn h1 fun itv s2 h2 => ?_)
  obtain ⟨it, fp, tn, J, H2, e, I2, T, st2, f2, rq⟩ := h2
  subst e
  refine core2 (RR := fun acc C => compPost (model X.prog X.w) X.A X.xe none (EP X pins σ Q) acc C) (Q := fun D H' => Q (.ref D) H') hc S hg hi1 hg1 ht he hs1 I2 T st2 f2 rq ?_
  intro D s3 H3 xe H' pins' σ' s' I3 f3 J3 q
  obtain ⟨m, hn, _⟩ := id J3.loc
  exact ⟨m, hn, fun h' hs => ⟨.ref D, H', I3.compOut f3 J3 hs, rfl, q⟩⟩
end
end L2
set_option Elab.async false
set_option linter.all false
set_option maxRecDepth 100000
namespace FT
open PySem PySem.Spec PyProof.Rows L2
noncomputable def compR2 (src : Src) (g : D → G → M G) (mi : G → M Src) (g1 : D → G → M G) (k : G → M Bool) (me : G → M D) (n0 : Nat) (γ : G) : List D → M Unit
  | [] => do
    let _ ← src.chk
    pure ()
  | d :: r => do
    let _ ← src.chk
    let γ1 ← g d γ
    let s1 ← mi γ1
    let _ ← compR s1 g1 k me n0 γ1 s1.items
    compR2 src g mi g1 k me n0 γ r
noncomputable def eComp2 (cap : List (Option Nat)) (mi : G → M Src) (g : D → G → M G) (mi1 : G → M Src) (g1 : D → G → M G) (k : G → M Bool) (me : G → M D) : G → M D := fun γ => do
  let src ← mi γ
  let n0 ← (fun h => .ok h.length (h ++ [.lst []]) : M Nat)
  let _ ← compR2 src g mi1 g1 k me n0 (capG cap γ) src.items
  pure (.ref n0)
section
variable {X : Cx} {EX : XX} {elt tg iter tg1 iter1 : Expr} {ifs1 : List Expr} {sc : Scope} {pos : Pos} {N' : List Str} {cap : List (Option Nat)} {own own1 : List Nat} {mi mi1 : G → M Src} {g g1 : D → G → M G} {k : G → M Bool} {me : G → M D}
theorem comp_in {σ0 : L2.St} {H0 : Hp} {ρ0 : List Addr} {h0 : AH} {γ : G} {src : Src} {J : It} {Dd : Addr} {n0 : Nat} {P : Hp → Prop} (r0 : RH X.K ρ0 h0 H0) (rg : RG X.K ρ0 H0 γ σ0) (hJ : JOK X.K src ρ0 H0 J) (hD : ρ0[n0]? = some Dd) (hown : ∀ j ∈ own1, ∀ v, σ0[j]? ≠ some (some v))
    (fin : Fin X.K EX ρ0 H0 (fun _ ρ' h' H' => RH X.K ρ' h' H' → Ext X.K H0 H' → Pre ρ0 ρ' → P H') (compR src g1 k me n0 γ src.items h0)) :
    compIn (tGk X.K EX own1 g1) (tT X.K EX k) (tE X.K EX me) σ0 J Dd P H0 := by
  refine ⟨fun i m H => m + i = src.items.length ∧ ∃ ρ h, Pre ρ0 ρ ∧ Ext X.K H0 H ∧ RH X.K ρ h H ∧
    Fin X.K EX ρ H (fun _ ρ' h' H' => RH X.K ρ' h' H' → Ext X.K H0 H' → Pre ρ0 ρ' → P H') (compR src g1 k me n0 γ (src.items.drop i) h),
    ⟨src.items.length, rfl, _, _, Pre.refl _, Ext.refl _ _, r0, fin⟩, ?_⟩
  rintro i m H1 ⟨hm, ρ1, h1, p1, e1, r1, f1⟩
  by_cases hi : i < src.items.length
  · rw [show src.items.drop i = src.items[i] :: src.items.drop (i + 1) from List.drop_eq_getElem_cons hi] at f1
    unfold compR at f1
    obtain ⟨good, f2⟩ := chk_ok f1 r1
    obtain ⟨j1, j2⟩ := hJ i ρ1 h1 H1 p1 e1 r1 good
    obtain ⟨go, yld⟩ := j1 src.items[i] (List.getElem?_eq_getElem hi)
    refine .inr ⟨go, fun x H2 y => ?_⟩
    obtain ⟨rd, rh, ext⟩ := yld x H2 y
    refine ⟨ρ1, _, h1, _, ⟨rg.mono p1 (e1.trans ext), rh⟩, rd, (Fin.bind (Fin.up (Pre.refl _) ext f2)).mono fun γ2 ρ3 h3 H3 p3 e3 r3 f3 σ3 g3 k3 => ⟨fun j v hv => ?_, ρ3, γ2, h3, ⟨g3, r3⟩, (Fin.bind f3).mono fun t ρ4 h4 H4 p4 e4 r4 f4 => ?_⟩⟩
    · rw [k3 j fun hj => hown j hj v hv]
      exact hv
    · have pp : Pre ρ0 ρ4 := (p1.trans p3).trans p4
      have ee : Ext X.K H0 H4 := ((e1.trans ext).trans e3).trans e4
      cases t with
      | false =>
        rw [if_neg (by decide)] at f4
        dsimp only
        rw [if_neg (by decide)]
        exact ⟨m - 1, by omega, by omega, ρ4, h4, pp, ee, r4, f4⟩
      | true =>
        rw [if_pos rfl] at f4
        dsimp only
        rw [if_pos rfl]
        refine ⟨ρ4, γ2, h4, ⟨g3.mono p4 e4, r4⟩, (Fin.bind f4).mono fun d ρ5 h5 H5 p5 e5 r5 f5 v rv => ?_⟩
        have hq : ρ5[n0]? = some Dd := (pp.trans p5) _ _ hD
        have f6 := Fin.bind f5
        unfold fAppend updL at f6
        cases e7 : h5[n0]? with
        | none => rw [e7] at f6; exact f6.elim
        | some ob =>
          cases ob with
          | set ks => rw [e7] at f6; exact f6.elim
          | lst xs =>
            rw [e7] at f6
            dsimp only at f6
            split at f6
            · rename_i hl
              obtain ⟨a1, n1, vs, o1, d1⟩ := r5.at e7
              rw [hq] at n1; cases n1
              have dd := d1.append (RDs.cons rv RDs.nil)
              have ext2 : Ext X.K H5 (upd H5 Dd (.lst (vs ++ [v]))) := Ext.upd (.inr ⟨_, o1, trivial⟩)
              have r6 := r5.set e7 hq dd
              rw [List.length_append, List.length_singleton] at hl
              have hl2 := d1.length
              exact ⟨vs, o1, by omega, m - 1, by omega, by omega, ρ5, _, pp.trans p5, (ee.trans e5).trans ext2, r6, f6 ρ5 _ (Pre.refl _) ext2 r6⟩
            · exact f6.elim
  · rw [show src.items.drop i = [] from List.drop_eq_nil_of_le (by omega)] at f1
    unfold compR at f1
    obtain ⟨good, f2⟩ := chk_ok f1 r1
    obtain ⟨j1, j2⟩ := hJ i ρ1 h1 H1 p1 e1 r1 good
    exact .inl ⟨j2 (by omega), f2 ρ1 H1 (Pre.refl _) (Ext.refl _ _) r1 r1 e1 p1⟩
theorem comp_run2 {σ : L2.St} {H0 : Hp} {ρ0 : List Addr} {h0 : AH} {γ : G} {src : Src} {J : It} {Dd : Addr} {P : Hp → Prop} (r0 : RH X.K ρ0 h0 H0) (rg : RG X.K ρ0 H0 γ σ) (hJ : JOK X.K src ρ0 H0 J) (hD : H0 Dd = none) (hown : ∀ j ∈ own, cap[j]? = some none) (hown1 : ∀ j ∈ own1, cap[j]? = some none ∧ j ∉ own)
    (fin : Fin X.K EX (ρ0 ++ [Dd]) (upd H0 Dd (.lst [])) (fun _ ρ' h' H' => ρ'[h0.length]? = some Dd → RH X.K ρ' h' H' → Ext X.K (upd H0 Dd (.lst [])) H' → Pre (ρ0 ++ [Dd]) ρ' → P H') (compR2 src g mi1 g1 k me h0.length (capG cap γ) src.items (h0 ++ [.lst []]))) :
    compRun2 cap (tGk X.K EX own g) (tI X.K EX mi1) (tGk X.K EX own1 g1) (tT X.K EX k) (tE X.K EX me) σ J Dd P (upd H0 Dd (.lst [])) := by
  have rP := r0.push hD (RDs.nil (K := X.K) (ρ := ρ0) (H := H0))
  have eP : Ext X.K H0 (upd H0 Dd (.lst [])) := Ext.upd (.inl hD)
  have at0 : (ρ0 ++ [Dd])[h0.length]? = some Dd := by rw [← r0.len]; simp
  refine ⟨fun i m H => m + i = src.items.length ∧ ∃ ρ h, Pre (ρ0 ++ [Dd]) ρ ∧ Ext X.K (upd H0 Dd (.lst [])) H ∧ RH X.K ρ h H ∧
    Fin X.K EX ρ H (fun _ ρ' h' H' => ρ'[h0.length]? = some Dd → RH X.K ρ' h' H' → Ext X.K (upd H0 Dd (.lst [])) H' → Pre (ρ0 ++ [Dd]) ρ' → P H') (compR2 src g mi1 g1 k me h0.length (capG cap γ) (src.items.drop i) h),
    ⟨src.items.length, rfl, _, _, Pre.refl _, Ext.refl _ _, rP, fin⟩, ?_⟩
  rintro i m H1 ⟨hm, ρ1, h1, p1, e1, r1, f1⟩
  have p01 : Pre ρ0 ρ1 := (Pre.app _ _).trans p1
  have e01 : Ext X.K H0 H1 := eP.trans e1
  by_cases hi : i < src.items.length
  · rw [show src.items.drop i = src.items[i] :: src.items.drop (i + 1) from List.drop_eq_getElem_cons hi] at f1
    unfold compR2 at f1
    obtain ⟨good, f2⟩ := chk_ok f1 r1
    obtain ⟨j1, j2⟩ := hJ i ρ1 h1 H1 p01 e01 r1 good
    obtain ⟨go, yld⟩ := j1 src.items[i] (List.getElem?_eq_getElem hi)
    refine .inr ⟨go, fun x H2 y => ?_⟩
    obtain ⟨rd, rh, ext⟩ := yld x H2 y
    have rgc : RG X.K ρ1 H2 (capG cap γ) (capSt cap σ) := (cap_rel cap rg).mono p01 (e01.trans ext)
    have non : ∀ {j : Nat} {v : V}, cap[j]? = some none → (capSt cap σ)[j]? ≠ some (some v) := fun {j v} z hv => by
      unfold capSt at hv
      rw [List.getElem?_map, z] at hv
      simp at hv
    refine ⟨ρ1, _, h1, _, ⟨rgc, rh⟩, rd, (Fin.bind (Fin.up (Pre.refl _) ext f2)).mono fun γ2 ρ3 h3 H3 p3 e3 r3 f3 σ3 g3 k3 => ⟨fun j v hv => ?_, ρ3, γ2, h3, ⟨g3, r3⟩, (Fin.bind f3).mono fun s1 ρ4 h4 H4 p4 e4 r4 f4 J1 hJ1 => ?_⟩⟩
    · rw [k3 j fun hj => non (hown j hj) hv]
      exact hv
    · have pp : Pre (ρ0 ++ [Dd]) ρ4 := (p1.trans p3).trans p4
      have ee : Ext X.K (upd H0 Dd (.lst [])) H4 := ((e1.trans ext).trans e3).trans e4
      refine comp_in r4 (g3.mono p4 e4) hJ1 (pp _ _ at0) (fun j hj v hv => ?_) ((Fin.bind f4).mono fun _ ρ5 h5 H5 p5 e5 r5 f5 rr ex pr => ?_)
      · rw [k3 j (hown1 j hj).2] at hv
        exact non (hown1 j hj).1 hv
      · exact ⟨m - 1, by omega, by omega, ρ5, h5, pp.trans pr, ee.trans ex, rr, f5⟩
  · rw [show src.items.drop i = [] from List.drop_eq_nil_of_le (by omega)] at f1
    unfold compR2 at f1
    obtain ⟨good, f2⟩ := chk_ok f1 r1
    obtain ⟨j1, j2⟩ := hJ i ρ1 h1 H1 p01 e01 r1 good
    exact .inl ⟨j2 (by omega), f2 ρ1 H1 (Pre.refl _) (Ext.refl _ _) r1 (p1 _ _ at0) r1 e1 p1⟩
theorem se_comp2 (hc : X.calm = true) (S : CS X sc N' cap) (hi : SI X EX tg iter mi) (hg : ∀ s H fp xe, SGk (X.comp N' sc s H fp xe) EX tg own g) (hi1 : ∀ s H fp xe, SI (X.comp N' sc s H fp xe) EX tg1 iter1 mi1) (hg1 : ∀ s H fp xe, SGk (X.comp N' sc s H fp xe) EX tg1 own1 g1) (ht : ∀ s H fp xe, SCs (X.comp N' sc s H fp xe) EX ifs1 k)
    (he : ∀ s H fp xe, SE (X.comp N' sc s H fp xe) EX elt me) (hown : ∀ j ∈ own, cap[j]? = some none := by decide) (hown1 : ∀ j ∈ own1, cap[j]? = some none ∧ j ∉ own := by decide) (hs : ∀ x, foldedSetIterable iter X.env x = pure x := by intro _; rfl) (hs1 : ∀ env x, foldedSetIterable iter1 env x = pure x := by intro _ _; rfl) :
    SE X EX (.ListComp elt [⟨tg, iter, [], 0⟩, ⟨tg1, iter1, ifs1, 0⟩] sc pos) (eComp2 cap mi g mi1 g1 k me) :=
  ⟨PE.imp (pe_comp2 (g := tGk X.K EX own g) (wi1 := tI X.K EX mi1) (g1 := tGk X.K EX own1 g1) (ti := tT X.K EX k) (te := tE X.K EX me) hc S hi.h (fun s H fp xe => (hg s H fp xe).h) (fun s H fp xe => (hi1 s H fp xe).h) (fun s H fp xe => (hg1 s H fp xe).h) (fun s H fp xe => (ht s H fp xe).h) (fun s H fp xe => (he s H fp xe).h) hs hs1) fun σ H Q ⟨ρ, γ, h, rel, fin⟩ => ⟨ρ, γ, h, rel, (Fin.bind fin).mono fun src ρ0 h0 H0 p0 e0 r0 f0 J hJ Dd hD => by
    have rP := r0.push hD (RDs.nil (K := X.K) (ρ := ρ0) (H := H0))
    have eP : Ext X.K H0 (upd H0 Dd (.lst [])) := Ext.upd (.inl hD)
    have f1 := Fin.bind f0
    have f2 := f1 (ρ0 ++ [Dd]) _ (Pre.app _ _) eP rP
    refine comp_run2 r0 (rel.g.mono p0 e0) hJ hD hown hown1 ((Fin.bind f2).mono fun _ ρ5 h5 H5 p5 e5 r5 f5 hat rr ee pp => ?_)
    refine FE.here (d := .ref h0.length) (h := h5) f5 rr ?_
    simp only [RD]
    exact ⟨Dd, rfl, hat⟩⟩⟩
end
end FT
set_option Elab.async false
set_option linter.all false
set_option maxRecDepth 100000
/-! Things turned about, a number less itself, the lesser of two, a truth as a number. -/
namespace L2
open PySem PySem.Spec PyProof.Rows
theorem range_all {α : Type} (r : List α) : (List.range r.length).filterMap (fun m => r[m]?) = r := by
  have := pick_run r.toArray 0 r.length
  rw [List.filterMap_map] at this
  have e : ((fun x => r.toArray[x]?) ∘ fun x => 0 + x) = fun m => r[m]? := by funext m; simp
  rw [e] at this
  rw [this]
  simp
theorem fm_congr {α β : Type} {f g : α → Option β} : ∀ {l : List α}, (∀ x ∈ l, f x = g x) → l.filterMap f = l.filterMap g
  | [], _ => rfl
  | a :: l, h => by
    rw [List.filterMap_cons, List.filterMap_cons, h a List.mem_cons_self, fm_congr fun x hx => h x (List.mem_cons_of_mem _ hx)]
theorem range_back {α : Type} (l : List α) (f : Nat → Option α) (hf : ∀ m, m < l.length → f m = l[l.length - 1 - m]?) : (List.range l.length).filterMap f = l.reverse := by
  have := range_all l.reverse
  rw [List.length_reverse] at this
  rw [← this]
  exact fm_congr fun m hm => by
    have hm' : m < l.length := by simpa using hm
    rw [hf m hm', List.getElem?_reverse hm']
theorem back_list (its : List Value) : slicePick its.toArray none none (some (-1)) = its.reverse.toArray := by
  unfold slicePick
  have b : sliceBounds none none (some (-1)) its.toArray.size = ((its.length : Int) - 1, -1, -1) := by
    unfold sliceBounds
    rw [List.size_toArray]
    rfl
  rw [b]
  unfold sliceRange
  have c : (if (-1 : Int) > 0 then (if (its.length : Int) - 1 < -1 then (-1 - ((its.length : Int) - 1) + -1 - 1) / -1 else 0) else if (its.length : Int) - 1 > -1 then ((its.length : Int) - 1 - -1 - -1 - 1) / - -1 else 0).toNat = its.length := by
    rw [if_neg (by decide)]
    by_cases h : (its.length : Int) - 1 > -1
    · rw [if_pos h]
      have : ((its.length : Int) - 1 - -1 - -1 - 1) / - -1 = its.length := by
        rw [show (- -1 : Int) = 1 from rfl, Int.ediv_one]
        omega
      rw [this, Int.toNat_natCast]
    · rw [if_neg h]
      omega
  dsimp only
  rw [c, List.filterMap_map]
  congr 1
  refine range_back its _ fun m hm => ?_
  have : ((its.length : Int) - 1 + -1 * (m : Int)).toNat = its.length - 1 - m := by omega
  show its.toArray[((its.length : Int) - 1 + -1 * (m : Int)).toNat]? = _
  rw [this]
  simp
section
variable {prog : Program} {w : World} {A : Around} {E : Value → Shared → Prop} {s : Shared}
theorem applied_back {sl : Addr} {t : Tok} {n : Nat} {Q : Int × Int × Nat → Shared → Prop} (hs : s.heap.IsSliceOf sl .none .none (.int (-1) t))
    (h : Q ((n : Int) - 1, -1, n) s) : wpAny (model prog w) A (Builtin.Slice.sliceApplied (.ref sl) (pure (n : Int))) Q E s := by
  obtain ⟨os, h1, h2, h3⟩ := id hs
  unfold Builtin.Slice.sliceApplied Builtin.Slice.sliceFields
  refine wpAny_bind (wpAny_bind (wpAny_field h1 h3 (x := .none) rfl (wpAny_bind (wpAny_field h1 h3 (x := .none) rfl (wpAny_bind (wpAny_field h1 h3 (x := .int (-1) t) rfl (wpAny_pure ?_)))))))
  refine wpAny_bind (slicePart_int ?_)
  show wpAny _ _ (if ((-1 : Int) == 0) = true then _ else _) _ _ s
  rw [if_neg (by decide)]
  refine wpAny_bind (slicePart_none (wpAny_bind (slicePart_none (wpAny_bind (wpAny_pure ?_)))))
  have e1 : Builtin.Slice.sliceAdjust none none (-1) (n : Int) = ((n : Int) - 1, -1) := rfl
  have e2 : Builtin.Slice.slicePlaces ((n : Int) - 1) (-1) (-1) = n := by
    unfold Builtin.Slice.slicePlaces
    rw [if_neg (by decide)]
    by_cases h : (n : Int) - 1 > -1
    · rw [if_pos h, show (-(-1) : Int) = 1 from rfl, Int.ediv_one]
      omega
    · rw [if_neg h]
      omega
  show wpAny _ _ (match Builtin.Slice.sliceAdjust none none (-1) (n : Int) with | (lo, hi) => pure (lo, (-1 : Int), Builtin.Slice.slicePlaces lo hi (-1))) _ _ s
  rw [e1]
  show wpAny _ _ (pure ((n : Int) - 1, (-1 : Int), Builtin.Slice.slicePlaces ((n : Int) - 1) (-1) (-1))) _ _ s
  rw [e2]
  exact wpAny_pure h
theorem tuple_back {t sl : Addr} {items : Array Value} {k : Tok} {Q : Value → Shared → Prop} (ht : IsTup s.heap t items) (hs : s.heap.IsSliceOf sl .none .none (.int (-1) k))
    (h : Q (.ref s.heap.objs.size) { s with heap := s.heap.push { cls := .type "tuple", data := .seq items.toList.reverse.toArray } }) (hsz : items.size ≤ sizeLine) : wpAny (model prog w) A (getItem (.ref t) (.ref sl)) Q E s := by
  have fits : sizeOk (.seq items.toList.reverse.toArray) := by
    show items.toList.reverse.toArray.size ≤ sizeLine
    rw [List.size_toArray, List.length_reverse, Array.length_toList]
    exact hsz
  obtain ⟨os, h1, h2, h3⟩ := id hs
  have hT : s.TypeIs (.ref sl) "slice" := ⟨os, h1, h2⟩
  unfold getItem
  try with_reducible refine wpAny_holding ?_
  first | refine wpAny_bind (wpAny_pure ?_) | skip
  refine wpAny_bind (wpAny_sequenceKey ht.typeIs (by decide) (wpAny_bind (wpAny_callSpecial?_slot (name := Str.ofString "__getitem__") ht.typeIs PyProof.Rows.slot_tuple_getitem (wpAny_call_entry PyProof.Rows.slot_tuple_getitem ht.typeIs entry_tuple_getitem ?_ (args_tuple_getitem _ _)))))
  show wpAny _ _ (Builtin.Tuple.tupleItemsOf (.ref t) >>= _) _ _ s
  refine wpAny_bind (tupleItemsOf_ ht (wpAny_bind (wpAny_typeOf hT ?_)))
  rw [if_pos (by decide)]
  refine wpAny_bind (applied_back hs ?_)
  show wpAny _ _ (if (((items.size : Int) - 1) == 0 && (-1 : Int) == 1 && items.size == items.size) = true then _ else _) _ _ s
  have no : ¬ ((((items.size : Int) - 1) == 0 && (-1 : Int) == 1 && items.size == items.size) = true) := by
    rw [show ((-1 : Int) == 1) = false from rfl, Bool.and_false, Bool.false_and]
    exact Bool.false_ne_true
  have e : ((List.range items.size).filterMap fun (m : Nat) => items[((items.size : Int) - 1 + (m : Int) * -1).toNat]?).toArray = items.toList.reverse.toArray := by
    congr 1
    have := range_back items.toList (fun (m : Nat) => items[((items.size : Int) - 1 + (m : Int) * -1).toNat]?) fun m hm => by
      rw [Array.length_toList] at hm ⊢
      have : ((items.size : Int) - 1 + (m : Int) * -1).toNat = items.size - 1 - m := by omega
      rw [this, Array.getElem?_toList]
    rw [Array.length_toList] at this
    exact this
  rw [if_neg no, e]
  first
    | exact wpAny_bind (m := Builtin.Tuple.tupleExact _) (wpAny_newObj_type (wpAny_pure ⟨_, rfl, wpAny_pure h⟩) fits)
    | exact wpAny_bind (m := Builtin.Tuple.tupleExact _) (wpAny_newObj_type (wpAny_bind (wpAny_pure (wpAny_pure ⟨_, rfl, wpAny_pure h⟩))) fits)
    | exact wpAny_bind (wpAny_bind (m := Builtin.Tuple.tupleExact _) (wpAny_newObj_type (wpAny_pure (wpAny_pure ⟨_, rfl, wpAny_pure h⟩)) fits))
    | exact wpAny_bind (wpAny_bind (m := Builtin.Tuple.tupleExact _) (wpAny_newObj_type (wpAny_pure ⟨_, rfl, wpAny_pure h⟩) fits))
end
section
variable {X : Cx} {e st : Expr} {te ts : TE} {pos p2 : Pos}
def RvR (X : Cx) (r : V → Hp → VK → Prop) : Prop :=
  ∀ (pins : List (Addr × Obj)) (s : Shared) (σ : St) (H : Hp) (x : V) (v : Value) (t : Tok) (sl : Addr) (Q : VK), Inv X pins σ H s → RelV x v → s.heap.IsSliceOf sl .none .none (.int (-1) t) → r x H Q →
    ∃ T id, typeLookup (.type T) "__getitem__" = pure (some (.builtin id)) ∧ s.TypeIs v T ∧ wpAny (model X.prog X.w) X.A (getItem v (.ref sl)) (EP X pins σ Q) X.xe s
def tRv (r : V → Hp → VK → Prop) (te ts : TE) : TE := fun σ H Q => te σ H fun x H1 => ts σ H1 fun y H2 => y = .int (-1) ∧ r x H2 Q
theorem pe_rev {r : V → Hp → VK → Prop} (hr : RvR X r) (he : PE X e te) (hs : PE X st ts) : PE X (.Subscript e (.Slice none none (some st) p2) pos) (tRv r te ts) := by
  intro pins s σ H Q I h
  refine Subscript_ (thn (he pins s σ H _ I h) fun v s1 ⟨x, H1, I1, r1, q1⟩ => ?_)
  refine wpAny_Slice ?_
  rw [evalPart_none]
  refine wpAny_pure (wpAny_pure ?_)
  rw [evalPart_some]
  refine thn (hs pins s1 σ H1 _ I1 q1) fun u s3 ⟨y, H3, I3, r3, q3⟩ => ?_
  obtain ⟨rfl, q⟩ := q3
  obtain ⟨t, rfl⟩ := r3
  have I4 : Inv X pins σ H3 { s3 with heap := s3.heap.push { cls := .type "slice", data := .fields #[.none, .none, .int (-1) t] } } := I3.kept (t' := s3.toks) fun b ob q => Heap.get?_push_of_some _ q
  obtain ⟨T, id, hT, ht, hg⟩ := hr pins _ σ H3 x v t s3.heap.objs.size Q I4 r1 (Heap.IsSliceOf.new ..) q
  show wpAny (model X.prog X.w) X.A (subscriptTail e (.Slice none none (some st) p2) v (.ref s3.heap.objs.size)) (EP X pins σ Q) X.xe { s3 with heap := s3.heap.push { cls := .type "slice", data := .fields #[.none, .none, .int (-1) t] } }
  exact tail_any (ops := [v, .ref s3.heap.objs.size]) ht hT hg (by with_unfolding_all rfl)
theorem RvR.or {r r' : V → Hp → VK → Prop} (h : RvR X r) (h' : RvR X r') : RvR X (fun x H Q => r x H Q ∨ r' x H Q) := by
  intro pins s σ H x v t sl Q I rx hs q
  rcases q with q | q
  · exact h pins s σ H x v t sl Q I rx hs q
  · exact h' pins s σ H x v t sl Q I rx hs q
def rRvL (K : PySem.W.Frag) : V → Hp → VK → Prop := fun x H Q => ∃ a xs, x = .ref a ∧ SqL K H a xs ∧ ∀ p, H p = none → Q (.ref p) (upd H p (.lst xs.reverse))
def rRvT (K : PySem.W.Frag) : V → Hp → VK → Prop := fun x H Q => ∃ a xs, x = .ref a ∧ SqT K H a xs ∧ ∀ p, H p = none → Q (.ref p) (upd H p (.tup xs.reverse))
theorem rv_list : RvR X (rRvL X.K) := by
  intro pins s σ H x v t sl Q I rx hs h
  obtain ⟨a, xs, rfl, hx, q⟩ := h
  cases rx
  obtain ⟨its, r, ht, hz⟩ := I.list hx
  have hlen := r.length
  refine ⟨"list", _, slot_list_getitem.lookup, ht.isList.typeIs, ?_⟩
  refine wpAny_getItem_list_slice ht.isList hs .none .none (.int (-1) t) (by simp) ?_ (by rw [List.size_toArray] <;> omega)
  rw [back_list]
  refine ⟨.ref s.heap.objs.size, _, I.laid (t' := s.toks) (o := .lst xs.reverse) (fun b ob q => Heap.get?_push_of_some _ q) (Nat.le_refl _) ?_, rfl, q _ (I.hok.fresh (Nat.le_refl _))⟩
  exact ⟨by rw [List.length_reverse]; exact hz, _, 0, r.reverse, Heap.get?_push_size _ rfl⟩
theorem rv_tup : RvR X (rRvT X.K) := by
  intro pins s σ H x v t sl Q I rx hs h
  obtain ⟨a, xs, rfl, hx, q⟩ := h
  cases rx
  obtain ⟨its, r, ht, hz⟩ := I.tuple hx
  have hlen : its.toArray.size = xs.length := by rw [List.size_toArray]; exact r.length.symm
  refine ⟨"tuple", _, PyProof.Rows.slot_tuple_getitem.lookup, ht.typeIs, ?_⟩
  refine tuple_back ht hs ?_ (by rw [hlen]; exact hz)
  refine ⟨.ref s.heap.objs.size, _, I.laid (t' := s.toks) (o := .tup xs.reverse) (fun b ob q => Heap.get?_push_of_some _ q) (Nat.le_refl _) ?_, rfl, q _ (I.hok.fresh (Nat.le_refl _))⟩
  exact ⟨by rw [List.length_reverse]; exact hz, _, r.reverse, IsTup.new _ _⟩
end
end L2
set_option Elab.async false
set_option linter.all false
set_option maxRecDepth 100000
namespace FT
open PySem PySem.Spec PyProof.Rows L2
theorem RDs.reverse {K : PySem.W.Frag} {ρ : List Addr} {H : Hp} : ∀ {ds : List D} {vs : List V}, RDs K ρ H ds vs → RDs K ρ H ds.reverse vs.reverse
  | [], vs, h => by
    simp only [RDs] at h
    subst h
    exact RDs.nil
  | d :: ds, vs, h => by
    simp only [RDs] at h
    obtain ⟨x, r, rfl, h2, h3⟩ := h
    rw [List.reverse_cons, List.reverse_cons]
    exact (RDs.reverse h3).append (RDs.cons h2 RDs.nil)
theorem rds2 {K : PySem.W.Frag} {ρ : List Addr} {H : Hp} {d d' : D} {vs : List V} (h : RDs K ρ H [d, d'] vs) : ∃ v v', vs = [v, v'] ∧ RD K ρ H d v ∧ RD K ρ H d' v' := by
  simp only [RDs] at h
  obtain ⟨x, r, rfl, h2, y, q, rfl, h3, rfl⟩ := h
  exact ⟨x, y, rfl, h2, h3⟩
def fRev : D → M D
  | .tup xs => pure (.tup xs.reverse)
  | .fl xs => newL xs.reverse
  | .ref n => do
    let xs ← getL n
    newL xs.reverse
  | _ => bad
def eRev (ma ms : G → M D) : G → M D := fun γ => do
  let x ← ma γ
  let y ← ms γ
  match y with
  | .int i => if i = -1 then fRev x else bad
  | _ => bad
def eNeg (ma : G → M D) : G → M D := fun γ => do
  let x ← ma γ
  match x with
  | .int i => pure (.int (-i))
  | _ => bad
def fMin : List D → M D
  | [.int i, .int j] => pure (.int (if j < i then j else i))
  | _ => bad
def fInt : List D → M D
  | [.int i] => pure (.int i)
  | [.bl b] => pure (.int (if b then 1 else 0))
  | _ => bad
section
variable {X : Cx} {EX : XX} {a b st : Expr} {pos p p2 : Pos} {ma ms : G → M D} {mr : G → M (List D)}
theorem rev_rel {ρ : List Addr} {h : AH} {H : Hp} {x : D} {v : V} {Q : VK} (r : RH X.K ρ h H) (rx : RD X.K ρ H x v) (fin : FE X.K EX ρ H Q (fRev x h)) : rRvL X.K v H Q ∨ rRvT X.K v H Q := by
  cases x <;> first | exact (show False from fin).elim | skip
  case tup xs =>
    simp only [RD] at rx
    obtain ⟨q, vs, rfl, h1, h2⟩ := rx
    have fin' : FE X.K EX ρ H Q (.ok (.tup xs.reverse) h) := fin
    exact .inr ⟨q, vs, rfl, h1, fun p hp => FE.tup fin' r h2.reverse hp⟩
  case fl xs =>
    simp only [RD] at rx
    obtain ⟨q, vs, rfl, h1, h2⟩ := rx
    have fin' : FE X.K EX ρ H Q (newL xs.reverse h) := fin
    unfold newL at fin'
    split at fin'
    · exact .inl ⟨q, vs, rfl, h1.sq, fun p hp => FE.lst fin' r h2.reverse hp⟩
    · exact fin'.elim
  case ref n =>
    simp only [RD] at rx
    obtain ⟨q, rfl, h1⟩ := rx
    have fin' : FE X.K EX ρ H Q ((getL n >>= fun xs => newL xs.reverse) h) := fin
    have f1 := Fin.bind fin'
    cases e : getL n h with
    | bad => rw [e] at f1; exact f1.elim
    | err z hz => exact (getL_no e).elim
    | ok xs h2 =>
      obtain ⟨rfl, q1⟩ := getL_ok e
      rw [e] at f1
      have f2 := f1 ρ H (Pre.refl _) (Ext.refl _ _) r
      dsimp only at f2
      unfold newL at f2
      split at f2
      · obtain ⟨a1, n1, vs, o1, d1⟩ := r.at q1
        rw [h1] at n1; cases n1
        exact .inl ⟨q, vs, rfl, SqL.of o1, fun p hp => FE.lst f2 r d1.reverse hp⟩
      · exact f2.elim
theorem se_rev (ha : SE X EX a ma) (hs : SE X EX st ms) : SE X EX (.Subscript a (.Slice none none (some st) p2) pos) (eRev ma ms) :=
  ⟨PE.imp (pe_rev (rv_list.or rv_tup) ha.h hs.h) fun σ H Q ⟨ρ, γ, h, rel, fin⟩ => ⟨ρ, γ, h, rel, (Fin.bind fin).mono fun x ρ1 h1 H1 p1 e1 r1 f1 v rv => ⟨ρ1, γ, h1, ⟨rel.g.mono p1 e1, r1⟩, (Fin.bind f1).mono fun y ρ2 h2 H2 p2 e2 r2 f2 u ru => by
    cases y <;> first | exact (show False from f2).elim | skip
    rename_i i
    simp only [RD] at ru
    subst ru
    dsimp only at f2
    split at f2
    · rename_i hi
      subst hi
      exact ⟨rfl, rev_rel r2 (rv.mono p2 e2) f2⟩
    · exact f2.elim⟩⟩⟩
theorem se_neg (ha : SE X EX a ma) : SE X EX (.UnaryOp .USub a pos) (eNeg ma) :=
  ⟨PE.imp (pe_un un_neg ha.h) fun σ H Q ⟨ρ, γ, h, rel, fin⟩ => ⟨ρ, γ, h, rel, (Fin.bind fin).mono fun x ρ1 h1 H1 p1 e1 r1 f1 v rv => by
    cases x <;> first | exact (show False from f1).elim | skip
    rename_i t
    simp only [RD] at rv
    exact ⟨t, rv, FE.here (d := .int (-t)) (h := h1) (ρ := ρ1) f1 r1 (by simp [RD])⟩⟩⟩
theorem ar_min : AR X.K EX (fun xs H Q => ∃ i j, xs = [.int i, .int j] ∧ Q (.int (if j < i then j else i)) H) fMin := by
  intro ρ h H ds vs Q r rd fin
  unfold fMin at fin
  split at fin
  · obtain ⟨v, u, rfl, rv, ru⟩ := rds2 rd
    simp only [RD] at rv ru
    subst rv; subst ru
    exact ⟨_, _, rfl, FE.here fin r (by simp [RD])⟩
  · exact fin.elim
theorem ar_int : AR X.K EX (fun xs H Q => (∃ i, xs = [.int i] ∧ Q (.int i) H) ∨ ∃ k, xs = [.bl k] ∧ Q (.int (if k then 1 else 0)) H) fInt := by
  intro ρ h H ds vs Q r rd fin
  unfold fInt at fin
  split at fin
  · obtain ⟨v, rfl, rv⟩ := rds1 rd
    simp only [RD] at rv
    subst rv
    exact .inl ⟨_, rfl, FE.here fin r (by simp [RD])⟩
  · obtain ⟨v, rfl, rv⟩ := rds1 rd
    simp only [RD] at rv
    subst rv
    exact .inr ⟨_, rfl, FE.here fin r (by simp [RD])⟩
  · exact fin.elim
theorem se_min (hc : X.calm = true) (hg : Gl X "min") (hm : X.mg "min" = none) (ha : SA X EX [a, b] mr) (he : starEach [a, b] X.env = (false, eval a X.env) :: starEach [b] X.env := by rfl) (hpl : (backTo pos (starEach [b] X.env)).any (·.1) = false := by rfl) : SE X EX (.Call (.Name "min" p) [a, b] [] pos) (eCall fMin mr) :=
  se_args (pe_callB (call_min2 hc) hg hm (by decide +kernel) ha.h (by decide) (by decide) he hpl) ar_min
theorem se_intof (hg : Gl X "int") (hm : X.mg "int" = none) (ha : SA X EX [a] mr) (he : starEach [a] X.env = [(false, eval a X.env)] := by rfl) : SE X EX (.Call (.Name "int" p) [a] [] pos) (eCall fInt mr) :=
  se_args (pe_callTy call_int1 hg hm (by decide +kernel) ha.h (by decide) (by decide) he rfl) ar_int
end
end FT
set_option Elab.async false
set_option linter.all false
set_option maxRecDepth 100000
set_option maxHeartbeats 2000000
/-! What holds behind a run. -/
namespace FT
open PySem PySem.Spec PyProof.Rows L2
variable {α β : Type}
def W (m : M α) (h : AH) (Q : α → AH → Prop) : Prop := ∃ a h', m h = .ok a h' ∧ Q a h'
theorem W_bind {m : M α} {f : α → M β} {h : AH} {Q : β → AH → Prop} : W (m >>= f) h Q ↔ W m h fun a h1 => W (f a) h1 Q := by
  constructor
  · rintro ⟨b, h2, e, q⟩
    rw [bindM] at e
    cases em : m h with
    | ok a h1 => rw [em] at e; exact ⟨a, h1, em, b, h2, e, q⟩
    | err x h1 => rw [em] at e; cases e
    | bad => rw [em] at e; cases e
  · rintro ⟨a, h1, e, b, h2, e', q⟩
    exact ⟨b, h2, by rw [M.bind_ok e, e'], q⟩
theorem W_pure {a : α} {h : AH} {Q : α → AH → Prop} : W (Pure.pure a : M α) h Q ↔ Q a h := by
  constructor
  · rintro ⟨b, h2, e, q⟩; cases e; exact q
  · exact fun q => ⟨a, h, rfl, q⟩
theorem W_bad {h : AH} {Q : α → AH → Prop} : W (bad : M α) h Q ↔ False := by
  constructor
  · rintro ⟨b, h2, e, q⟩; cases e
  · exact False.elim
theorem W_ite {c : Prop} [Decidable c] {m n : M α} {h : AH} {Q : α → AH → Prop} : W (if c then m else n) h Q ↔ if c then W m h Q else W n h Q := by
  split <;> exact Iff.rfl
theorem W.mono {m : M α} {h : AH} {Q Q' : α → AH → Prop} (z : W m h Q) (f : ∀ a h', Q a h' → Q' a h') : W m h Q' := let ⟨a, h', e, q⟩ := z; ⟨a, h', e, f a h' q⟩
theorem W.of {m : M α} {h h' : AH} {a : α} {Q : α → AH → Prop} (e : m h = .ok a h') (q : Q a h') : W m h Q := ⟨a, h', e, q⟩
theorem w_nil {γ : G} {h : AH} {Q : Out → AH → Prop} : W (bNil γ) h Q ↔ Q (.nx γ) h := W_pure
def contW (mt : G → M Out) (Q : Out → AH → Prop) : Out → AH → Prop := fun o h => match o with
  | .nx γ => W (mt γ) h Q
  | o => Q o h
theorem contW_nx {mt : G → M Out} {Q : Out → AH → Prop} {γ : G} {h : AH} : contW mt Q (.nx γ) h ↔ W (mt γ) h Q := Iff.rfl
theorem contW_rt {mt : G → M Out} {Q : Out → AH → Prop} {d : D} {h : AH} : contW mt Q (.rt d) h ↔ Q (.rt d) h := Iff.rfl
theorem w_cons {ms mt : G → M Out} {γ : G} {h : AH} {Q : Out → AH → Prop} : W (bCons ms mt γ) h Q ↔ W (ms γ) h (contW mt Q) := by
  unfold bCons
  rw [W_bind]
  constructor
  · rintro ⟨o, h1, e, q⟩
    refine ⟨o, h1, e, ?_⟩
    cases o with
    | nx γ => exact q
    | rt d => exact (W_pure (a := Out.rt d) (Q := Q)).mp q
    | bk d => exact (W_pure (a := Out.bk d) (Q := Q)).mp q
    | ct d => exact (W_pure (a := Out.ct d) (Q := Q)).mp q
  · rintro ⟨o, h1, e, q⟩
    refine ⟨o, h1, e, ?_⟩
    cases o with
    | nx γ => exact q
    | rt d => exact W_pure.mpr q
    | bk d => exact W_pure.mpr q
    | ct d => exact W_pure.mpr q
def runW (Q : D → AH → Prop) : Out → AH → Prop := fun o h => match o with
  | .nx _ => Q .non h
  | .rt d => Q d h
  | _ => False
theorem w_run {n : Nat} {mb : G → M Out} {ds : List D} {h : AH} {Q : D → AH → Prop} (z : W (mb (startG n ds)) h (runW Q)) : W (runF n mb ds) h Q := by
  unfold runF
  rw [W_bind]
  refine z.mono fun o h1 q => ?_
  cases o with
  | nx γ => exact W_pure.mpr q
  | rt d => exact W_pure.mpr q
  | bk d => exact q.elim
  | ct d => exact q.elim
theorem add_ii {i j : Int} : fAdd (.int i) (.int j) = pure (.int (i + j)) := rfl
theorem sub_ii {i j : Int} : fSub (.int i) (.int j) = pure (.int (i - j)) := rfl
theorem gt_ii {i j : Int} : fGt (.int i) (.int j) = pure (.bl (decide (j < i))) := rfl
theorem ge_ii {i j : Int} : fGe (.int i) (.int j) = pure (.bl (decide (j ≤ i))) := rfl
theorem lt_ii {i j : Int} : fLt (.int i) (.int j) = pure (.bl (decide (i < j))) := rfl
theorem le_ii {i j : Int} : fLe (.int i) (.int j) = pure (.bl (decide (i ≤ j))) := rfl
theorem eq_ii {i j : Int} {b : Bool} : fEq b (.int i) (.int j) = pure (.bl (decide (i = j) != b)) := rfl
theorem div_ii {i j : Int} (h : 0 < j) (h2 : j < 1073741824) : fDiv (.int i) (.int j) = pure (.int (i / j)) := by
  unfold fDiv fIC
  dsimp only
  rw [if_pos (by rw [decide_eq_true h, decide_eq_true h2]; rfl)]
theorem asB_bl {b : Bool} : asB (.bl b) = pure b := rfl
theorem truD_bl {b : Bool} : truD (.bl b) = pure b := rfl
theorem W_asRef {n : Nat} {h : AH} {Q : Nat → AH → Prop} : W (asRef (.ref n)) h Q ↔ W (getL n) h fun _ h1 => Q n h1 := by
  unfold W asRef getL
  dsimp only
  cases e : h[n]? with
  | none => exact ⟨fun ⟨_, _, z, _⟩ => (by cases z), fun ⟨_, _, z, _⟩ => (by cases z)⟩
  | some o =>
    cases o with
    | set ks => exact ⟨fun ⟨_, _, z, _⟩ => (by cases z), fun ⟨_, _, z, _⟩ => (by cases z)⟩
    | lst xs => exact ⟨fun ⟨_, _, z, q⟩ => (by cases z; exact ⟨xs, h, rfl, q⟩), fun ⟨_, _, z, q⟩ => (by cases z; exact ⟨n, h, rfl, q⟩)⟩
theorem isi_bl {b : Bool} {t : String} : fIsi t (.bl b) = pure (.bl (subT "bool" t)) := rfl
theorem isi_int {b : Int} {t : String} : fIsi t (.int b) = pure (.bl (subT "int" t)) := rfl
theorem isi_str {b : Str} {t : String} : fIsi t (.str b) = pure (.bl (subT "str" t)) := rfl
theorem isi_tup {b : List D} {t : String} : fIsi t (.tup b) = pure (.bl (subT "tuple" t)) := rfl
theorem W.pu {m : M α} {a : α} {h : AH} {Q : α → AH → Prop} (p : Pu m a) (q : ∀ j, Q a (h ++ j)) : W m h Q := let ⟨j, e⟩ := p h; ⟨a, h ++ j, e, q j⟩
/-- a loop over what stays -/
def forW (J : G → AH → Prop) (R : D → AH → Prop) : Out → AH → Prop := fun o h => match o with
  | .nx γ => J γ h
  | .ct γ => J γ h
  | .bk _ => False
  | .rt d => R d h
def endW (J : G → AH → Prop) (R : D → AH → Prop) : Out → AH → Prop := fun o h => match o with
  | .nx γ => J γ h
  | .ct _ => False
  | .bk _ => False
  | .rt d => R d h
theorem for_inv {src : Src} {g : D → G → M G} {body : G → M Out} (I : Nat → G → AH → Prop) (R : D → AH → Prop) (good : ∀ i γ h, I i γ h → src.good h) : ∀ (items : List D) (n : Nat) (γ : G) (h : AH),
    (∀ i d γ h, items[i]? = some d → I (n + i) γ h → W (g d γ) h fun γ1 h1 => W (body γ1) h1 (forW (I (n + i + 1)) R)) → I n γ h →
    W (forR src g body items γ) h (endW (I (n + items.length)) R)
  | [], n, γ, h, _, q => ⟨.nx γ, h, by unfold forR Src.chk; simp [good _ _ _ q], q⟩
  | d :: r, n, γ, h, z, q => by
    unfold forR
    rw [W_bind]
    refine W.of (a := ()) (h' := h) (by unfold Src.chk; simp [good _ _ _ q]) ?_
    rw [W_bind]
    refine (z 0 d γ h rfl q).mono fun γ1 h1 q1 => ?_
    rw [W_bind]
    refine q1.mono fun o h2 q2 => ?_
    have step : ∀ γ2, I (n + 0 + 1) γ2 h2 → W (forR src g body r γ2) h2 (endW (I (n + (d :: r).length)) R) := fun γ2 w => by
      have := for_inv (src := src) I R good r (n + 1) γ2 h2 (fun i d γ h e q => by
        have := z (i + 1) d γ h (by simpa using e) (by rw [show n + (i + 1) = n + 1 + i by omega]; exact q)
        rw [show n + (i + 1) + 1 = n + 1 + i + 1 by omega] at this
        exact this) (by simpa using w)
      rw [show n + 1 + r.length = n + (d :: r).length by simp; omega] at this
      exact this
    cases o with
    | nx γ2 => exact step γ2 q2
    | ct γ2 => exact step γ2 q2
    | bk γ2 => exact q2.elim
    | rt v => exact W_pure.mpr q2
theorem w_seq {ms mt : G → M Out} {γ : G} {h : AH} {Q : Out → AH → Prop} (J : G → AH → Prop) (z : W (ms γ) h (endW J fun d h => Q (.rt d) h)) (k : ∀ γ h, J γ h → W (mt γ) h Q) : W (bCons ms mt γ) h Q := by
  rw [w_cons]
  refine z.mono fun o h1 q => ?_
  cases o with
  | nx γ => exact k γ h1 q
  | rt d => exact q
  | bk d => exact q.elim
  | ct d => exact q.elim
/-- over numbers up to n -/
theorem intsD_get {n i : Nat} {d : D} (e : (intsD n)[i]? = some d) : d = .int i ∧ i < n := by
  unfold intsD at e
  rw [List.getElem?_map] at e
  obtain ⟨j, e1, e2⟩ := Option.map_eq_some_iff.mp e
  obtain ⟨h1, h2⟩ := List.getElem?_eq_some_iff.mp e1
  simp at h1 h2
  subst h2
  exact ⟨e2.symm, h1⟩
theorem for_range {ma : G → M D} {i : Nat} {body : G → M Out} {γ : G} {h : AH} (I : Nat → G → AH → Prop) (R : D → AH → Prop) {Q : Out → AH → Prop}
    (hs : W (ma γ) h fun d h1 => ∃ n : Nat, d = .int n ∧ n < 4611686018427387904 ∧ I 0 γ h1 ∧ (∀ k γ h, k < n → I k γ h → W (body (γ.set i (some (.int k)))) h (forW (I (k + 1)) R)) ∧ (∀ γ h', I n γ h' → Q (.nx γ) h') ∧ ∀ d h', R d h' → Q (.rt d) h') :
    W (sFor (iRange ma) (gN i) body γ) h Q := by
  unfold sFor iRange
  rw [W_bind, W_bind]
  refine hs.mono fun d h1 ⟨n, e, hn, i0, st, fin⟩ => ?_
  subst e
  dsimp only
  rw [if_pos (by omega), W_pure]
  have := for_inv (src := .con (intsD (n : Int).toNat)) (g := gN i) (body := body) I R (fun _ _ _ _ => trivial) (intsD (n : Int).toNat) 0 γ h1 (fun k d γ h e q => by
    obtain ⟨rfl, hk⟩ := intsD_get e
    rw [Nat.zero_add] at q ⊢
    exact W_pure.mpr (st k γ h (by simpa using hk) q)) i0
  rw [show 0 + (intsD (n : Int).toNat).length = n by unfold intsD; simp] at this
  refine this.mono fun o h' q => ?_
  cases o with
  | nx γ => exact fin.1 γ h' q
  | rt d => exact fin.2 d h' q
  | bk d => exact q.elim
  | ct d => exact q.elim
theorem for_src {mi : G → M Src} {g : D → G → M G} {body : G → M Out} {γ : G} {h : AH} (I : Nat → G → AH → Prop) (R : D → AH → Prop) {Q : Out → AH → Prop}
    (hs : W (mi γ) h fun src h1 => I 0 γ h1 ∧ (∀ i γ h, I i γ h → src.good h) ∧ (∀ i d γ h, src.items[i]? = some d → I i γ h → W (g d γ) h fun γ1 h1 => W (body γ1) h1 (forW (I (i + 1)) R)) ∧ (∀ γ h', I src.items.length γ h' → Q (.nx γ) h') ∧ ∀ d h', R d h' → Q (.rt d) h') :
    W (sFor mi g body γ) h Q := by
  unfold sFor
  rw [W_bind]
  refine hs.mono fun src h1 ⟨i0, good, st, fin⟩ => ?_
  have := for_inv (src := src) (g := g) (body := body) I R good src.items 0 γ h1 (fun k d γ h e q => by
    rw [Nat.zero_add] at q ⊢
    exact st k d γ h e q) i0
  rw [Nat.zero_add] at this
  refine this.mono fun o h' q => ?_
  cases o with
  | nx γ => exact fin.1 γ h' q
  | rt d => exact fin.2 d h' q
  | bk d => exact q.elim
  | ct d => exact q.elim
/-- a comprehension of code that lays nothing -/
theorem compR_px {g : D → G → M G} {k : G → M Bool} {me : G → M D} {γ : G} {p : D → Bool} {f : D → D} (src : Src) (h0 : AH) (hg : ∀ j, src.good (h0 ++ j)) : ∀ (items : List D) (acc : List D), acc.length + items.length ≤ 1000000 →
    (∀ d ∈ items, ∃ γ1, (∀ h, g d γ h = .ok γ1 h) ∧ (∀ j, k γ1 (h0 ++ j) = .ok (p d) (h0 ++ j)) ∧ (p d = true → ∀ j, me γ1 (h0 ++ j) = .ok (f d) (h0 ++ j))) →
    compR src g k me h0.length γ items (h0 ++ [.lst acc]) = .ok () (h0 ++ [.lst (acc ++ (items.filter p).map f)])
  | [], acc, hl, hd => by unfold compR Src.chk; simp [hg]
  | d :: r, acc, hl, hd => by
    obtain ⟨γ1, e1, e2, e3⟩ := hd d List.mem_cons_self
    unfold compR
    have chk : src.chk (h0 ++ [.lst acc]) = .ok () (h0 ++ [.lst acc]) := by unfold Src.chk; simp [hg]
    rw [M.bind_ok chk, M.bind_ok (e1 _), M.bind_ok (e2 _)]
    simp only [List.length_cons] at hl
    have hr : ∀ d ∈ r, ∃ γ1, (∀ h, g d γ h = .ok γ1 h) ∧ (∀ j, k γ1 (h0 ++ j) = .ok (p d) (h0 ++ j)) ∧ (p d = true → ∀ j, me γ1 (h0 ++ j) = .ok (f d) (h0 ++ j)) := fun x hx => hd x (List.mem_cons_of_mem _ hx)
    cases hp : p d with
    | false =>
      rw [if_neg (by decide), compR_px src h0 hg r acc (by omega) hr, List.filter_cons, hp]
      rfl
    | true =>
      rw [if_pos rfl, M.bind_ok (e3 hp _)]
      have ap : fAppend h0.length (f d) (h0 ++ [.lst acc]) = .ok .non (h0 ++ [.lst (acc ++ [f d])]) := by
        unfold fAppend updL
        have g1 : (h0 ++ [O.lst acc])[h0.length]? = some (.lst acc) := by simp
        rw [g1]
        dsimp only
        have hs : (acc ++ [f d]).length ≤ sizeLine := by
          rw [List.length_append, List.length_singleton]
          exact Nat.le_trans (show acc.length + 1 ≤ 1000000 by omega) (by decide)
        rw [if_pos hs]
        simp
      rw [M.bind_ok ap, compR_px src h0 hg r (acc ++ [f d]) (by simp; omega) hr, List.filter_cons, hp]
      simp
theorem comp_px {cap : List (Option Nat)} {mi : G → M Src} {g : D → G → M G} {k : G → M Bool} {me : G → M D} {γ : G} {src : Src} {h : AH} (p : D → Bool) (f : D → D) (hi : mi γ h = .ok src h) (hg : ∀ j, src.good (h ++ j)) (hl : src.items.length ≤ 1000000)
    (hd : ∀ d ∈ src.items, ∃ γ1, (∀ h, g d (capG cap γ) h = .ok γ1 h) ∧ (∀ j, k γ1 (h ++ j) = .ok (p d) (h ++ j)) ∧ (p d = true → ∀ j, me γ1 (h ++ j) = .ok (f d) (h ++ j))) :
    eComp cap mi g k me γ h = .ok (.ref h.length) (h ++ [.lst ((src.items.filter p).map f)]) := by
  have e := compR_px (g := g) (k := k) (me := me) (γ := capG cap γ) (p := p) (f := f) src h hg src.items [] (by simpa using hl) hd
  show (mi γ >>= _) h = _
  rw [M.bind_ok hi]
  rw [M.bind_ok (m := (fun h => Res.ok (List.length h) (h ++ [O.lst []]) : M Nat)) (h := h) rfl]
  rw [M.bind_ok (by simpa using e)]
  rfl
end FT
set_option Elab.async false
set_option linter.all false
set_option maxRecDepth 100000
set_option maxHeartbeats 2000000
namespace FT
open PySem PySem.Spec PyProof.Rows L2
/-- what lies ahead stays -/
def Kp (r r' : AH) : Prop := ∀ (n : Nat) (o : O), r[n]? = some o → r'[n]? = some o
theorem Kp.refl (r : AH) : Kp r r := fun _ _ e => e
theorem Kp.trans {a b c : AH} (h : Kp a b) (h' : Kp b c) : Kp a c := fun n o e => h' n o (h n o e)
theorem Kp.app (r j : AH) : Kp r (r ++ j) := fun n o e => by
  rw [List.getElem?_append_left (List.getElem?_eq_some_iff.mp e).1, e]
theorem Kp.set {r r' : AH} {n : Nat} {o : O} (h : Kp r r') (hn : r.length ≤ n) : Kp r (r'.set n o) := fun m o' e => by
  have := (List.getElem?_eq_some_iff.mp e).1
  rw [List.getElem?_set_ne (by omega)]
  exact h m o' e
theorem Kp.len {r r' : AH} (h : Kp r r') : r.length ≤ r'.length := by
  by_cases e : r.length = 0
  · omega
  · have := h (r.length - 1) r[r.length - 1] (List.getElem?_eq_getElem (by omega))
    have := (List.getElem?_eq_some_iff.mp this).1
    omega
/-! ### comprehensions that lay nothing but what they make -/
theorem tup_pu {cap : List (Option Nat)} {mi : G → M Src} {g : D → G → M G} {k : G → M Bool} {me : G → M D} {γ : G} {items : List D} (p : D → Bool) (f : D → D) (hi : Pu (mi γ) (.con items)) (hl : items.length ≤ 1000000)
    (hd : ∀ d ∈ items, ∃ γ1, (∀ h, g d (capG cap γ) h = .ok γ1 h) ∧ Pu (k γ1) (p d) ∧ (p d = true → Pu (me γ1) (f d))) : Pu (eCall fTuple (aCons (eComp cap mi g k me) aNil) γ) (.tup ((items.filter p).map f)) := fun h => by
  obtain ⟨i, j1, j2, ei, e⟩ := comp_pu (cap := cap) p f hi hl hd h
  refine ⟨j1 ++ .lst ((items.filter p).map f) :: j2, ?_⟩
  have e' : aCons (eComp cap mi g k me) aNil γ h = .ok [.ref i] (h ++ j1 ++ .lst ((items.filter p).map f) :: j2) := by
    show (eComp _ _ _ _ _ _ >>= _) h = _
    rw [M.bind_ok e]
    rfl
  show (aCons _ _ _ >>= _) h = _
  rw [M.bind_ok e']
  have q : getL i (h ++ j1 ++ .lst ((items.filter p).map f) :: j2) = .ok ((items.filter p).map f) (h ++ j1 ++ .lst ((items.filter p).map f) :: j2) := by
    unfold getL
    rw [ei, show h.length + j1.length = (h ++ j1).length by simp]
    simp
  show (getL i >>= _) _ = _
  rw [M.bind_ok q]
  simp
theorem compR2_pu {g : D → G → M G} {mi : G → M Src} {g1 : D → G → M G} {me : G → M D} {γ : G} (xs : List D) : ∀ (items : List D) (h0 : AH) (acc : List D) (j : AH), acc.length + items.length * 1000 ≤ 1000000 →
    (∀ d ∈ items, ∃ γ1 ys, (∀ h, g d γ h = .ok γ1 h) ∧ Pu (mi γ1) (.con ys) ∧ ys.length ≤ 1000 ∧ ∀ y ∈ ys, ∃ γ2, (∀ h, g1 y γ1 h = .ok γ2 h) ∧ Pu (me γ2) (.bl true)) →
    ∃ n j', compR2 (.con xs) g mi g1 (fun _ => Pure.pure true) me h0.length γ items (h0 ++ .lst acc :: j) = .ok () (h0 ++ .lst (acc ++ List.replicate n (.bl true)) :: j')
  | [], h0, acc, j, hl, hd => ⟨0, j, by unfold compR2 Src.chk Src.good; simp⟩
  | d :: r, h0, acc, j, hl, hd => by
    obtain ⟨γ1, ys, e1, e2, l, e3⟩ := hd d List.mem_cons_self
    obtain ⟨j1, q1⟩ := e2 (h0 ++ .lst acc :: j)
    unfold compR2
    have chk : (Src.con xs).chk (h0 ++ .lst acc :: j) = .ok () (h0 ++ .lst acc :: j) := by unfold Src.chk Src.good; simp
    rw [M.bind_ok chk, M.bind_ok (e1 _), M.bind_ok q1]
    simp only [List.length_cons] at hl
    obtain ⟨j2, q2⟩ := compR_pu (g := g1) (k := fun _ => Pure.pure true) (me := me) (γ := γ1) (p := fun _ => true) (f := fun _ => .bl true) ys ys h0 acc (j ++ j1) (by omega) (fun y hy => by
      obtain ⟨γ2, z1, z2⟩ := e3 y hy
      exact ⟨γ2, z1, Pu.pure _, fun _ => z2⟩)
    have q3 : compR (.con ys) g1 (fun _ => Pure.pure true) me h0.length γ1 (Src.con ys).items (h0 ++ .lst acc :: j ++ j1) = .ok () (h0 ++ .lst (acc ++ List.replicate ys.length (.bl true)) :: j2) := by
      rw [List.append_assoc, List.cons_append, show (Src.con ys).items = ys from rfl, q2]
      simp [List.map_const']
    rw [M.bind_ok q3]
    obtain ⟨n, j', q⟩ := compR2_pu xs r h0 (acc ++ List.replicate ys.length (.bl true)) j2 (by simp; omega) fun x hx => hd x (List.mem_cons_of_mem _ hx)
    refine ⟨ys.length + n, j', ?_⟩
    rw [q, List.append_assoc, List.replicate_append_replicate]
theorem all2_pu {cap : List (Option Nat)} {mi : G → M Src} {g : D → G → M G} {mi1 : G → M Src} {g1 : D → G → M G} {me : G → M D} {γ : G} {items : List D} (hi : Pu (mi γ) (.con items)) (hl : items.length ≤ 1000)
    (hd : ∀ d ∈ items, ∃ γ1 ys, (∀ h, g d (capG cap γ) h = .ok γ1 h) ∧ Pu (mi1 γ1) (.con ys) ∧ ys.length ≤ 1000 ∧ ∀ y ∈ ys, ∃ γ2, (∀ h, g1 y γ1 h = .ok γ2 h) ∧ Pu (me γ2) (.bl true)) : Pu (eCall (fAll false) (aCons (eComp2 cap mi g mi1 g1 (fun _ => Pure.pure true) me) aNil) γ) (.bl true) := fun h => by
  obtain ⟨j1, e1⟩ := hi h
  obtain ⟨n, j', e⟩ := compR2_pu (g := g) (mi := mi1) (g1 := g1) (me := me) (γ := capG cap γ) items items (h ++ j1) [] [] (by simp; omega) hd
  have ec : eComp2 cap mi g mi1 g1 (fun _ => Pure.pure true) me γ h = .ok (.ref (h ++ j1).length) (h ++ j1 ++ .lst (List.replicate n (.bl true)) :: j') := by
    show (mi γ >>= _) h = _
    rw [M.bind_ok e1]
    rw [M.bind_ok (m := (fun h => Res.ok (List.length h) (h ++ [O.lst []]) : M Nat)) (h := h ++ j1) rfl]
    rw [show (Src.con items).items = items from rfl, M.bind_ok e]
    simp
  refine ⟨j1 ++ .lst (List.replicate n (.bl true)) :: j', ?_⟩
  have bl : ∀ n : Nat, blsD (List.replicate n (.bl true)) = some (List.replicate n true) := fun n => by
    induction n with
    | zero => rfl
    | succ n ih => simp [List.replicate_succ, blsD, ih]
  have hg : (h ++ j1 ++ O.lst (List.replicate n (.bl true)) :: j')[(h ++ j1).length]? = some (.lst (List.replicate n (.bl true))) := by simp
  have ha : aCons (eComp2 cap mi g mi1 g1 (fun _ => Pure.pure true) me) aNil γ h = .ok [.ref (h ++ j1).length] (h ++ j1 ++ .lst (List.replicate n (.bl true)) :: j') := by
    show (eComp2 cap mi g mi1 g1 (fun _ => Pure.pure true) me γ >>= _) h = _
    rw [M.bind_ok ec]; rfl
  show (aCons (eComp2 cap mi g mi1 g1 (fun _ => Pure.pure true) me) aNil γ >>= _) h = _
  rw [M.bind_ok ha]
  unfold fAll getL
  simp only [bindM]
  rw [hg]
  dsimp only
  rw [bl]
  simp
/-! ### comprehensions whose parts lay and draw -/
theorem compR_w {src : Src} {g : D → G → M G} {k : G → M Bool} {me : G → M D} {n0 : Nat} {γ : G} (I : Nat → AH → Prop) (good : ∀ i h, I i h → src.good h) : ∀ (items : List D) (n : Nat) (h : AH),
    (∀ i d h, items[i]? = some d → I (n + i) h → W (g d γ) h fun γ1 h1 => W (k γ1) h1 fun t h2 => if t = true then W (me γ1) h2 fun v h3 => W (fAppend n0 v) h3 fun _ h4 => I (n + i + 1) h4 else I (n + i + 1) h2) → I n h →
    W (compR src g k me n0 γ items) h fun _ h' => I (n + items.length) h'
  | [], n, h, _, q => ⟨(), h, by unfold compR Src.chk; simp [good _ _ q], q⟩
  | d :: r, n, h, z, q => by
    have more : ∀ h2, I (n + 0 + 1) h2 → W (compR src g k me n0 γ r) h2 fun _ h' => I (n + (d :: r).length) h' := fun h2 q2 => by
      have := compR_w (src := src) (g := g) (k := k) (me := me) (n0 := n0) (γ := γ) I good r (n + 1) h2 (fun i d h e q => by
        have := z (i + 1) d h (by simpa using e) (by rw [show n + (i + 1) = n + 1 + i by omega]; exact q)
        rw [show n + (i + 1) + 1 = n + 1 + i + 1 by omega] at this
        exact this) (by simpa using q2)
      rw [show n + 1 + r.length = n + (d :: r).length by simp; omega] at this
      exact this
    unfold compR
    rw [W_bind]
    refine W.of (a := ()) (h' := h) (by unfold Src.chk; simp [good _ _ q]) ?_
    rw [W_bind]
    refine (z 0 d h rfl q).mono fun γ1 h1 q1 => ?_
    rw [W_bind]
    refine q1.mono fun t h2 q2 => ?_
    cases t with
    | false => rw [if_neg (by decide)] at q2 ⊢; exact more h2 q2
    | true =>
      rw [if_pos rfl] at q2 ⊢
      rw [W_bind]
      refine q2.mono fun v h3 q3 => ?_
      rw [W_bind]
      exact q3.mono fun _ h4 q4 => more h4 q4
theorem comp_w {cap : List (Option Nat)} {mi : G → M Src} {g : D → G → M G} {k : G → M Bool} {me : G → M D} {γ : G} {h : AH} {Q : D → AH → Prop}
    (hs : W (mi γ) h fun src h1 => ∃ I : Nat → AH → Prop, I 0 (h1 ++ [.lst []]) ∧ (∀ i h, I i h → src.good h) ∧
      (∀ i d h, src.items[i]? = some d → I i h → W (g d (capG cap γ)) h fun γ1 h1' => W (k γ1) h1' fun t h2 => if t = true then W (me γ1) h2 fun v h3 => W (fAppend h1.length v) h3 fun _ h4 => I (i + 1) h4 else I (i + 1) h2) ∧
      ∀ h', I src.items.length h' → Q (.ref h1.length) h') : W (eComp cap mi g k me γ) h Q := by
  unfold eComp
  rw [W_bind]
  refine hs.mono fun src h1 ⟨I, i0, good, st, fin⟩ => ?_
  rw [W_bind]
  refine W.of (a := h1.length) (h' := h1 ++ [.lst []]) rfl ?_
  rw [W_bind]
  have := compR_w (src := src) (g := g) (k := k) (me := me) (n0 := h1.length) (γ := capG cap γ) I good src.items 0 (h1 ++ [.lst []]) (fun i d h e q => by
    rw [Nat.zero_add] at q ⊢
    exact st i d h e q) i0
  rw [Nat.zero_add] at this
  refine this.mono fun _ h' q => ?_
  rw [W_pure]
  exact fin h' q
end FT
set_option Elab.async false
set_option linter.all false
set_option maxRecDepth 100000
set_option maxHeartbeats 2000000
namespace FT
open PySem PySem.Spec PyProof.Rows L2
def Pool (gr sm : List Int) (s c : Int) (r : AH) : AH := .lst (gr.map .int) :: .lst (sm.map .int) :: .lst [.ref 0, .ref 1, .int s, .int c] :: r
def PS (h : AH) (k : Int) (r : AH) : Prop := ∃ gr sm s c, h = Pool gr sm s c r ∧ 0 ≤ s ∧ s < 2147483647 ∧ 0 ≤ c ∧ c ≤ k ∧ gr.length ≤ 63 ∧ sm.length ≤ 63
theorem PS.up {h : AH} {k k' : Int} {r : AH} (p : PS h k r) (hk : k ≤ k') : PS h k' r := by
  obtain ⟨gr, sm, s, c, e, h1, h2, h3, h4, h5, h6⟩ := p
  exact ⟨gr, sm, s, c, e, h1, h2, h3, by omega, h5, h6⟩
theorem PS.app {h : AH} {k : Int} {r : AH} (p : PS h k r) (j : AH) : PS (h ++ j) k (r ++ j) := by
  obtain ⟨gr, sm, s, c, e, q⟩ := p
  exact ⟨gr, sm, s, c, by rw [e]; rfl, q⟩
theorem PS.get {h : AH} {k : Int} {r : AH} (p : PS h k r) (n : Nat) : h[n + 3]? = r[n]? := by
  obtain ⟨gr, sm, s, c, e, q⟩ := p
  rw [e]; rfl
theorem PS.len {h : AH} {k : Int} {r : AH} (p : PS h k r) : h.length = r.length + 3 := by
  obtain ⟨gr, sm, s, c, e, q⟩ := p
  rw [e]; rfl
theorem PS.set {h : AH} {k : Int} {r : AH} (p : PS h k r) (n : Nat) (o : O) : PS (h.set (n + 3) o) k (r.set n o) := by
  obtain ⟨gr, sm, s, c, e, q⟩ := p
  exact ⟨gr, sm, s, c, by rw [e]; rfl, q⟩
theorem w_getL {h : AH} {k : Int} {r : AH} {n : Nat} {xs : List D} {Q : List D → AH → Prop} (p : PS h k r) (e : r[n]? = some (.lst xs)) (q : Q xs h) : W (getL (n + 3)) h Q :=
  ⟨xs, h, by unfold getL; rw [p.get, e], q⟩
theorem w_newL {h : AH} {k : Int} {r : AH} {xs : List D} {Q : D → AH → Prop} (p : PS h k r) (hl : xs.length ≤ 1000000) (z : ∀ h', PS h' k (r ++ [.lst xs]) → Q (.ref (r.length + 3)) h') : W (newL xs) h Q :=
  ⟨.ref (r.length + 3), h ++ [.lst xs], by unfold newL; rw [if_pos (Nat.le_trans hl (by decide)), p.len], z _ (p.app _)⟩
theorem w_append {h : AH} {k : Int} {r : AH} {n : Nat} {xs : List D} {v : D} {Q : D → AH → Prop} (p : PS h k r) (e : r[n]? = some (.lst xs)) (hl : xs.length < 1000000) (z : ∀ h', PS h' k (r.set n (.lst (xs ++ [v]))) → Q .non h') : W (fAppend (n + 3) v) h Q :=
  ⟨.non, h.set (n + 3) (.lst (xs ++ [v])), by
    unfold fAppend updL
    rw [p.get, e]
    dsimp only
    rw [if_pos (Nat.le_trans (by simp; omega : (xs ++ [v]).length ≤ 1000000) (by decide))], z _ (p.set _ _)⟩
theorem at_app {r j : AH} {n : Nat} {o : O} (e : r[n]? = some o) : (r ++ j)[n]? = some o := by
  rw [List.getElem?_append_left (List.getElem?_eq_some_iff.mp e).1, e]
theorem at_new {r : AH} {o : O} : (r ++ [o])[r.length]? = some o := by simp
def goodN (x : Str) : Prop := 1 ≤ x.length ∧ x.length ≤ 8 ∧ (∀ c ∈ x.cps.toList, 97 ≤ c ∧ c ≤ 122) ∧
  x ∉ (["yes", "no", "not", "and", "or", "step", "some", "all", "next", "once", "ever", "until", "unless"] : List Str)
theorem len_str (x : Str) : x.length = x.cps.toList.length := by simp [Str.length]
theorem eqF_str (a : Str) : ∀ l : List Str, ((l.map D.str).any fun z => eqF z (.str a)) = decide (a ∈ l)
  | [] => by simp
  | b :: l => by
    rw [List.map_cons, List.any_cons, eqF_str a l]
    simp only [eqF]
    rw [Bool.eq_iff_iff]
    simp only [Bool.or_eq_true, beq_iff_eq, decide_eq_true_eq, List.mem_cons]
    constructor
    · rintro (h | h)
      · exact .inl h.symm
      · exact .inr h
    · rintro (h | h)
      · exact .inl h.symm
      · exact .inr h
theorem flat_strs : ∀ l : List Str, (l.map D.str).all flatD = true
  | [] => rfl
  | _ :: l => by rw [List.map_cons, List.all_cons, flat_strs l]; rfl
def low (x : Str) : Prop := ∀ c ∈ x.cps.toList, 97 ≤ c ∧ c ≤ 122
def abc : Str := "abcdefghijklmnopqrstuvwxyz"
theorem abc_cps : abc.cps.toList = (List.range 26).map (· + 97) := by decide +kernel
theorem abc_len : abc.length = 26 := by decide +kernel
theorem letter {d : Int} (h0 : 0 ≤ d) (h1 : d < 26) : fIx (.str abc) (.int d) = pure (.str ⟨#[d.toNat + 97]⟩) := by
  unfold fIx
  dsimp only
  rw [if_pos (by rw [abc_len]; decide), abc_cps]
  obtain ⟨n, rfl⟩ := Int.eq_ofNat_of_zero_le h0
  have hn : n < 26 := by omega
  rw [atI_nat (v := n + 97) (by simp [hn])]
  simp
theorem cps_app (x y : Str) : (x ++ y).cps.toList = x.cps.toList ++ y.cps.toList := Array.toList_append
theorem len_app (x y : Str) : (x ++ y).length = x.length + y.length := by rw [len_str, cps_app, List.length_append, ← len_str, ← len_str]
theorem add_ss {x y : Str} (h : x.length + y.length ≤ 1000) : fAdd (.str x) (.str y) = pure (.str (x ++ y)) := by
  show (if x.length + y.length ≤ sizeLine then _ else _) = _
  rw [if_pos (Nat.le_trans h (by decide))]
theorem one_len (c : Nat) : Str.length ⟨#[c]⟩ = 1 := rfl
theorem low_app {x : Str} {c : Nat} (h : low x) (h1 : 97 ≤ c) (h2 : c ≤ 122) : low (x ++ ⟨#[c]⟩) := by
  intro d hd
  rw [cps_app] at hd
  rcases List.mem_append.mp hd with q | q
  · exact h d q
  · simp at q; omega
theorem w_letter {x : Str} {h : AH} {k d : Int} {r : AH} {Q : D → AH → Prop} (h0 : 0 ≤ d) (h1 : d < 26) (hx : x.length ≤ 100) (q : Q (.str (x ++ ⟨#[d.toNat + 97]⟩)) h) : W (fIx (.str abc) (.int d)) h fun a h1 => W (fAdd (.str x) a) h1 Q := by
  rw [letter h0 h1, W_pure, add_ss (by rw [one_len]; omega), W_pure]
  exact q
def words : List Str := ["yes", "no", "not", "and", "or", "step", "some", "all", "next", "once", "ever", "until", "unless"]
def cand (x : Str) (l : Int) (i : Nat) : Str := x ++ ⟨#[((l + i) % 26).toNat + 97]⟩
theorem cand_inj {x : Str} {l : Int} (h0 : 0 ≤ l) {i j : Nat} (hi : i < 26) (hj : j < 26) (e : cand x l i = cand x l j) : i = j := by
  have e2 : (cand x l i).cps.toList = (cand x l j).cps.toList := by rw [e]
  unfold cand at e2
  rw [cps_app, cps_app] at e2
  have := List.append_cancel_left e2
  simp at this
  omega
theorem pigeon {x : Str} {l : Int} (h0 : 0 ≤ l) {ns : List Str} (hn : ns.length ≤ 7) (h : ∀ i : Nat, i < 26 → cand x l i ∈ words ∨ cand x l i ∈ ns) : False := by
  have nd : ((List.range 26).map (cand x l)).Nodup := by
    rw [List.nodup_iff_pairwise_ne, List.pairwise_map]
    refine List.Pairwise.imp_of_mem ?_ List.nodup_range
    intro a b ha hb hne e
    exact hne (cand_inj h0 (by simpa using ha) (by simpa using hb) e)
  have sub : ((List.range 26).map (cand x l)) ⊆ words ++ ns := by
    intro y hy
    obtain ⟨i, hi, rfl⟩ := List.mem_map.mp hy
    exact List.mem_append.mpr (h i (by simpa using hi))
  have := nd.length_le_of_subset sub
  rw [List.length_map, List.length_range, List.length_append] at this
  have w : words.length = 13 := rfl
  omega
theorem in_lst {h : AH} {k : Int} {r : AH} {n : Nat} {ns : List Str} {x : Str} {neg : Bool} (p : PS h k r) (e : r[n]? = some (.lst (ns.map .str))) : fIn neg (.str x) (.ref (n + 3)) h = .ok (.bl (decide (x ∈ ns) != neg)) h := by
  have g : getL (n + 3) h = .ok (ns.map .str) h := by unfold getL; rw [p.get, e]
  unfold fIn seqD
  rw [M.bind_ok g, eqF_str, flat_strs]
  rfl
theorem w_ixr {h : AH} {k : Int} {r : AH} {n : Nat} {xs : List D} {i : Int} {d : D} {Q : D → AH → Prop} (p : PS h k r) (e : r[n]? = some (.lst xs)) (a : atI xs i = some d) (q : Q d h) : W (fIx (.ref (n + 3)) (.int i)) h Q := by
  show W (getL (n + 3) >>= fun xs => match atI xs i with | some d => pure d | none => bad) h Q
  rw [W_bind]
  refine w_getL p e ?_
  rw [a]
  exact W_pure.mpr q
theorem w_lenr {h : AH} {k : Int} {r : AH} {n : Nat} {xs : List D} {Q : D → AH → Prop} (p : PS h k r) (e : r[n]? = some (.lst xs)) (q : Q (.int xs.length) h) : W (fLen [.ref (n + 3)]) h Q := by
  show W (getL (n + 3) >>= fun xs => pure (.int xs.length)) h Q
  rw [W_bind]
  refine w_getL p e ?_
  exact W_pure.mpr q
theorem low_nil : low "" := by
  intro c hc
  have : (Str.ofString "").cps.toList = [] := by decide +kernel
  rw [this] at hc
  cases hc
theorem nil_len : Str.length "" = 0 := by decide +kernel
def NS (ns : List Str) : Prop := ns.Nodup ∧ ∀ x ∈ ns, goodN x
structure MK (l : List Str) : Prop where
  len : l.length ≤ 8
  good : ∀ x ∈ l, goodN x
  rise : l.Pairwise fun a b => a.cps.toList < b.cps.toList
structure MA (st : List (List Nat)) (mk : List (List Str)) : Prop where
  l1 : 1 ≤ st.length
  l2 : st.length ≤ 40
  l3 : mk.length = st.length
  s1 : ∀ l ∈ st, l.Pairwise (· < ·)
  s2 : ∀ l ∈ st, ∀ x ∈ l, x < st.length
  m1 : ∀ l ∈ mk, MK l
theorem set_at {r : AH} {i : Nat} {o o' : O} (e : r[i]? = some o) : (r.set i o')[i]? = some o' := List.getElem?_set_self (List.getElem?_eq_some_iff.mp e).1
theorem map_filter_int (ns : List Int) (p : D → Bool) : ((ns.map D.int).filter p).map (fun d => d) = (ns.filter fun i => p (.int i)).map D.int := by
  rw [List.map_id', List.filter_map]
  rfl
theorem pow18 : fPow (.int 10) (.int 18) = pure (.int 1000000000000000000) := rfl
theorem len_tup (xs : List D) : fLen [.tup xs] = pure (.int xs.length) := rfl
theorem ix_tup {xs : List D} {i : Int} {d : D} (a : atI xs i = some d) : fIx (.tup xs) (.int i) = pure d := by
  have : fIx (.tup xs) (.int i) = (pure xs >>= fun xs => match atI xs i with | some d => pure d | none => bad) := rfl
  rw [this]
  show (match atI xs i with | some d => pure d | none => bad) = _
  rw [a]
end FT
set_option Elab.async false
set_option linter.all false
set_option maxRecDepth 100000
namespace FT
open PySem PySem.Spec PyProof.Rows L2
section
variable {P : Program} {w : World} {K : PySem.W.Frag} {mg : Str → Option Value} {base : Heap}
theorem fn_ok {x : Str} {st : Stmt} {f : Addr} {fd : FuncData} {N ps : List Str} {k n : Nat} {mb : G → M Out} (F : Fun K x x st f fd) (S : FnScope N ps (defScope st)) (hn : ps.length = n)
    (body : ∀ (cdv : Value) (A : Around) (outer : List Env) (s : Shared) (H : Hp) (E : XK), Room k (A.deeper (envOfC x (defScope st) s.heap.objs.size f cdv)) →
      SB (cxOf CX0 P w K mg base N x (defScope st) f cdv A outer s H E).nox EX0 (defBody st) mb) : FnOk P w K mg base CX0 (k + 1) f fd ps (spB K (runF N.length mb) n) := by
  refine F.ok S (fun vs H Q E h => h.1.trans hn.symm) (fun cdv A outer s H vs Q E hr h => ?_)
  obtain ⟨hl, ρ, ds, h, rh, rd, fin⟩ := h
  refine ⟨_, (body cdv A outer s H E hr).h, ρ, startG N.length ds, h, ⟨start_rel rd, rh⟩, ?_⟩
  refine (Fin.bind fin).mono fun o ρ1 h1 H1 p1 e1 r1 f1 => ?_
  cases o with
  | nx γ => exact fun σ _ => FE.here (d := .non) (h := h1) f1 r1 (by simp [RD])
  | rt d => exact fun v rv => f1 ρ1 H1 (Pre.refl _) (Ext.refl _ _) r1 v rv
  | bk γ => exact (show False from f1).elim
  | ct γ => exact (show False from f1).elim
theorem bindsTo1 {x p : Str} {st : Stmt} {f : Addr} {fd : FuncData} (F : Fun K x x st f fd)
    (h : ∀ (kV doc pm : Value) (an : Option Addr) (cdv ct u : Value), bindArgs (PySem.W.fnOf x x (defArgs st) (defBody st) (defScope st) .none kV doc pm an cdv ct) ⟨[u], []⟩ = pure [(p, u)]) : ∀ (s : Shared) (u : Value), BindsTo s fd ⟨[u], []⟩ [(p, u)] := by
  obtain ⟨oc, od, kV, doc, pm, an, cdv, ct, osl, rfl, lk, hcd⟩ := F.ex
  exact fun s u => .of_eq (h kV doc pm an cdv ct u)
end
theorem law_walk {l : PySem.W.OpenLaw} {q : Program} {loose : List Str} {XP : (Str → Option Value) → Heap → Prop} {YP : World → Heap → Prop} {d : DefRec} {K : Params → PySem.W.Frag} {m : List D → M D} {p : Str} {lev : Nat} (hn : l.most = some 63) (hdf : d.params.defaults = []) (hr : Room lev callerA)
    (hY : ∀ (w : World) (h : Heap), YP w h → (K w.params).In h)
    (F : ∀ (w : World) (mg : Str → Option Value) (fa : Addr) (h : Heap), (K w.params).In h → h.Ns mainGlobals mg → mg d.name = some (.ref fa) →
      ∃ fd : FuncData, (∀ (s : Shared) (u : Value), BindsTo s fd ⟨[u], []⟩ [(p, u)]) ∧ ∀ base : Heap, (K w.params).In base → base.Ns mainGlobals mg → FnOk l.prog w (K w.params) mg base CX0 lev fa fd [p] (spB (K w.params) m 1))
    (math : ∀ ns : List Int, ns.length ≤ 63 → ∃ h', m [.fl (ns.map .int)] [] = .ok (.bl true) h') :
    PySem.W.WalkO q loose XP YP l.row.toRowW d [] (fun f vs => PySem.call f vs) := by
  refine L2.walk_of (n := 63) (k := lev) (x := p) (CX := fun _ => CX0) (sp := fun w => spB (K w.params) m 1) hn (by decide) hdf hr hY F (fun w H a ns hl hO hS => ?_) fun _ _ _ _ _ z => z
  obtain ⟨h', e⟩ := math ns hl
  have sq : SqLP (K w.params) H a (ns.map V.int) := by
    rcases hS with (h | ⟨o, h⟩) | h
    · rcases hO a with z | ⟨ob, xs, z⟩ <;> rw [h] at z <;> cases z
    · exact .inl ⟨o, h⟩
    · exact .inr h
  refine ⟨rfl, [], [.fl (ns.map .int)], [], ⟨rfl, fun i j a h => by simp at h, fun n o a h => by simp at h⟩, RDs.cons ?_ RDs.nil, ?_⟩
  · simp only [RD]
    exact ⟨a, _, rfl, sq, rds_ints ns⟩
  · rw [e]
    exact fun ρ' H' _ _ _ v rv => by simpa [RD] using rv
end FT
set_option Elab.async false
set_option linter.all false
set_option maxRecDepth 100000
set_option maxHeartbeats 4000000
namespace FT
open PySem PySem.Spec PyProof.Rows L2
def top (i : Nat) : Stmt := PySem.Challenge.pw_fairtrees_k05_programs_taken.main.body.getD i (.Pass ⟨0, 0, 0, 0⟩)
noncomputable def c_KEPT : D := .tup [.str "yes", .str "no", .str "not", .str "and", .str "or", .str "step", .str "some", .str "all", .str "next", .str "once", .str "ever", .str "until", .str "unless"]
noncomputable def c_LONGEST : D := .int 8
noncomputable def c_TESTED : D := .tup [.str "is", .str "not", .str "under"]
noncomputable def b_is_number : G → M Out :=
  (bCons (sRet (eAnd (eIsi "int" (eVar 0)) (eNot (eIsi "bool" (eVar 0))))) bNil)
noncomputable def m_is_number : List D → M D := runF 1 b_is_number
theorem sc_is_number : FnScope ["thing"] ["thing"] (defScope (top 6)) := ⟨rfl, rfl, rfl, by decide +kernel, rfl, by decide +kernel, by decide +kernel⟩
theorem ok_is_number {P : Program} {w : World} {K : PySem.W.Frag} {mg : Str → Option Value} {base : Heap} (T : DefAt K "is_number" (top 6)) (mx : ∀ v, PySem.W.nsIn K mainGlobals "is_number" = some (some v) → mg "is_number" = some v) (z_bool : mg "bool" = none) (z_int : mg "int" = none) (z_isinstance : mg "isinstance" = none) : Fn P w K mg base 1 "is_number" 1 m_is_number := by
  obtain ⟨f, fd, hf, F⟩ := T
  have hb : Binds K fd ["thing"] [] := F.binds fun _ _ _ _ _ _ us hl => match us, hl with | [_], _ => rfl
  exact fn_mkC F sc_is_number hb (mx _ hf) rfl fun cdv A outer s H E hcd hr => (show SB (cxOf CX0 P w K mg base ["thing"] "is_number" (defScope (top 6)) f cdv A outer s H E).nox EX0 (defBody (top 6)) b_is_number from
    have nd : (["thing"] : List Str).Nodup := sc_is_number.nd
    (sb_cons (s_ret (se_band (se_isi rfl z_isinstance rfl z_int (by decide +kernel) (by decide) (se_var 0)) (se_one (se_bnot (se_isi rfl z_isinstance rfl z_bool (by decide +kernel) (by decide) (se_var 0)))))) sb_nil))
noncomputable def b_is_number_from : G → M Out :=
  (bCons (sRet (eAnd (eFn 1 m_is_number (aCons (eVar 0) aNil)) (e3 fLe fLe (eVar 1) (eVar 0) (eVar 2)))) bNil)
noncomputable def m_is_number_from : List D → M D := runF 3 b_is_number_from
theorem sc_is_number_from : FnScope ["thing", "least", "most"] ["thing", "least", "most"] (defScope (top 7)) := ⟨rfl, rfl, rfl, by decide +kernel, rfl, by decide +kernel, by decide +kernel⟩
theorem ok_is_number_from {P : Program} {w : World} {K : PySem.W.Frag} {mg : Str → Option Value} {base : Heap} (T : DefAt K "is_number_from" (top 7)) (mx : ∀ v, PySem.W.nsIn K mainGlobals "is_number_from" = some (some v) → mg "is_number_from" = some v) (F_is_number : Fn P w K mg base 1 "is_number" 1 m_is_number) : Fn P w K mg base 2 "is_number_from" 3 m_is_number_from := by
  obtain ⟨f, fd, hf, F⟩ := T
  have hb : Binds K fd ["thing", "least", "most"] [] := F.binds fun _ _ _ _ _ _ us hl => match us, hl with | [_, _, _], _ => rfl
  exact fn_mkC F sc_is_number_from hb (mx _ hf) rfl fun cdv A outer s H E hcd hr => (show SB (cxOf CX0 P w K mg base ["thing", "least", "most"] "is_number_from" (defScope (top 7)) f cdv A outer s H E).nox EX0 (defBody (top 7)) b_is_number_from from
    have nd : (["thing", "least", "most"] : List Str).Nodup := sc_is_number_from.nd
    (sb_cons (s_ret (se_band (se_call F_is_number (hr.mono (by decide)) rfl (sa_cons (se_var 0) sa_nil)) (se_one (se_c2 co_le co_le (se_var 1) (se_var 0) (se_var 2))))) sb_nil))
noncomputable def b_is_truth : G → M Out :=
  (bCons (sRet (eOr (e2 (fIs false) (eVar 0) (fun _ => pure (.bl true))) (e2 (fIs false) (eVar 0) (fun _ => pure (.bl false))))) bNil)
noncomputable def m_is_truth : List D → M D := runF 1 b_is_truth
theorem sc_is_truth : FnScope ["thing"] ["thing"] (defScope (top 8)) := ⟨rfl, rfl, rfl, by decide +kernel, rfl, by decide +kernel, by decide +kernel⟩
theorem ok_is_truth {P : Program} {w : World} {K : PySem.W.Frag} {mg : Str → Option Value} {base : Heap} (T : DefAt K "is_truth" (top 8)) (mx : ∀ v, PySem.W.nsIn K mainGlobals "is_truth" = some (some v) → mg "is_truth" = some v) : Fn P w K mg base 1 "is_truth" 1 m_is_truth := by
  obtain ⟨f, fd, hf, F⟩ := T
  have hb : Binds K fd ["thing"] [] := F.binds fun _ _ _ _ _ _ us hl => match us, hl with | [_], _ => rfl
  exact fn_mkC F sc_is_truth hb (mx _ hf) rfl fun cdv A outer s H E hcd hr => (show SB (cxOf CX0 P w K mg base ["thing"] "is_truth" (defScope (top 8)) f cdv A outer s H E).nox EX0 (defBody (top 8)) b_is_truth from
    have nd : (["thing"] : List Str).Nodup := sc_is_truth.nd
    (sb_cons (s_ret (se_bor (se_c co_is (se_var 0) se_bl) (se_one (se_c co_is (se_var 0) se_bl)))) sb_nil))
noncomputable def b_is_text : G → M Out :=
  (bCons (sRet (eIsi "str" (eVar 0))) bNil)
noncomputable def m_is_text : List D → M D := runF 1 b_is_text
theorem sc_is_text : FnScope ["thing"] ["thing"] (defScope (top 9)) := ⟨rfl, rfl, rfl, by decide +kernel, rfl, by decide +kernel, by decide +kernel⟩
theorem ok_is_text {P : Program} {w : World} {K : PySem.W.Frag} {mg : Str → Option Value} {base : Heap} (T : DefAt K "is_text" (top 9)) (mx : ∀ v, PySem.W.nsIn K mainGlobals "is_text" = some (some v) → mg "is_text" = some v) (z_isinstance : mg "isinstance" = none) (z_str : mg "str" = none) : Fn P w K mg base 1 "is_text" 1 m_is_text := by
  obtain ⟨f, fd, hf, F⟩ := T
  have hb : Binds K fd ["thing"] [] := F.binds fun _ _ _ _ _ _ us hl => match us, hl with | [_], _ => rfl
  exact fn_mkC F sc_is_text hb (mx _ hf) rfl fun cdv A outer s H E hcd hr => (show SB (cxOf CX0 P w K mg base ["thing"] "is_text" (defScope (top 9)) f cdv A outer s H E).nox EX0 (defBody (top 9)) b_is_text from
    have nd : (["thing"] : List Str).Nodup := sc_is_text.nd
    (sb_cons (s_ret (se_isi rfl z_isinstance rfl z_str (by decide +kernel) (by decide) (se_var 0))) sb_nil))
noncomputable def b_is_text_of : G → M Out :=
  (bCons (sRet (eAnd (eFn 1 m_is_text (aCons (eVar 0) aNil)) (e2 (fIn false) (eVar 0) (eVar 1)))) bNil)
noncomputable def m_is_text_of : List D → M D := runF 2 b_is_text_of
theorem sc_is_text_of : FnScope ["thing", "texts"] ["thing", "texts"] (defScope (top 10)) := ⟨rfl, rfl, rfl, by decide +kernel, rfl, by decide +kernel, by decide +kernel⟩
theorem ok_is_text_of {P : Program} {w : World} {K : PySem.W.Frag} {mg : Str → Option Value} {base : Heap} (T : DefAt K "is_text_of" (top 10)) (mx : ∀ v, PySem.W.nsIn K mainGlobals "is_text_of" = some (some v) → mg "is_text_of" = some v) (F_is_text : Fn P w K mg base 1 "is_text" 1 m_is_text) : Fn P w K mg base 2 "is_text_of" 2 m_is_text_of := by
  obtain ⟨f, fd, hf, F⟩ := T
  have hb : Binds K fd ["thing", "texts"] [] := F.binds fun _ _ _ _ _ _ us hl => match us, hl with | [_, _], _ => rfl
  exact fn_mkC F sc_is_text_of hb (mx _ hf) rfl fun cdv A outer s H E hcd hr => (show SB (cxOf CX0 P w K mg base ["thing", "texts"] "is_text_of" (defScope (top 10)) f cdv A outer s H E).nox EX0 (defBody (top 10)) b_is_text_of from
    have nd : (["thing", "texts"] : List Str).Nodup := sc_is_text_of.nd
    (sb_cons (s_ret (se_band (se_call F_is_text (hr.mono (by decide)) rfl (sa_cons (se_var 0) sa_nil)) (se_one (se_c co_in (se_var 0) (se_var 1))))) sb_nil))
noncomputable def b_is_name : G → M Out :=
  (bCons (sIf (cOr (cNot (cVal (eFn 1 m_is_text (aCons (eVar 0) aNil)))) (cNot (fun γ => do let d ← e3 fLe fLe (fun _ => pure (.int 1)) (eCall fLen (aCons (eVar 0) aNil)) (fun _ => pure c_LONGEST) γ; asB d))) (bCons (sRet (fun _ => pure (.bl false))) bNil) bNil) (bCons (sRet (eAnd (e2 (fIn true) (eVar 0) (fun _ => pure c_KEPT)) (eCall (fAll false) (aCons (eComp [none] (iStr (eVar 0)) (gN 0) (fun _ => pure true) (e3 fLe fLe (fun _ => pure (.str "a")) (eVar 0) (fun _ => pure (.str "z")))) aNil)))) bNil))
noncomputable def m_is_name : List D → M D := runF 1 b_is_name
theorem sc_is_name : FnScope ["thing"] ["thing"] (defScope (top 11)) := ⟨rfl, rfl, rfl, by decide +kernel, rfl, by decide +kernel, by decide +kernel⟩
theorem ok_is_name {P : Program} {w : World} {K : PySem.W.Frag} {mg : Str → Option Value} {base : Heap} (T : DefAt K "is_name" (top 11)) (mx : ∀ v, PySem.W.nsIn K mainGlobals "is_name" = some (some v) → mg "is_name" = some v) (C_KEPT : Cst K mg "KEPT" c_KEPT) (C_LONGEST : Cst K mg "LONGEST" c_LONGEST) (z_all : mg "all" = none) (z_len : mg "len" = none) (F_is_text : Fn P w K mg base 1 "is_text" 1 m_is_text) : Fn P w K mg base 2 "is_name" 1 m_is_name := by
  obtain ⟨f, fd, hf, F⟩ := T
  have hb : Binds K fd ["thing"] [] := F.binds fun _ _ _ _ _ _ us hl => match us, hl with | [_], _ => rfl
  exact fn_mkC F sc_is_name hb (mx _ hf) rfl fun cdv A outer s H E hcd hr => (show SB (cxOf CX0 P w K mg base ["thing"] "is_name" (defScope (top 11)) f cdv A outer s H E).nox EX0 (defBody (top 11)) b_is_name from
    have nd : (["thing"] : List Str).Nodup := sc_is_name.nd
    (sb_cons (s_if (SW.sc (sw_or (sc_not (sc_val (se_call F_is_text (hr.mono (by decide)) rfl (sa_cons (se_var 0) sa_nil)))) (sw_or1 (sc_not (sc_c2 co_le co_le se_int (se_len rfl z_len (sa_cons (se_var 0) sa_nil)) (se_cst C_LONGEST rfl)))))) (sb_cons (s_ret se_bl) sb_nil) sb_nil) (sb_cons (s_ret (se_band (se_c co_notin (se_var 0) (se_cst C_KEPT rfl)) (se_one (se_all rfl rfl z_all (sa_cons (se_comp (N' := ["sign"]) (cap := [none]) rfl (cs_mk (by first | rfl | kernel_rfl!)) (si_str rfl (se_var 0)) (fun _ _ _ _ => (sgk_name 0 (show (["sign"] : List Str).Nodup by decide +kernel))) (fun _ _ _ _ => scs_nil) (fun _ _ _ _ => (se_c2 co_le co_le se_str (se_var 0) se_str))) sa_nil))))) sb_nil)))
noncomputable def b_is_tuple : G → M Out :=
  (bCons (sRet (eIsi "tuple" (eVar 0))) bNil)
noncomputable def m_is_tuple : List D → M D := runF 1 b_is_tuple
theorem sc_is_tuple : FnScope ["thing"] ["thing"] (defScope (top 12)) := ⟨rfl, rfl, rfl, by decide +kernel, rfl, by decide +kernel, by decide +kernel⟩
theorem ok_is_tuple {P : Program} {w : World} {K : PySem.W.Frag} {mg : Str → Option Value} {base : Heap} (T : DefAt K "is_tuple" (top 12)) (mx : ∀ v, PySem.W.nsIn K mainGlobals "is_tuple" = some (some v) → mg "is_tuple" = some v) (z_isinstance : mg "isinstance" = none) (z_tuple : mg "tuple" = none) : Fn P w K mg base 1 "is_tuple" 1 m_is_tuple := by
  obtain ⟨f, fd, hf, F⟩ := T
  have hb : Binds K fd ["thing"] [] := F.binds fun _ _ _ _ _ _ us hl => match us, hl with | [_], _ => rfl
  exact fn_mkC F sc_is_tuple hb (mx _ hf) rfl fun cdv A outer s H E hcd hr => (show SB (cxOf CX0 P w K mg base ["thing"] "is_tuple" (defScope (top 12)) f cdv A outer s H E).nox EX0 (defBody (top 12)) b_is_tuple from
    have nd : (["thing"] : List Str).Nodup := sc_is_tuple.nd
    (sb_cons (s_ret (se_isi rfl z_isinstance rfl z_tuple (by decide +kernel) (by decide) (se_var 0))) sb_nil))
noncomputable def b_is_tuple_of : G → M Out :=
  (bCons (sRet (eAnd (eFn 1 m_is_tuple (aCons (eVar 0) aNil)) (e3 fLe fLe (eVar 1) (eCall fLen (aCons (eVar 0) aNil)) (eVar 2)))) bNil)
noncomputable def m_is_tuple_of : List D → M D := runF 3 b_is_tuple_of
theorem sc_is_tuple_of : FnScope ["thing", "least", "most"] ["thing", "least", "most"] (defScope (top 13)) := ⟨rfl, rfl, rfl, by decide +kernel, rfl, by decide +kernel, by decide +kernel⟩
theorem ok_is_tuple_of {P : Program} {w : World} {K : PySem.W.Frag} {mg : Str → Option Value} {base : Heap} (T : DefAt K "is_tuple_of" (top 13)) (mx : ∀ v, PySem.W.nsIn K mainGlobals "is_tuple_of" = some (some v) → mg "is_tuple_of" = some v) (z_len : mg "len" = none) (F_is_tuple : Fn P w K mg base 1 "is_tuple" 1 m_is_tuple) : Fn P w K mg base 2 "is_tuple_of" 3 m_is_tuple_of := by
  obtain ⟨f, fd, hf, F⟩ := T
  have hb : Binds K fd ["thing", "least", "most"] [] := F.binds fun _ _ _ _ _ _ us hl => match us, hl with | [_, _, _], _ => rfl
  exact fn_mkC F sc_is_tuple_of hb (mx _ hf) rfl fun cdv A outer s H E hcd hr => (show SB (cxOf CX0 P w K mg base ["thing", "least", "most"] "is_tuple_of" (defScope (top 13)) f cdv A outer s H E).nox EX0 (defBody (top 13)) b_is_tuple_of from
    have nd : (["thing", "least", "most"] : List Str).Nodup := sc_is_tuple_of.nd
    (sb_cons (s_ret (se_band (se_call F_is_tuple (hr.mono (by decide)) rfl (sa_cons (se_var 0) sa_nil)) (se_one (se_c2 co_le co_le (se_var 1) (se_len rfl z_len (sa_cons (se_var 0) sa_nil)) (se_var 2))))) sb_nil))
noncomputable def b_names_of : G → M Out :=
  (bCons (sRet (eCall fTuple (aCons (eComp [none] (iSeqT (eVar 0)) (gN 0) (fun _ => pure true) (e2 fIx (eVar 0) (fun _ => pure (.int 0)))) aNil))) bNil)
noncomputable def m_names_of : List D → M D := runF 1 b_names_of
theorem sc_names_of : FnScope ["things"] ["things"] (defScope (top 18)) := ⟨rfl, rfl, rfl, by decide +kernel, rfl, by decide +kernel, by decide +kernel⟩
theorem ok_names_of {P : Program} {w : World} {K : PySem.W.Frag} {mg : Str → Option Value} {base : Heap} (T : DefAt K "names_of" (top 18)) (mx : ∀ v, PySem.W.nsIn K mainGlobals "names_of" = some (some v) → mg "names_of" = some v) (z_tuple : mg "tuple" = none) : Fn P w K mg base 1 "names_of" 1 m_names_of := by
  obtain ⟨f, fd, hf, F⟩ := T
  have hb : Binds K fd ["things"] [] := F.binds fun _ _ _ _ _ _ us hl => match us, hl with | [_], _ => rfl
  exact fn_mkC F sc_names_of hb (mx _ hf) rfl fun cdv A outer s H E hcd hr => (show SB (cxOf CX0 P w K mg base ["things"] "names_of" (defScope (top 18)) f cdv A outer s H E).nox EX0 (defBody (top 18)) b_names_of from
    have nd : (["things"] : List Str).Nodup := sc_names_of.nd
    (sb_cons (s_ret (se_tuple rfl z_tuple (sa_cons (se_comp (N' := ["one"]) (cap := [none]) rfl (cs_mk (by first | rfl | kernel_rfl!)) (si_tup (se_var 0)) (fun _ _ _ _ => (sgk_name 0 (show (["one"] : List Str).Nodup by decide +kernel))) (fun _ _ _ _ => scs_nil) (fun _ _ _ _ => (se_ix (se_var 0) se_int))) sa_nil))) sb_nil))
noncomputable def b_are_unlike : G → M Out :=
  (bCons (sRet (e2 (fEq false) (eCall fLenS (aCons (eCall fSetOf (aCons (eVar 0) aNil)) aNil)) (eCall fLen (aCons (eVar 0) aNil)))) bNil)
noncomputable def m_are_unlike : List D → M D := runF 1 b_are_unlike
theorem sc_are_unlike : FnScope ["names"] ["names"] (defScope (top 19)) := ⟨rfl, rfl, rfl, by decide +kernel, rfl, by decide +kernel, by decide +kernel⟩
theorem ok_are_unlike {P : Program} {w : World} {K : PySem.W.Frag} {mg : Str → Option Value} {base : Heap} (T : DefAt K "are_unlike" (top 19)) (mx : ∀ v, PySem.W.nsIn K mainGlobals "are_unlike" = some (some v) → mg "are_unlike" = some v) (z_len : mg "len" = none) (z_set : mg "set" = none) : Fn P w K mg base 1 "are_unlike" 1 m_are_unlike := by
  obtain ⟨f, fd, hf, F⟩ := T
  have hb : Binds K fd ["names"] [] := F.binds fun _ _ _ _ _ _ us hl => match us, hl with | [_], _ => rfl
  exact fn_mkC F sc_are_unlike hb (mx _ hf) rfl fun cdv A outer s H E hcd hr => (show SB (cxOf CX0 P w K mg base ["names"] "are_unlike" (defScope (top 19)) f cdv A outer s H E).nox EX0 (defBody (top 19)) b_are_unlike from
    have nd : (["names"] : List Str).Nodup := sc_are_unlike.nd
    (sb_cons (s_ret (se_c co_eq (se_lenS rfl z_len (sa_cons (se_setof rfl rfl z_set (sa_cons (se_var 0) sa_nil)) sa_nil)) (se_len rfl z_len (sa_cons (se_var 0) sa_nil)))) sb_nil))
noncomputable def b_is_worth : G → M Out :=
  (bCons (sIf (cVal (eFn 3 m_is_number_from (aCons (eVar 0) (aCons (fun _ => pure (.int 0)) (aCons (fun _ => pure (.int 8)) aNil))))) (bCons (sRet (fun _ => pure (.bl true))) bNil) bNil) (bCons (sRet (eAnd (eFn 3 m_is_tuple_of (aCons (eVar 0) (aCons (fun _ => pure (.int 2)) (aCons (fun _ => pure (.int 2)) aNil)))) (eAnd (eFn 2 m_is_text_of (aCons (e2 fIx (eVar 0) (fun _ => pure (.int 0))) (aCons (eVar 1) aNil))) (eFn 3 m_is_number_from (aCons (e2 fIx (eVar 0) (fun _ => pure (.int 1))) (aCons (eNeg (fun _ => pure (.int 8))) (aCons (fun _ => pure (.int 8)) aNil))))))) bNil))
noncomputable def m_is_worth : List D → M D := runF 2 b_is_worth
theorem sc_is_worth : FnScope ["thing", "places"] ["thing", "places"] (defScope (top 26)) := ⟨rfl, rfl, rfl, by decide +kernel, rfl, by decide +kernel, by decide +kernel⟩
theorem ok_is_worth {P : Program} {w : World} {K : PySem.W.Frag} {mg : Str → Option Value} {base : Heap} (T : DefAt K "is_worth" (top 26)) (mx : ∀ v, PySem.W.nsIn K mainGlobals "is_worth" = some (some v) → mg "is_worth" = some v) (F_is_number_from : Fn P w K mg base 2 "is_number_from" 3 m_is_number_from) (F_is_text_of : Fn P w K mg base 2 "is_text_of" 2 m_is_text_of) (F_is_tuple_of : Fn P w K mg base 2 "is_tuple_of" 3 m_is_tuple_of) : Fn P w K mg base 3 "is_worth" 2 m_is_worth := by
  obtain ⟨f, fd, hf, F⟩ := T
  have hb : Binds K fd ["thing", "places"] [] := F.binds fun _ _ _ _ _ _ us hl => match us, hl with | [_, _], _ => rfl
  exact fn_mkC F sc_is_worth hb (mx _ hf) rfl fun cdv A outer s H E hcd hr => (show SB (cxOf CX0 P w K mg base ["thing", "places"] "is_worth" (defScope (top 26)) f cdv A outer s H E).nox EX0 (defBody (top 26)) b_is_worth from
    have nd : (["thing", "places"] : List Str).Nodup := sc_is_worth.nd
    (sb_cons (s_if (sc_val (se_call F_is_number_from (hr.mono (by decide)) rfl (sa_cons (se_var 0) (sa_cons se_int (sa_cons se_int sa_nil))))) (sb_cons (s_ret se_bl) sb_nil) sb_nil) (sb_cons (s_ret (se_band (se_call F_is_tuple_of (hr.mono (by decide)) rfl (sa_cons (se_var 0) (sa_cons se_int (sa_cons se_int sa_nil)))) (se_band (se_call F_is_text_of (hr.mono (by decide)) rfl (sa_cons (se_ix (se_var 0) se_int) (sa_cons (se_var 1) sa_nil))) (se_one (se_call F_is_number_from (hr.mono (by decide)) rfl (sa_cons (se_ix (se_var 0) se_int) (sa_cons (se_neg se_int) (sa_cons se_int sa_nil)))))))) sb_nil)))
noncomputable def b_is_test : G → M Out :=
  (bCons (sIf (cNot (cVal (eFn 3 m_is_tuple_of (aCons (eVar 0) (aCons (fun _ => pure (.int 3)) (aCons (fun _ => pure (.int 3)) aNil)))))) (bCons (sRet (fun _ => pure (.bl false))) bNil) bNil) (bCons (sRet (eAnd (eFn 2 m_is_text_of (aCons (e2 fIx (eVar 0) (fun _ => pure (.int 0))) (aCons (eVar 1) aNil))) (eAnd (eFn 2 m_is_text_of (aCons (e2 fIx (eVar 0) (fun _ => pure (.int 1))) (aCons (fun _ => pure c_TESTED) aNil))) (eFn 2 m_is_worth (aCons (e2 fIx (eVar 0) (fun _ => pure (.int 2))) (aCons (eVar 1) aNil)))))) bNil))
noncomputable def m_is_test : List D → M D := runF 2 b_is_test
theorem sc_is_test : FnScope ["thing", "places"] ["thing", "places"] (defScope (top 24)) := ⟨rfl, rfl, rfl, by decide +kernel, rfl, by decide +kernel, by decide +kernel⟩
theorem ok_is_test {P : Program} {w : World} {K : PySem.W.Frag} {mg : Str → Option Value} {base : Heap} (T : DefAt K "is_test" (top 24)) (mx : ∀ v, PySem.W.nsIn K mainGlobals "is_test" = some (some v) → mg "is_test" = some v) (C_TESTED : Cst K mg "TESTED" c_TESTED) (F_is_text_of : Fn P w K mg base 2 "is_text_of" 2 m_is_text_of) (F_is_tuple_of : Fn P w K mg base 2 "is_tuple_of" 3 m_is_tuple_of) (F_is_worth : Fn P w K mg base 3 "is_worth" 2 m_is_worth) : Fn P w K mg base 4 "is_test" 2 m_is_test := by
  obtain ⟨f, fd, hf, F⟩ := T
  have hb : Binds K fd ["thing", "places"] [] := F.binds fun _ _ _ _ _ _ us hl => match us, hl with | [_, _], _ => rfl
  exact fn_mkC F sc_is_test hb (mx _ hf) rfl fun cdv A outer s H E hcd hr => (show SB (cxOf CX0 P w K mg base ["thing", "places"] "is_test" (defScope (top 24)) f cdv A outer s H E).nox EX0 (defBody (top 24)) b_is_test from
    have nd : (["thing", "places"] : List Str).Nodup := sc_is_test.nd
    (sb_cons (s_if (sc_not (sc_val (se_call F_is_tuple_of (hr.mono (by decide)) rfl (sa_cons (se_var 0) (sa_cons se_int (sa_cons se_int sa_nil)))))) (sb_cons (s_ret se_bl) sb_nil) sb_nil) (sb_cons (s_ret (se_band (se_call F_is_text_of (hr.mono (by decide)) rfl (sa_cons (se_ix (se_var 0) se_int) (sa_cons (se_var 1) sa_nil))) (se_band (se_call F_is_text_of (hr.mono (by decide)) rfl (sa_cons (se_ix (se_var 0) se_int) (sa_cons (se_cst C_TESTED rfl) sa_nil))) (se_one (se_call F_is_worth (hr.mono (by decide)) rfl (sa_cons (se_ix (se_var 0) se_int) (sa_cons (se_var 1) sa_nil))))))) sb_nil)))
noncomputable def b_is_asking : G → M Out :=
  (bCons (sRet (eAnd (eFn 3 m_is_tuple_of (aCons (eVar 0) (aCons (fun _ => pure (.int 2)) (aCons (fun _ => pure (.int 2)) aNil)))) (eAnd (eFn 2 m_is_text_of (aCons (e2 fIx (eVar 0) (fun _ => pure (.int 0))) (aCons (eVar 2) aNil))) (eFn 2 m_is_text_of (aCons (e2 fIx (eVar 0) (fun _ => pure (.int 1))) (aCons (eVar 1) aNil)))))) bNil)
noncomputable def m_is_asking : List D → M D := runF 3 b_is_asking
theorem sc_is_asking : FnScope ["thing", "called", "asked"] ["thing", "called", "asked"] (defScope (top 29)) := ⟨rfl, rfl, rfl, by decide +kernel, rfl, by decide +kernel, by decide +kernel⟩
theorem ok_is_asking {P : Program} {w : World} {K : PySem.W.Frag} {mg : Str → Option Value} {base : Heap} (T : DefAt K "is_asking" (top 29)) (mx : ∀ v, PySem.W.nsIn K mainGlobals "is_asking" = some (some v) → mg "is_asking" = some v) (F_is_text_of : Fn P w K mg base 2 "is_text_of" 2 m_is_text_of) (F_is_tuple_of : Fn P w K mg base 2 "is_tuple_of" 3 m_is_tuple_of) : Fn P w K mg base 3 "is_asking" 3 m_is_asking := by
  obtain ⟨f, fd, hf, F⟩ := T
  have hb : Binds K fd ["thing", "called", "asked"] [] := F.binds fun _ _ _ _ _ _ us hl => match us, hl with | [_, _, _], _ => rfl
  exact fn_mkC F sc_is_asking hb (mx _ hf) rfl fun cdv A outer s H E hcd hr => (show SB (cxOf CX0 P w K mg base ["thing", "called", "asked"] "is_asking" (defScope (top 29)) f cdv A outer s H E).nox EX0 (defBody (top 29)) b_is_asking from
    have nd : (["thing", "called", "asked"] : List Str).Nodup := sc_is_asking.nd
    (sb_cons (s_ret (se_band (se_call F_is_tuple_of (hr.mono (by decide)) rfl (sa_cons (se_var 0) (sa_cons se_int (sa_cons se_int sa_nil)))) (se_band (se_call F_is_text_of (hr.mono (by decide)) rfl (sa_cons (se_ix (se_var 0) se_int) (sa_cons (se_var 2) sa_nil))) (se_one (se_call F_is_text_of (hr.mono (by decide)) rfl (sa_cons (se_ix (se_var 0) se_int) (sa_cons (se_var 1) sa_nil))))))) sb_nil))
noncomputable def b_is_mark : G → M Out :=
  (bCons (sIf (cNot (cVal (eFn 3 m_is_tuple_of (aCons (eVar 0) (aCons (fun _ => pure (.int 2)) (aCons (fun _ => pure (.int 2)) aNil)))))) (bCons (sRet (fun _ => pure (.bl false))) bNil) bNil) (bCons (sAsg (eVar 0) (gT 2 (gConss (gN 4) (gConss (gN 5) gNils)))) (bCons (sIf (cOr (cNot (cVal (eFn 1 m_is_name (aCons (eVar 4) aNil)))) (cOr (cNot (cVal (eFn 3 m_is_tuple_of (aCons (eVar 5) (aCons (fun _ => pure (.int 0)) (aCons (fun _ => pure (.int 4)) aNil)))))) (cNot (cVal (eCall (fAll false) (aCons (eComp [none] (iSeqT (eVar 5)) (gN 0) (fun _ => pure true) (eFn 3 m_is_tuple_of (aCons (eVar 0) (aCons (fun _ => pure (.int 0)) (aCons (fun _ => pure (.int 4)) aNil))))) aNil)))))) (bCons (sRet (fun _ => pure (.bl false))) bNil) bNil) (bCons (sRet (eCall (fAll false) (aCons (eComp2 [some 1, some 2, some 3, none, none] (iSeqT (eVar 5)) (gN 3) (iSeqT (eVar 3)) (gN 4) (fun _ => pure true) (eOr (eFn 2 m_is_test (aCons (eVar 4) (aCons (eVar 0) aNil))) (eFn 3 m_is_asking (aCons (eVar 4) (aCons (eVar 1) (aCons (eVar 2) aNil)))))) aNil))) bNil))))
noncomputable def m_is_mark : List D → M D := runF 6 b_is_mark
theorem sc_is_mark : FnScope ["thing", "places", "called", "asked", "name", "rows"] ["thing", "places", "called", "asked"] (defScope (top 28)) := ⟨rfl, rfl, rfl, by decide +kernel, rfl, by decide +kernel, by decide +kernel⟩
theorem ok_is_mark {P : Program} {w : World} {K : PySem.W.Frag} {mg : Str → Option Value} {base : Heap} (T : DefAt K "is_mark" (top 28)) (mx : ∀ v, PySem.W.nsIn K mainGlobals "is_mark" = some (some v) → mg "is_mark" = some v) (z_all : mg "all" = none) (F_is_asking : Fn P w K mg base 3 "is_asking" 3 m_is_asking) (F_is_name : Fn P w K mg base 2 "is_name" 1 m_is_name) (F_is_test : Fn P w K mg base 4 "is_test" 2 m_is_test) (F_is_tuple_of : Fn P w K mg base 2 "is_tuple_of" 3 m_is_tuple_of) : Fn P w K mg base 5 "is_mark" 4 m_is_mark := by
  obtain ⟨f, fd, hf, F⟩ := T
  have hb : Binds K fd ["thing", "places", "called", "asked"] [] := F.binds fun _ _ _ _ _ _ us hl => match us, hl with | [_, _, _, _], _ => rfl
  exact fn_mkC F sc_is_mark hb (mx _ hf) rfl fun cdv A outer s H E hcd hr => (show SB (cxOf CX0 P w K mg base ["thing", "places", "called", "asked", "name", "rows"] "is_mark" (defScope (top 28)) f cdv A outer s H E).nox EX0 (defBody (top 28)) b_is_mark from
    have nd : (["thing", "places", "called", "asked", "name", "rows"] : List Str).Nodup := sc_is_mark.nd
    (sb_cons (s_if (sc_not (sc_val (se_call F_is_tuple_of (hr.mono (by decide)) rfl (sa_cons (se_var 0) (sa_cons se_int (sa_cons se_int sa_nil)))))) (sb_cons (s_ret se_bl) sb_nil) sb_nil) (sb_cons (s_asg (se_var 0) (sg_tup rfl (sgs_cons (sg_name 4 nd) (sgs_cons (sg_name 5 nd) sgs_nil)))) (sb_cons (s_if (SW.sc (sw_or (sc_not (sc_val (se_call F_is_name (hr.mono (by decide)) rfl (sa_cons (se_var 4) sa_nil)))) (sw_or (sc_not (sc_val (se_call F_is_tuple_of (hr.mono (by decide)) rfl (sa_cons (se_var 5) (sa_cons se_int (sa_cons se_int sa_nil)))))) (sw_or1 (sc_not (sc_val (se_all rfl rfl z_all (sa_cons (se_comp (N' := ["row"]) (cap := [none]) rfl (cs_mk (by first | rfl | kernel_rfl!)) (si_tup (se_var 5)) (fun _ _ _ _ => (sgk_name 0 (show (["row"] : List Str).Nodup by decide +kernel))) (fun _ _ _ _ => scs_nil) (fun _ _ _ _ => (se_call F_is_tuple_of (hr.mono (by decide)) rfl (sa_cons (se_var 0) (sa_cons se_int (sa_cons se_int sa_nil)))))) sa_nil)))))))) (sb_cons (s_ret se_bl) sb_nil) sb_nil) (sb_cons (s_ret (se_all rfl rfl z_all (sa_cons (se_comp2 (N' := ["places", "called", "asked", "row", "one"]) (cap := [some 1, some 2, some 3, none, none]) rfl (cs_mk (by first | rfl | kernel_rfl!)) (si_tup (se_var 5)) (fun _ _ _ _ => (sgk_name 3 (show (["places", "called", "asked", "row", "one"] : List Str).Nodup by decide +kernel))) (fun _ _ _ _ => (si_tup (se_var 3))) (fun _ _ _ _ => (sgk_name 4 (show (["places", "called", "asked", "row", "one"] : List Str).Nodup by decide +kernel))) (fun _ _ _ _ => scs_nil) (fun _ _ _ _ => (se_bor (se_call F_is_test (hr.mono (by decide)) rfl (sa_cons (se_var 4) (sa_cons (se_var 0) sa_nil))) (se_one (se_call F_is_asking (hr.mono (by decide)) rfl (sa_cons (se_var 4) (sa_cons (se_var 1) (sa_cons (se_var 2) sa_nil)))))))) sa_nil))) sb_nil)))))
noncomputable def b_are_marks : G → M Out :=
  (bCons (sIf (cOr (cNot (cVal (eFn 3 m_is_tuple_of (aCons (eVar 0) (aCons (fun _ => pure (.int 0)) (aCons (fun _ => pure (.int 8)) aNil)))))) (cNot (cVal (eCall (fAll false) (aCons (eComp [some 1, some 2, some 3, none] (iSeqT (eVar 0)) (gN 3) (fun _ => pure true) (eFn 4 m_is_mark (aCons (eVar 3) (aCons (eVar 0) (aCons (eVar 1) (aCons (eVar 2) aNil)))))) aNil))))) (bCons (sRet (fun _ => pure (.bl false))) bNil) bNil) (bCons (sRet (eFn 1 m_are_unlike (aCons (eFn 1 m_names_of (aCons (eVar 0) aNil)) aNil))) bNil))
noncomputable def m_are_marks : List D → M D := runF 4 b_are_marks
theorem sc_are_marks : FnScope ["thing", "places", "called", "asked"] ["thing", "places", "called", "asked"] (defScope (top 27)) := ⟨rfl, rfl, rfl, by decide +kernel, rfl, by decide +kernel, by decide +kernel⟩
theorem ok_are_marks {P : Program} {w : World} {K : PySem.W.Frag} {mg : Str → Option Value} {base : Heap} (T : DefAt K "are_marks" (top 27)) (mx : ∀ v, PySem.W.nsIn K mainGlobals "are_marks" = some (some v) → mg "are_marks" = some v) (z_all : mg "all" = none) (F_are_unlike : Fn P w K mg base 1 "are_unlike" 1 m_are_unlike) (F_is_mark : Fn P w K mg base 5 "is_mark" 4 m_is_mark) (F_is_tuple_of : Fn P w K mg base 2 "is_tuple_of" 3 m_is_tuple_of) (F_names_of : Fn P w K mg base 1 "names_of" 1 m_names_of) : Fn P w K mg base 6 "are_marks" 4 m_are_marks := by
  obtain ⟨f, fd, hf, F⟩ := T
  have hb : Binds K fd ["thing", "places", "called", "asked"] [] := F.binds fun _ _ _ _ _ _ us hl => match us, hl with | [_, _, _, _], _ => rfl
  exact fn_mkC F sc_are_marks hb (mx _ hf) rfl fun cdv A outer s H E hcd hr => (show SB (cxOf CX0 P w K mg base ["thing", "places", "called", "asked"] "are_marks" (defScope (top 27)) f cdv A outer s H E).nox EX0 (defBody (top 27)) b_are_marks from
    have nd : (["thing", "places", "called", "asked"] : List Str).Nodup := sc_are_marks.nd
    (sb_cons (s_if (SW.sc (sw_or (sc_not (sc_val (se_call F_is_tuple_of (hr.mono (by decide)) rfl (sa_cons (se_var 0) (sa_cons se_int (sa_cons se_int sa_nil)))))) (sw_or1 (sc_not (sc_val (se_all rfl rfl z_all (sa_cons (se_comp (N' := ["places", "called", "asked", "one"]) (cap := [some 1, some 2, some 3, none]) rfl (cs_mk (by first | rfl | kernel_rfl!)) (si_tup (se_var 0)) (fun _ _ _ _ => (sgk_name 3 (show (["places", "called", "asked", "one"] : List Str).Nodup by decide +kernel))) (fun _ _ _ _ => scs_nil) (fun _ _ _ _ => (se_call F_is_mark (hr.mono (by decide)) rfl (sa_cons (se_var 3) (sa_cons (se_var 0) (sa_cons (se_var 1) (sa_cons (se_var 2) sa_nil))))))) sa_nil))))))) (sb_cons (s_ret se_bl) sb_nil) sb_nil) (sb_cons (s_ret (se_call F_are_unlike (hr.mono (by decide)) rfl (sa_cons (se_call F_names_of (hr.mono (by decide)) rfl (sa_cons (se_var 0) sa_nil)) sa_nil))) sb_nil)))
noncomputable def b_is_put : G → M Out :=
  (bCons (sRet (eAnd (eFn 3 m_is_tuple_of (aCons (eVar 0) (aCons (fun _ => pure (.int 2)) (aCons (fun _ => pure (.int 2)) aNil)))) (eAnd (eFn 2 m_is_text_of (aCons (e2 fIx (eVar 0) (fun _ => pure (.int 0))) (aCons (eVar 1) aNil))) (eFn 2 m_is_worth (aCons (e2 fIx (eVar 0) (fun _ => pure (.int 1))) (aCons (eVar 1) aNil)))))) bNil)
noncomputable def m_is_put : List D → M D := runF 2 b_is_put
theorem sc_is_put : FnScope ["thing", "places"] ["thing", "places"] (defScope (top 25)) := ⟨rfl, rfl, rfl, by decide +kernel, rfl, by decide +kernel, by decide +kernel⟩
theorem ok_is_put {P : Program} {w : World} {K : PySem.W.Frag} {mg : Str → Option Value} {base : Heap} (T : DefAt K "is_put" (top 25)) (mx : ∀ v, PySem.W.nsIn K mainGlobals "is_put" = some (some v) → mg "is_put" = some v) (F_is_text_of : Fn P w K mg base 2 "is_text_of" 2 m_is_text_of) (F_is_tuple_of : Fn P w K mg base 2 "is_tuple_of" 3 m_is_tuple_of) (F_is_worth : Fn P w K mg base 3 "is_worth" 2 m_is_worth) : Fn P w K mg base 4 "is_put" 2 m_is_put := by
  obtain ⟨f, fd, hf, F⟩ := T
  have hb : Binds K fd ["thing", "places"] [] := F.binds fun _ _ _ _ _ _ us hl => match us, hl with | [_, _], _ => rfl
  exact fn_mkC F sc_is_put hb (mx _ hf) rfl fun cdv A outer s H E hcd hr => (show SB (cxOf CX0 P w K mg base ["thing", "places"] "is_put" (defScope (top 25)) f cdv A outer s H E).nox EX0 (defBody (top 25)) b_is_put from
    have nd : (["thing", "places"] : List Str).Nodup := sc_is_put.nd
    (sb_cons (s_ret (se_band (se_call F_is_tuple_of (hr.mono (by decide)) rfl (sa_cons (se_var 0) (sa_cons se_int (sa_cons se_int sa_nil)))) (se_band (se_call F_is_text_of (hr.mono (by decide)) rfl (sa_cons (se_ix (se_var 0) se_int) (sa_cons (se_var 1) sa_nil))) (se_one (se_call F_is_worth (hr.mono (by decide)) rfl (sa_cons (se_ix (se_var 0) se_int) (sa_cons (se_var 1) sa_nil))))))) sb_nil))
noncomputable def b_is_command : G → M Out :=
  (bCons (sIf (cNot (cVal (eFn 3 m_is_tuple_of (aCons (eVar 0) (aCons (fun _ => pure (.int 3)) (aCons (fun _ => pure (.int 3)) aNil)))))) (bCons (sRet (fun _ => pure (.bl false))) bNil) bNil) (bCons (sAsg (eVar 0) (gT 3 (gConss (gN 2) (gConss (gN 3) (gConss (gN 4) gNils))))) (bCons (sIf (cOr (cNot (cVal (eFn 1 m_is_name (aCons (eVar 2) aNil)))) (cOr (cNot (cVal (eFn 3 m_is_tuple_of (aCons (eVar 3) (aCons (fun _ => pure (.int 0)) (aCons (fun _ => pure (.int 4)) aNil)))))) (cNot (cVal (eFn 3 m_is_tuple_of (aCons (eVar 4) (aCons (fun _ => pure (.int 0)) (aCons (fun _ => pure (.int 4)) aNil)))))))) (bCons (sRet (fun _ => pure (.bl false))) bNil) bNil) (bCons (sIf (cOr (cNot (cVal (eCall (fAll false) (aCons (eComp [some 1, none] (iSeqT (eVar 3)) (gN 1) (fun _ => pure true) (eFn 2 m_is_test (aCons (eVar 1) (aCons (eVar 0) aNil)))) aNil)))) (cNot (cVal (eCall (fAll false) (aCons (eComp [some 1, none] (iSeqT (eVar 4)) (gN 1) (fun _ => pure true) (eFn 2 m_is_put (aCons (eVar 1) (aCons (eVar 0) aNil)))) aNil))))) (bCons (sRet (fun _ => pure (.bl false))) bNil) bNil) (bCons (sRet (eFn 1 m_are_unlike (aCons (eFn 1 m_names_of (aCons (eVar 4) aNil)) aNil))) bNil)))))
noncomputable def m_is_command : List D → M D := runF 5 b_is_command
theorem sc_is_command : FnScope ["thing", "places", "name", "tests", "puts"] ["thing", "places"] (defScope (top 23)) := ⟨rfl, rfl, rfl, by decide +kernel, rfl, by decide +kernel, by decide +kernel⟩
theorem ok_is_command {P : Program} {w : World} {K : PySem.W.Frag} {mg : Str → Option Value} {base : Heap} (T : DefAt K "is_command" (top 23)) (mx : ∀ v, PySem.W.nsIn K mainGlobals "is_command" = some (some v) → mg "is_command" = some v) (z_all : mg "all" = none) (F_are_unlike : Fn P w K mg base 1 "are_unlike" 1 m_are_unlike) (F_is_name : Fn P w K mg base 2 "is_name" 1 m_is_name) (F_is_put : Fn P w K mg base 4 "is_put" 2 m_is_put) (F_is_test : Fn P w K mg base 4 "is_test" 2 m_is_test) (F_is_tuple_of : Fn P w K mg base 2 "is_tuple_of" 3 m_is_tuple_of) (F_names_of : Fn P w K mg base 1 "names_of" 1 m_names_of) : Fn P w K mg base 5 "is_command" 2 m_is_command := by
  obtain ⟨f, fd, hf, F⟩ := T
  have hb : Binds K fd ["thing", "places"] [] := F.binds fun _ _ _ _ _ _ us hl => match us, hl with | [_, _], _ => rfl
  exact fn_mkC F sc_is_command hb (mx _ hf) rfl fun cdv A outer s H E hcd hr => (show SB (cxOf CX0 P w K mg base ["thing", "places", "name", "tests", "puts"] "is_command" (defScope (top 23)) f cdv A outer s H E).nox EX0 (defBody (top 23)) b_is_command from
    have nd : (["thing", "places", "name", "tests", "puts"] : List Str).Nodup := sc_is_command.nd
    (sb_cons (s_if (sc_not (sc_val (se_call F_is_tuple_of (hr.mono (by decide)) rfl (sa_cons (se_var 0) (sa_cons se_int (sa_cons se_int sa_nil)))))) (sb_cons (s_ret se_bl) sb_nil) sb_nil) (sb_cons (s_asg (se_var 0) (sg_tup rfl (sgs_cons (sg_name 2 nd) (sgs_cons (sg_name 3 nd) (sgs_cons (sg_name 4 nd) sgs_nil))))) (sb_cons (s_if (SW.sc (sw_or (sc_not (sc_val (se_call F_is_name (hr.mono (by decide)) rfl (sa_cons (se_var 2) sa_nil)))) (sw_or (sc_not (sc_val (se_call F_is_tuple_of (hr.mono (by decide)) rfl (sa_cons (se_var 3) (sa_cons se_int (sa_cons se_int sa_nil)))))) (sw_or1 (sc_not (sc_val (se_call F_is_tuple_of (hr.mono (by decide)) rfl (sa_cons (se_var 4) (sa_cons se_int (sa_cons se_int sa_nil)))))))))) (sb_cons (s_ret se_bl) sb_nil) sb_nil) (sb_cons (s_if (SW.sc (sw_or (sc_not (sc_val (se_all rfl rfl z_all (sa_cons (se_comp (N' := ["places", "one"]) (cap := [some 1, none]) rfl (cs_mk (by first | rfl | kernel_rfl!)) (si_tup (se_var 3)) (fun _ _ _ _ => (sgk_name 1 (show (["places", "one"] : List Str).Nodup by decide +kernel))) (fun _ _ _ _ => scs_nil) (fun _ _ _ _ => (se_call F_is_test (hr.mono (by decide)) rfl (sa_cons (se_var 1) (sa_cons (se_var 0) sa_nil))))) sa_nil)))) (sw_or1 (sc_not (sc_val (se_all rfl rfl z_all (sa_cons (se_comp (N' := ["places", "one"]) (cap := [some 1, none]) rfl (cs_mk (by first | rfl | kernel_rfl!)) (si_tup (se_var 4)) (fun _ _ _ _ => (sgk_name 1 (show (["places", "one"] : List Str).Nodup by decide +kernel))) (fun _ _ _ _ => scs_nil) (fun _ _ _ _ => (se_call F_is_put (hr.mono (by decide)) rfl (sa_cons (se_var 1) (sa_cons (se_var 0) sa_nil))))) sa_nil))))))) (sb_cons (s_ret se_bl) sb_nil) sb_nil) (sb_cons (s_ret (se_call F_are_unlike (hr.mono (by decide)) rfl (sa_cons (se_call F_names_of (hr.mono (by decide)) rfl (sa_cons (se_var 4) sa_nil)) sa_nil))) sb_nil))))))
noncomputable def b_are_commands : G → M Out :=
  (bCons (sIf (cOr (cNot (cVal (eFn 3 m_is_tuple_of (aCons (eVar 0) (aCons (fun _ => pure (.int 0)) (aCons (fun _ => pure (.int 8)) aNil)))))) (cNot (cVal (eCall (fAll false) (aCons (eComp [some 1, none] (iSeqT (eVar 0)) (gN 1) (fun _ => pure true) (eFn 2 m_is_command (aCons (eVar 1) (aCons (eVar 0) aNil)))) aNil))))) (bCons (sRet (fun _ => pure (.bl false))) bNil) bNil) (bCons (sRet (eFn 1 m_are_unlike (aCons (eFn 1 m_names_of (aCons (eVar 0) aNil)) aNil))) bNil))
noncomputable def m_are_commands : List D → M D := runF 2 b_are_commands
theorem sc_are_commands : FnScope ["thing", "places"] ["thing", "places"] (defScope (top 22)) := ⟨rfl, rfl, rfl, by decide +kernel, rfl, by decide +kernel, by decide +kernel⟩
theorem ok_are_commands {P : Program} {w : World} {K : PySem.W.Frag} {mg : Str → Option Value} {base : Heap} (T : DefAt K "are_commands" (top 22)) (mx : ∀ v, PySem.W.nsIn K mainGlobals "are_commands" = some (some v) → mg "are_commands" = some v) (z_all : mg "all" = none) (F_are_unlike : Fn P w K mg base 1 "are_unlike" 1 m_are_unlike) (F_is_command : Fn P w K mg base 5 "is_command" 2 m_is_command) (F_is_tuple_of : Fn P w K mg base 2 "is_tuple_of" 3 m_is_tuple_of) (F_names_of : Fn P w K mg base 1 "names_of" 1 m_names_of) : Fn P w K mg base 6 "are_commands" 2 m_are_commands := by
  obtain ⟨f, fd, hf, F⟩ := T
  have hb : Binds K fd ["thing", "places"] [] := F.binds fun _ _ _ _ _ _ us hl => match us, hl with | [_, _], _ => rfl
  exact fn_mkC F sc_are_commands hb (mx _ hf) rfl fun cdv A outer s H E hcd hr => (show SB (cxOf CX0 P w K mg base ["thing", "places"] "are_commands" (defScope (top 22)) f cdv A outer s H E).nox EX0 (defBody (top 22)) b_are_commands from
    have nd : (["thing", "places"] : List Str).Nodup := sc_are_commands.nd
    (sb_cons (s_if (SW.sc (sw_or (sc_not (sc_val (se_call F_is_tuple_of (hr.mono (by decide)) rfl (sa_cons (se_var 0) (sa_cons se_int (sa_cons se_int sa_nil)))))) (sw_or1 (sc_not (sc_val (se_all rfl rfl z_all (sa_cons (se_comp (N' := ["places", "one"]) (cap := [some 1, none]) rfl (cs_mk (by first | rfl | kernel_rfl!)) (si_tup (se_var 0)) (fun _ _ _ _ => (sgk_name 1 (show (["places", "one"] : List Str).Nodup by decide +kernel))) (fun _ _ _ _ => scs_nil) (fun _ _ _ _ => (se_call F_is_command (hr.mono (by decide)) rfl (sa_cons (se_var 1) (sa_cons (se_var 0) sa_nil))))) sa_nil))))))) (sb_cons (s_ret se_bl) sb_nil) sb_nil) (sb_cons (s_ret (se_call F_are_unlike (hr.mono (by decide)) rfl (sa_cons (se_call F_names_of (hr.mono (by decide)) rfl (sa_cons (se_var 0) sa_nil)) sa_nil))) sb_nil)))
noncomputable def b_is_cell : G → M Out :=
  (bCons (sIf (cNot (cVal (eFn 3 m_is_tuple_of (aCons (eVar 0) (aCons (fun _ => pure (.int 3)) (aCons (fun _ => pure (.int 3)) aNil)))))) (bCons (sRet (fun _ => pure (.bl false))) bNil) bNil) (bCons (sAsg (eVar 0) (gT 3 (gConss (gN 1) (gConss (gN 2) (gConss (gN 3) gNils))))) (bCons (sRet (eAnd (eFn 1 m_is_name (aCons (eVar 1) aNil)) (eAnd (eFn 3 m_is_number_from (aCons (eVar 2) (aCons (fun _ => pure (.int 1)) (aCons (fun _ => pure (.int 9)) aNil)))) (eFn 3 m_is_number_from (aCons (eVar 3) (aCons (fun _ => pure (.int 0)) (aCons (e2 fSub (eVar 2) (fun _ => pure (.int 1))) aNil))))))) bNil)))
noncomputable def m_is_cell : List D → M D := runF 4 b_is_cell
theorem sc_is_cell : FnScope ["thing", "name", "size", "first"] ["thing"] (defScope (top 21)) := ⟨rfl, rfl, rfl, by decide +kernel, rfl, by decide +kernel, by decide +kernel⟩
theorem ok_is_cell {P : Program} {w : World} {K : PySem.W.Frag} {mg : Str → Option Value} {base : Heap} (T : DefAt K "is_cell" (top 21)) (mx : ∀ v, PySem.W.nsIn K mainGlobals "is_cell" = some (some v) → mg "is_cell" = some v) (F_is_name : Fn P w K mg base 2 "is_name" 1 m_is_name) (F_is_number_from : Fn P w K mg base 2 "is_number_from" 3 m_is_number_from) (F_is_tuple_of : Fn P w K mg base 2 "is_tuple_of" 3 m_is_tuple_of) : Fn P w K mg base 3 "is_cell" 1 m_is_cell := by
  obtain ⟨f, fd, hf, F⟩ := T
  have hb : Binds K fd ["thing"] [] := F.binds fun _ _ _ _ _ _ us hl => match us, hl with | [_], _ => rfl
  exact fn_mkC F sc_is_cell hb (mx _ hf) rfl fun cdv A outer s H E hcd hr => (show SB (cxOf CX0 P w K mg base ["thing", "name", "size", "first"] "is_cell" (defScope (top 21)) f cdv A outer s H E).nox EX0 (defBody (top 21)) b_is_cell from
    have nd : (["thing", "name", "size", "first"] : List Str).Nodup := sc_is_cell.nd
    (sb_cons (s_if (sc_not (sc_val (se_call F_is_tuple_of (hr.mono (by decide)) rfl (sa_cons (se_var 0) (sa_cons se_int (sa_cons se_int sa_nil)))))) (sb_cons (s_ret se_bl) sb_nil) sb_nil) (sb_cons (s_asg (se_var 0) (sg_tup rfl (sgs_cons (sg_name 1 nd) (sgs_cons (sg_name 2 nd) (sgs_cons (sg_name 3 nd) sgs_nil))))) (sb_cons (s_ret (se_band (se_call F_is_name (hr.mono (by decide)) rfl (sa_cons (se_var 1) sa_nil)) (se_band (se_call F_is_number_from (hr.mono (by decide)) rfl (sa_cons (se_var 2) (sa_cons se_int (sa_cons se_int sa_nil)))) (se_one (se_call F_is_number_from (hr.mono (by decide)) rfl (sa_cons (se_var 3) (sa_cons se_int (sa_cons (se_sub (se_var 2) se_int) sa_nil)))))))) sb_nil))))
noncomputable def b_are_cells : G → M Out :=
  (bCons (sRet (eAnd (eFn 3 m_is_tuple_of (aCons (eVar 0) (aCons (fun _ => pure (.int 1)) (aCons (fun _ => pure (.int 4)) aNil)))) (eAnd (eCall (fAll false) (aCons (eComp [none] (iSeqT (eVar 0)) (gN 0) (fun _ => pure true) (eFn 1 m_is_cell (aCons (eVar 0) aNil))) aNil)) (eFn 1 m_are_unlike (aCons (eFn 1 m_names_of (aCons (eVar 0) aNil)) aNil))))) bNil)
noncomputable def m_are_cells : List D → M D := runF 1 b_are_cells
theorem sc_are_cells : FnScope ["thing"] ["thing"] (defScope (top 20)) := ⟨rfl, rfl, rfl, by decide +kernel, rfl, by decide +kernel, by decide +kernel⟩
theorem ok_are_cells {P : Program} {w : World} {K : PySem.W.Frag} {mg : Str → Option Value} {base : Heap} (T : DefAt K "are_cells" (top 20)) (mx : ∀ v, PySem.W.nsIn K mainGlobals "are_cells" = some (some v) → mg "are_cells" = some v) (z_all : mg "all" = none) (F_are_unlike : Fn P w K mg base 1 "are_unlike" 1 m_are_unlike) (F_is_cell : Fn P w K mg base 3 "is_cell" 1 m_is_cell) (F_is_tuple_of : Fn P w K mg base 2 "is_tuple_of" 3 m_is_tuple_of) (F_names_of : Fn P w K mg base 1 "names_of" 1 m_names_of) : Fn P w K mg base 4 "are_cells" 1 m_are_cells := by
  obtain ⟨f, fd, hf, F⟩ := T
  have hb : Binds K fd ["thing"] [] := F.binds fun _ _ _ _ _ _ us hl => match us, hl with | [_], _ => rfl
  exact fn_mkC F sc_are_cells hb (mx _ hf) rfl fun cdv A outer s H E hcd hr => (show SB (cxOf CX0 P w K mg base ["thing"] "are_cells" (defScope (top 20)) f cdv A outer s H E).nox EX0 (defBody (top 20)) b_are_cells from
    have nd : (["thing"] : List Str).Nodup := sc_are_cells.nd
    (sb_cons (s_ret (se_band (se_call F_is_tuple_of (hr.mono (by decide)) rfl (sa_cons (se_var 0) (sa_cons se_int (sa_cons se_int sa_nil)))) (se_band (se_all rfl rfl z_all (sa_cons (se_comp (N' := ["one"]) (cap := [none]) rfl (cs_mk (by first | rfl | kernel_rfl!)) (si_tup (se_var 0)) (fun _ _ _ _ => (sgk_name 0 (show (["one"] : List Str).Nodup by decide +kernel))) (fun _ _ _ _ => scs_nil) (fun _ _ _ _ => (se_call F_is_cell (hr.mono (by decide)) rfl (sa_cons (se_var 0) sa_nil)))) sa_nil)) (se_one (se_call F_are_unlike (hr.mono (by decide)) rfl (sa_cons (se_call F_names_of (hr.mono (by decide)) rfl (sa_cons (se_var 0) sa_nil)) sa_nil)))))) sb_nil))
noncomputable def b_is_program : G → M Out :=
  (bCons (sIf (cNot (cVal (eFn 3 m_is_tuple_of (aCons (eVar 0) (aCons (fun _ => pure (.int 4)) (aCons (fun _ => pure (.int 4)) aNil)))))) (bCons (sRet (fun _ => pure (.bl false))) bNil) bNil) (bCons (sAsg (eVar 0) (gT 4 (gConss (gN 1) (gConss (gN 2) (gConss (gN 3) (gConss (gN 4) gNils)))))) (bCons (sIf (cOr (cNot (cVal (eFn 1 m_is_truth (aCons (eVar 4) aNil)))) (cNot (cVal (eFn 1 m_are_cells (aCons (eVar 1) aNil))))) (bCons (sRet (fun _ => pure (.bl false))) bNil) bNil) (bCons (sAsg (eFn 1 m_names_of (aCons (eVar 1) aNil)) (gN 5)) (bCons (sIf (cNot (cVal (eFn 2 m_are_commands (aCons (eVar 2) (aCons (eVar 5) aNil))))) (bCons (sRet (fun _ => pure (.bl false))) bNil) bNil) (bCons (sAsg (eIf (cVal (eVar 4)) (eTup (aCons (fun _ => pure (.str "can")) (aCons (fun _ => pure (.str "last")) aNil))) (eTup (aCons (fun _ => pure (.str "can")) aNil))) (gN 6)) (bCons (sRet (eFn 4 m_are_marks (aCons (eVar 3) (aCons (eVar 5) (aCons (eFn 1 m_names_of (aCons (eVar 2) aNil)) (aCons (eVar 6) aNil)))))) bNil)))))))
noncomputable def m_is_program : List D → M D := runF 7 b_is_program
theorem sc_is_program : FnScope ["thing", "cells", "commands", "marks", "keeps", "places", "asked"] ["thing"] (defScope (top 17)) := ⟨rfl, rfl, rfl, by decide +kernel, rfl, by decide +kernel, by decide +kernel⟩
theorem ok_is_program {P : Program} {w : World} {K : PySem.W.Frag} {mg : Str → Option Value} {base : Heap} (T : DefAt K "is_program" (top 17)) (mx : ∀ v, PySem.W.nsIn K mainGlobals "is_program" = some (some v) → mg "is_program" = some v) (F_are_cells : Fn P w K mg base 4 "are_cells" 1 m_are_cells) (F_are_commands : Fn P w K mg base 6 "are_commands" 2 m_are_commands) (F_are_marks : Fn P w K mg base 6 "are_marks" 4 m_are_marks) (F_is_truth : Fn P w K mg base 1 "is_truth" 1 m_is_truth) (F_is_tuple_of : Fn P w K mg base 2 "is_tuple_of" 3 m_is_tuple_of) (F_names_of : Fn P w K mg base 1 "names_of" 1 m_names_of) : Fn P w K mg base 7 "is_program" 1 m_is_program := by
  obtain ⟨f, fd, hf, F⟩ := T
  have hb : Binds K fd ["thing"] [] := F.binds fun _ _ _ _ _ _ us hl => match us, hl with | [_], _ => rfl
  exact fn_mkC F sc_is_program hb (mx _ hf) rfl fun cdv A outer s H E hcd hr => (show SB (cxOf CX0 P w K mg base ["thing", "cells", "commands", "marks", "keeps", "places", "asked"] "is_program" (defScope (top 17)) f cdv A outer s H E).nox EX0 (defBody (top 17)) b_is_program from
    have nd : (["thing", "cells", "commands", "marks", "keeps", "places", "asked"] : List Str).Nodup := sc_is_program.nd
    (sb_cons (s_if (sc_not (sc_val (se_call F_is_tuple_of (hr.mono (by decide)) rfl (sa_cons (se_var 0) (sa_cons se_int (sa_cons se_int sa_nil)))))) (sb_cons (s_ret se_bl) sb_nil) sb_nil) (sb_cons (s_asg (se_var 0) (sg_tup rfl (sgs_cons (sg_name 1 nd) (sgs_cons (sg_name 2 nd) (sgs_cons (sg_name 3 nd) (sgs_cons (sg_name 4 nd) sgs_nil)))))) (sb_cons (s_if (SW.sc (sw_or (sc_not (sc_val (se_call F_is_truth (hr.mono (by decide)) rfl (sa_cons (se_var 4) sa_nil)))) (sw_or1 (sc_not (sc_val (se_call F_are_cells (hr.mono (by decide)) rfl (sa_cons (se_var 1) sa_nil))))))) (sb_cons (s_ret se_bl) sb_nil) sb_nil) (sb_cons (s_set 5 nd (se_call F_names_of (hr.mono (by decide)) rfl (sa_cons (se_var 1) sa_nil))) (sb_cons (s_if (sc_not (sc_val (se_call F_are_commands (hr.mono (by decide)) rfl (sa_cons (se_var 2) (sa_cons (se_var 5) sa_nil))))) (sb_cons (s_ret se_bl) sb_nil) sb_nil) (sb_cons (s_set 6 nd (se_if (sc_val (se_var 4)) (se_tup (sa_cons se_str (sa_cons se_str sa_nil))) (se_tup (sa_cons se_str sa_nil)))) (sb_cons (s_ret (se_call F_are_marks (hr.mono (by decide)) rfl (sa_cons (se_var 3) (sa_cons (se_var 5) (sa_cons (se_call F_names_of (hr.mono (by decide)) rfl (sa_cons (se_var 2) sa_nil)) (sa_cons (se_var 6) sa_nil)))))) sb_nil))))))))
noncomputable def b_check : G → M Out :=
  (bCons (sIf (cNot (cVal (eFn 1 m_is_program (aCons (eVar 0) aNil)))) (bCons (fun _ => bad) bNil) bNil) (bCons (sRet (fun _ => pure (.bl true))) bNil))
noncomputable def m_check : List D → M D := runF 1 b_check
theorem sc_check : FnScope ["thing"] ["thing"] (defScope (top 16)) := ⟨rfl, rfl, rfl, by decide +kernel, rfl, by decide +kernel, by decide +kernel⟩
theorem ok_check {P : Program} {w : World} {K : PySem.W.Frag} {mg : Str → Option Value} {base : Heap} (T : DefAt K "check" (top 16)) (mx : ∀ v, PySem.W.nsIn K mainGlobals "check" = some (some v) → mg "check" = some v) (F_is_program : Fn P w K mg base 7 "is_program" 1 m_is_program) : Fn P w K mg base 8 "check" 1 m_check := by
  obtain ⟨f, fd, hf, F⟩ := T
  have hb : Binds K fd ["thing"] [] := F.binds fun _ _ _ _ _ _ us hl => match us, hl with | [_], _ => rfl
  exact fn_mkC F sc_check hb (mx _ hf) rfl fun cdv A outer s H E hcd hr => (show SB (cxOf CX0 P w K mg base ["thing"] "check" (defScope (top 16)) f cdv A outer s H E).nox EX0 (defBody (top 16)) b_check from
    have nd : (["thing"] : List Str).Nodup := sc_check.nd
    (sb_cons (s_if (sc_not (sc_val (se_call F_is_program (hr.mono (by decide)) rfl (sa_cons (se_var 0) sa_nil)))) (sb_cons s_never sb_nil) sb_nil) (sb_cons (s_ret se_bl) sb_nil)))
noncomputable def b__law_pool : G → M Out :=
  (bCons (sComp' 1 [none] (iSeqL (eVar 0)) (gN 0) (fun γ => do let d ← e2 fGe (eVar 0) (e2 fPow (fun _ => pure (.int 10)) (fun _ => pure (.int 18))) γ; asB d) (eVar 0)) (bCons (sRet (eLst (aCons (eVar 1) (aCons (eComp [none] (iSeqL (eVar 0)) (gN 0) (fun γ => do let d ← e2 fLt (eVar 0) (e2 fPow (fun _ => pure (.int 10)) (fun _ => pure (.int 18))) γ; asB d) (eVar 0)) (aCons (fun _ => pure (.int 5)) (aCons (fun _ => pure (.int 0)) aNil)))))) bNil))
noncomputable def m__law_pool : List D → M D := runF 2 b__law_pool
theorem sc__law_pool : FnScope ["_law_script", "_law_great"] ["_law_script"] (defScope (top 31)) := ⟨rfl, rfl, rfl, by decide +kernel, rfl, by decide +kernel, by decide +kernel⟩
theorem ok__law_pool {P : Program} {w : World} {K : PySem.W.Frag} {mg : Str → Option Value} {base : Heap} (T : DefAt K "_law_pool" (top 31)) (mx : ∀ v, PySem.W.nsIn K mainGlobals "_law_pool" = some (some v) → mg "_law_pool" = some v) : Fn P w K mg base 1 "_law_pool" 1 m__law_pool := by
  obtain ⟨f, fd, hf, F⟩ := T
  have hb : Binds K fd ["_law_script"] [] := F.binds fun _ _ _ _ _ _ us hl => match us, hl with | [_], _ => rfl
  exact fn_mkC F sc__law_pool hb (mx _ hf) rfl fun cdv A outer s H E hcd hr => (show SB (cxOf CX0 P w K mg base ["_law_script", "_law_great"] "_law_pool" (defScope (top 31)) f cdv A outer s H E).nox EX0 (defBody (top 31)) b__law_pool from
    have nd : (["_law_script", "_law_great"] : List Str).Nodup := sc__law_pool.nd
    (sb_cons (s_comp 1 (N' := ["_law_cell"]) (cap := [none]) rfl (cs_mk (by first | rfl | kernel_rfl!)) (si_list (se_var 0)) (fun _ _ _ _ => (sgk_name 0 (show (["_law_cell"] : List Str).Nodup by decide +kernel))) (fun _ _ _ _ => (scs_one (sc_c co_ge (se_var 0) (se_pow se_int se_int)))) (fun _ _ _ _ => (se_var 0)) nd) (sb_cons (s_ret (se_lst (sa_cons (se_var 1) (sa_cons (se_comp (N' := ["_law_cell"]) (cap := [none]) rfl (cs_mk (by first | rfl | kernel_rfl!)) (si_list (se_var 0)) (fun _ _ _ _ => (sgk_name 0 (show (["_law_cell"] : List Str).Nodup by decide +kernel))) (fun _ _ _ _ => (scs_one (sc_c co_lt (se_var 0) (se_pow se_int se_int)))) (fun _ _ _ _ => (se_var 0))) (sa_cons se_int (sa_cons se_int sa_nil)))))) sb_nil)))
noncomputable def b__law_draw : G → M Out :=
  (bCons (sIf (fun γ => do let d ← e2 fGt (eCall fLen (aCons (e2 fIx (eVar 0) (fun _ => pure (.int 0))) aNil)) (fun _ => pure (.int 0)) γ; asB d) (bCons (sAsg (e2 fIx (e2 fIx (eVar 0) (fun _ => pure (.int 0))) (fun _ => pure (.int 0))) (gN 2)) (bCons (sAsg (e2 fDiv (eVar 2) (eVar 1)) (gIx (e2 fIx (eVar 0) (fun _ => pure (.int 0))) (fun _ => pure (.int 0)))) (bCons (sIf (fun γ => do let d ← e2 (fEq false) (e2 fDiv (eVar 2) (eVar 1)) (fun _ => pure (.int 0)) γ; asB d) (bCons (sExpr (eM1 fPopAt (e2 fIx (eVar 0) (fun _ => pure (.int 0))) (fun _ => pure (.int 0)))) bNil) bNil) (bCons (sRet (e2 fMod (eVar 2) (eVar 1))) bNil)))) bNil) (bCons (sAsg (e2 fAdd (e2 fIx (eVar 0) (fun _ => pure (.int 3))) (fun _ => pure (.int 1))) (gIx (eVar 0) (fun _ => pure (.int 3)))) (bCons (sAsg (fun _ => pure (.int 0)) (gN 2)) (bCons (sIf (fun γ => do let d ← e2 fGt (eCall fLen (aCons (e2 fIx (eVar 0) (fun _ => pure (.int 1))) aNil)) (fun _ => pure (.int 0)) γ; asB d) (bCons (sAsg (e2 fIx (e2 fIx (eVar 0) (fun _ => pure (.int 1))) (e2 fMod (e2 fIx (eVar 0) (fun _ => pure (.int 3))) (eCall fLen (aCons (e2 fIx (eVar 0) (fun _ => pure (.int 1))) aNil)))) (gN 2)) bNil) bNil) (bCons (sAsg (e2 fMul (e2 fMod (eVar 2) (fun _ => pure (.int 2147483629))) (e2 fAdd (e2 fMul (e2 fIx (eVar 0) (fun _ => pure (.int 3))) (e2 fIx (eVar 0) (fun _ => pure (.int 3)))) (fun _ => pure (.int 1)))) (gN 2)) (bCons (sAsg (e2 fMod (e2 fAdd (e2 fAdd (e2 fMul (e2 fIx (eVar 0) (fun _ => pure (.int 2))) (fun _ => pure (.int 48271))) (eVar 2)) (e2 fMul (fun _ => pure (.int 97)) (e2 fIx (eVar 0) (fun _ => pure (.int 3))))) (fun _ => pure (.int 2147483647))) (gIx (eVar 0) (fun _ => pure (.int 2)))) (bCons (sRet (e2 fMod (e2 fDiv (e2 fMod (e2 fPow (e2 fIx (eVar 0) (fun _ => pure (.int 2))) (fun _ => pure (.int 5))) (fun _ => pure (.int 2147483629))) (fun _ => pure (.int 64))) (eVar 1))) bNil)))))))
noncomputable def m__law_draw : List D → M D := runF 3 b__law_draw
theorem sc__law_draw : FnScope ["_law_pool_here", "_law_many", "_law_cell"] ["_law_pool_here", "_law_many"] (defScope (top 32)) := ⟨rfl, rfl, rfl, by decide +kernel, rfl, by decide +kernel, by decide +kernel⟩
theorem ok__law_draw {P : Program} {w : World} {K : PySem.W.Frag} {mg : Str → Option Value} {base : Heap} (T : DefAt K "_law_draw" (top 32)) (mx : ∀ v, PySem.W.nsIn K mainGlobals "_law_draw" = some (some v) → mg "_law_draw" = some v) (z_len : mg "len" = none) : Fn P w K mg base 1 "_law_draw" 2 m__law_draw := by
  obtain ⟨f, fd, hf, F⟩ := T
  have hb : Binds K fd ["_law_pool_here", "_law_many"] [] := F.binds fun _ _ _ _ _ _ us hl => match us, hl with | [_, _], _ => rfl
  exact fn_mkC F sc__law_draw hb (mx _ hf) rfl fun cdv A outer s H E hcd hr => (show SB (cxOf CX0 P w K mg base ["_law_pool_here", "_law_many", "_law_cell"] "_law_draw" (defScope (top 32)) f cdv A outer s H E).nox EX0 (defBody (top 32)) b__law_draw from
    have nd : (["_law_pool_here", "_law_many", "_law_cell"] : List Str).Nodup := sc__law_draw.nd
    (sb_cons (s_if (sc_c co_gt (se_len rfl z_len (sa_cons (se_ix (se_var 0) se_int) sa_nil)) se_int) (sb_cons (s_set 2 nd (se_ix (se_ix (se_var 0) se_int) se_int)) (sb_cons (s_asg (se_div (se_var 2) (se_var 1)) (sg_ix (se_ix (se_var 0) se_int) se_int)) (sb_cons (s_if (sc_c co_eq (se_div (se_var 2) (se_var 1)) se_int) (sb_cons (s_expr (se_popAt (se_ix (se_var 0) se_int) se_int)) sb_nil) sb_nil) (sb_cons (s_ret (se_mod (se_var 2) (se_var 1))) sb_nil)))) sb_nil) (sb_cons (s_asg (se_add (se_ix (se_var 0) se_int) se_int) (sg_ix (se_var 0) se_int)) (sb_cons (s_set 2 nd se_int) (sb_cons (s_if (sc_c co_gt (se_len rfl z_len (sa_cons (se_ix (se_var 0) se_int) sa_nil)) se_int) (sb_cons (s_set 2 nd (se_ix (se_ix (se_var 0) se_int) (se_mod (se_ix (se_var 0) se_int) (se_len rfl z_len (sa_cons (se_ix (se_var 0) se_int) sa_nil))))) sb_nil) sb_nil) (sb_cons (s_set 2 nd (se_mul (se_mod (se_var 2) se_int) (se_add (se_mul (se_ix (se_var 0) se_int) (se_ix (se_var 0) se_int)) se_int))) (sb_cons (s_asg (se_mod (se_add (se_add (se_mul (se_ix (se_var 0) se_int) se_int) (se_var 2)) (se_mul se_int (se_ix (se_var 0) se_int))) se_int) (sg_ix (se_var 0) se_int)) (sb_cons (s_ret (se_mod (se_div (se_mod (se_pow (se_ix (se_var 0) se_int) se_int) se_int) se_int) (se_var 1))) sb_nil))))))))
noncomputable def b__law_name : G → M Out :=
  (bCons (sAsg (fun _ => pure (.str "abcdefghijklmnopqrstuvwxyz")) (gN 3)) (bCons (sAsg (eVar 1) (gN 4)) (bCons (sFor (iRange (eFn 2 m__law_draw (aCons (eVar 0) (aCons (fun _ => pure (.int 4)) aNil)))) (gN 5) (bCons (sAsg (e2 fAdd (eVar 4) (e2 fIx (eVar 3) (eFn 2 m__law_draw (aCons (eVar 0) (aCons (fun _ => pure (.int 26)) aNil))))) (gN 4)) bNil)) (bCons (sAsg (eFn 2 m__law_draw (aCons (eVar 0) (aCons (fun _ => pure (.int 26)) aNil))) (gN 6)) (bCons (sAsg (eLst (aCons (fun _ => pure (.str "yes")) (aCons (fun _ => pure (.str "no")) (aCons (fun _ => pure (.str "not")) (aCons (fun _ => pure (.str "and")) (aCons (fun _ => pure (.str "or")) (aCons (fun _ => pure (.str "step")) (aCons (fun _ => pure (.str "some")) (aCons (fun _ => pure (.str "all")) (aCons (fun _ => pure (.str "next")) (aCons (fun _ => pure (.str "once")) (aCons (fun _ => pure (.str "ever")) (aCons (fun _ => pure (.str "until")) (aCons (fun _ => pure (.str "unless")) aNil)))))))))))))) (gN 7)) (bCons (sFor (iRange (fun _ => pure (.int 26))) (gN 5) (bCons (sAsg (e2 fAdd (eVar 4) (e2 fIx (eVar 3) (e2 fMod (e2 fAdd (eVar 6) (eVar 5)) (fun _ => pure (.int 26))))) (gN 8)) (bCons (sIf (cAnd (fun γ => do let d ← e2 (fIn true) (eVar 8) (eVar 7) γ; asB d) (fun γ => do let d ← e2 (fIn true) (eVar 8) (eVar 2) γ; asB d)) (bCons (sRet (eVar 8)) bNil) bNil) bNil))) (bCons (sRet (e2 fAdd (eVar 4) (fun _ => pure (.str "x")))) bNil)))))))
noncomputable def m__law_name : List D → M D := runF 9 b__law_name
theorem sc__law_name : FnScope ["_law_pool_here", "_law_start", "_law_taken", "_law_letters", "_law_name_here", "_law_k", "_law_last", "_law_words", "_law_found"] ["_law_pool_here", "_law_start", "_law_taken"] (defScope (top 33)) := ⟨rfl, rfl, rfl, by decide +kernel, rfl, by decide +kernel, by decide +kernel⟩
theorem ok__law_name {P : Program} {w : World} {K : PySem.W.Frag} {mg : Str → Option Value} {base : Heap} (T : DefAt K "_law_name" (top 33)) (mx : ∀ v, PySem.W.nsIn K mainGlobals "_law_name" = some (some v) → mg "_law_name" = some v) (z_range : mg "range" = none) (F__law_draw : Fn P w K mg base 1 "_law_draw" 2 m__law_draw) : Fn P w K mg base 2 "_law_name" 3 m__law_name := by
  obtain ⟨f, fd, hf, F⟩ := T
  have hb : Binds K fd ["_law_pool_here", "_law_start", "_law_taken"] [] := F.binds fun _ _ _ _ _ _ us hl => match us, hl with | [_, _, _], _ => rfl
  exact fn_mkC F sc__law_name hb (mx _ hf) rfl fun cdv A outer s H E hcd hr => (show SB (cxOf CX0 P w K mg base ["_law_pool_here", "_law_start", "_law_taken", "_law_letters", "_law_name_here", "_law_k", "_law_last", "_law_words", "_law_found"] "_law_name" (defScope (top 33)) f cdv A outer s H E).nox EX0 (defBody (top 33)) b__law_name from
    have nd : (["_law_pool_here", "_law_start", "_law_taken", "_law_letters", "_law_name_here", "_law_k", "_law_last", "_law_words", "_law_found"] : List Str).Nodup := sc__law_name.nd
    (sb_cons (s_set 3 nd se_str) (sb_cons (s_set 4 nd (se_var 1)) (sb_cons (s_for PassesOwn.never rfl (si_range rfl z_range (se_call F__law_draw (hr.mono (by decide)) rfl (sa_cons (se_var 0) (sa_cons se_int sa_nil)))) (sg_name 5 nd) (sb_cons (s_set 4 nd (se_add (se_var 4) (se_ix (se_var 3) (se_call F__law_draw (hr.mono (by decide)) rfl (sa_cons (se_var 0) (sa_cons se_int sa_nil)))))) sb_nil)) (sb_cons (s_set 6 nd (se_call F__law_draw (hr.mono (by decide)) rfl (sa_cons (se_var 0) (sa_cons se_int sa_nil)))) (sb_cons (s_set 7 nd (se_lst (sa_cons se_str (sa_cons se_str (sa_cons se_str (sa_cons se_str (sa_cons se_str (sa_cons se_str (sa_cons se_str (sa_cons se_str (sa_cons se_str (sa_cons se_str (sa_cons se_str (sa_cons se_str (sa_cons se_str sa_nil))))))))))))))) (sb_cons (s_for PassesOwn.never rfl (si_range rfl z_range se_int) (sg_name 5 nd) (sb_cons (s_set 8 nd (se_add (se_var 4) (se_ix (se_var 3) (se_mod (se_add (se_var 6) (se_var 5)) se_int)))) (sb_cons (s_if (SW.sc (sw_and (sc_c co_notin (se_var 8) (se_var 7)) (sw_and1 (sc_c co_notin (se_var 8) (se_var 2))))) (sb_cons (s_ret (se_var 8)) sb_nil) sb_nil) sb_nil))) (sb_cons (s_ret (se_add (se_var 4) se_str)) sb_nil))))))))
noncomputable def b__law_names : G → M Out :=
  (bCons (sAsg (fun _ => pure (.str "abcdefghijklmnopqrstuvwxyz")) (gN 2)) (bCons (sAsg (fun _ => pure (.str "")) (gN 3)) (bCons (sFor (iRange (e2 fIx (eLst (aCons (fun _ => pure (.int 0)) (aCons (fun _ => pure (.int 0)) (aCons (fun _ => pure (.int 1)) (aCons (fun _ => pure (.int 4)) aNil))))) (eFn 2 m__law_draw (aCons (eVar 0) (aCons (fun _ => pure (.int 4)) aNil))))) (gN 4) (bCons (sAsg (e2 fAdd (eVar 3) (e2 fIx (eVar 2) (eFn 2 m__law_draw (aCons (eVar 0) (aCons (fun _ => pure (.int 26)) aNil))))) (gN 3)) bNil)) (bCons (sAsg (eLst aNil) (gN 5)) (bCons (sFor (iRange (eVar 1)) (gN 4) (bCons (sExpr (eM1 fAppend (eVar 5) (eFn 3 m__law_name (aCons (eVar 0) (aCons (eVar 3) (aCons (eVar 5) aNil)))))) bNil)) (bCons (sRet (eVar 5)) bNil))))))
noncomputable def m__law_names : List D → M D := runF 6 b__law_names
theorem sc__law_names : FnScope ["_law_pool_here", "_law_many", "_law_letters", "_law_start", "_law_k", "_law_names_here"] ["_law_pool_here", "_law_many"] (defScope (top 34)) := ⟨rfl, rfl, rfl, by decide +kernel, rfl, by decide +kernel, by decide +kernel⟩
theorem ok__law_names {P : Program} {w : World} {K : PySem.W.Frag} {mg : Str → Option Value} {base : Heap} (T : DefAt K "_law_names" (top 34)) (mx : ∀ v, PySem.W.nsIn K mainGlobals "_law_names" = some (some v) → mg "_law_names" = some v) (z_range : mg "range" = none) (F__law_draw : Fn P w K mg base 1 "_law_draw" 2 m__law_draw) (F__law_name : Fn P w K mg base 2 "_law_name" 3 m__law_name) : Fn P w K mg base 3 "_law_names" 2 m__law_names := by
  obtain ⟨f, fd, hf, F⟩ := T
  have hb : Binds K fd ["_law_pool_here", "_law_many"] [] := F.binds fun _ _ _ _ _ _ us hl => match us, hl with | [_, _], _ => rfl
  exact fn_mkC F sc__law_names hb (mx _ hf) rfl fun cdv A outer s H E hcd hr => (show SB (cxOf CX0 P w K mg base ["_law_pool_here", "_law_many", "_law_letters", "_law_start", "_law_k", "_law_names_here"] "_law_names" (defScope (top 34)) f cdv A outer s H E).nox EX0 (defBody (top 34)) b__law_names from
    have nd : (["_law_pool_here", "_law_many", "_law_letters", "_law_start", "_law_k", "_law_names_here"] : List Str).Nodup := sc__law_names.nd
    (sb_cons (s_set 2 nd se_str) (sb_cons (s_set 3 nd se_str) (sb_cons (s_for PassesOwn.never rfl (si_range rfl z_range (se_ix (se_lst (sa_cons se_int (sa_cons se_int (sa_cons se_int (sa_cons se_int sa_nil))))) (se_call F__law_draw (hr.mono (by decide)) rfl (sa_cons (se_var 0) (sa_cons se_int sa_nil))))) (sg_name 4 nd) (sb_cons (s_set 3 nd (se_add (se_var 3) (se_ix (se_var 2) (se_call F__law_draw (hr.mono (by decide)) rfl (sa_cons (se_var 0) (sa_cons se_int sa_nil)))))) sb_nil)) (sb_cons (s_set 5 nd (se_lst sa_nil)) (sb_cons (s_for PassesOwn.never rfl (si_range rfl z_range (se_var 1)) (sg_name 4 nd) (sb_cons (s_expr (se_append (se_var 5) (se_call F__law_name (hr.mono (by decide)) rfl (sa_cons (se_var 0) (sa_cons (se_var 3) (sa_cons (se_var 5) sa_nil)))))) sb_nil)) (sb_cons (s_ret (se_var 5)) sb_nil)))))))
noncomputable def b__law_worth : G → M Out :=
  (bCons (sIf (fun γ => do let d ← e2 (fEq false) (eFn 2 m__law_draw (aCons (eVar 0) (aCons (fun _ => pure (.int 2)) aNil))) (fun _ => pure (.int 0)) γ; asB d) (bCons (sRet (eFn 2 m__law_draw (aCons (eVar 0) (aCons (e2 fIx (eLst (aCons (fun _ => pure (.int 3)) (aCons (fun _ => pure (.int 9)) aNil))) (eFn 2 m__law_draw (aCons (eVar 0) (aCons (fun _ => pure (.int 2)) aNil)))) aNil)))) bNil) bNil) (bCons (sRet (eTup (aCons (e2 fIx (eVar 1) (eFn 2 m__law_draw (aCons (eVar 0) (aCons (eCall fLen (aCons (eVar 1) aNil)) aNil)))) (aCons (e2 fSub (eFn 2 m__law_draw (aCons (eVar 0) (aCons (fun _ => pure (.int 17)) aNil))) (fun _ => pure (.int 8))) aNil)))) bNil))
noncomputable def m__law_worth : List D → M D := runF 2 b__law_worth
theorem sc__law_worth : FnScope ["_law_pool_here", "_law_names_here"] ["_law_pool_here", "_law_names_here"] (defScope (top 35)) := ⟨rfl, rfl, rfl, by decide +kernel, rfl, by decide +kernel, by decide +kernel⟩
theorem ok__law_worth {P : Program} {w : World} {K : PySem.W.Frag} {mg : Str → Option Value} {base : Heap} (T : DefAt K "_law_worth" (top 35)) (mx : ∀ v, PySem.W.nsIn K mainGlobals "_law_worth" = some (some v) → mg "_law_worth" = some v) (z_len : mg "len" = none) (F__law_draw : Fn P w K mg base 1 "_law_draw" 2 m__law_draw) : Fn P w K mg base 2 "_law_worth" 2 m__law_worth := by
  obtain ⟨f, fd, hf, F⟩ := T
  have hb : Binds K fd ["_law_pool_here", "_law_names_here"] [] := F.binds fun _ _ _ _ _ _ us hl => match us, hl with | [_, _], _ => rfl
  exact fn_mkC F sc__law_worth hb (mx _ hf) rfl fun cdv A outer s H E hcd hr => (show SB (cxOf CX0 P w K mg base ["_law_pool_here", "_law_names_here"] "_law_worth" (defScope (top 35)) f cdv A outer s H E).nox EX0 (defBody (top 35)) b__law_worth from
    have nd : (["_law_pool_here", "_law_names_here"] : List Str).Nodup := sc__law_worth.nd
    (sb_cons (s_if (sc_c co_eq (se_call F__law_draw (hr.mono (by decide)) rfl (sa_cons (se_var 0) (sa_cons se_int sa_nil))) se_int) (sb_cons (s_ret (se_call F__law_draw (hr.mono (by decide)) rfl (sa_cons (se_var 0) (sa_cons (se_ix (se_lst (sa_cons se_int (sa_cons se_int sa_nil))) (se_call F__law_draw (hr.mono (by decide)) rfl (sa_cons (se_var 0) (sa_cons se_int sa_nil)))) sa_nil)))) sb_nil) sb_nil) (sb_cons (s_ret (se_tup (sa_cons (se_ix (se_var 1) (se_call F__law_draw (hr.mono (by decide)) rfl (sa_cons (se_var 0) (sa_cons (se_len rfl z_len (sa_cons (se_var 1) sa_nil)) sa_nil)))) (sa_cons (se_sub (se_call F__law_draw (hr.mono (by decide)) rfl (sa_cons (se_var 0) (sa_cons se_int sa_nil))) se_int) sa_nil)))) sb_nil)))
noncomputable def b__law_test : G → M Out :=
  (bCons (sAsg (e2 fIx (eVar 1) (eFn 2 m__law_draw (aCons (eVar 0) (aCons (eCall fLen (aCons (eVar 1) aNil)) aNil)))) (gN 2)) (bCons (sRet (eTup (aCons (eVar 2) (aCons (e2 fIx (eLst (aCons (fun _ => pure (.str "is")) (aCons (fun _ => pure (.str "not")) (aCons (fun _ => pure (.str "under")) aNil)))) (eFn 2 m__law_draw (aCons (eVar 0) (aCons (fun _ => pure (.int 3)) aNil)))) (aCons (eFn 2 m__law_worth (aCons (eVar 0) (aCons (eVar 1) aNil))) aNil))))) bNil))
noncomputable def m__law_test : List D → M D := runF 3 b__law_test
theorem sc__law_test : FnScope ["_law_pool_here", "_law_names_here", "_law_name_here"] ["_law_pool_here", "_law_names_here"] (defScope (top 36)) := ⟨rfl, rfl, rfl, by decide +kernel, rfl, by decide +kernel, by decide +kernel⟩
theorem ok__law_test {P : Program} {w : World} {K : PySem.W.Frag} {mg : Str → Option Value} {base : Heap} (T : DefAt K "_law_test" (top 36)) (mx : ∀ v, PySem.W.nsIn K mainGlobals "_law_test" = some (some v) → mg "_law_test" = some v) (z_len : mg "len" = none) (F__law_draw : Fn P w K mg base 1 "_law_draw" 2 m__law_draw) (F__law_worth : Fn P w K mg base 2 "_law_worth" 2 m__law_worth) : Fn P w K mg base 3 "_law_test" 2 m__law_test := by
  obtain ⟨f, fd, hf, F⟩ := T
  have hb : Binds K fd ["_law_pool_here", "_law_names_here"] [] := F.binds fun _ _ _ _ _ _ us hl => match us, hl with | [_, _], _ => rfl
  exact fn_mkC F sc__law_test hb (mx _ hf) rfl fun cdv A outer s H E hcd hr => (show SB (cxOf CX0 P w K mg base ["_law_pool_here", "_law_names_here", "_law_name_here"] "_law_test" (defScope (top 36)) f cdv A outer s H E).nox EX0 (defBody (top 36)) b__law_test from
    have nd : (["_law_pool_here", "_law_names_here", "_law_name_here"] : List Str).Nodup := sc__law_test.nd
    (sb_cons (s_set 2 nd (se_ix (se_var 1) (se_call F__law_draw (hr.mono (by decide)) rfl (sa_cons (se_var 0) (sa_cons (se_len rfl z_len (sa_cons (se_var 1) sa_nil)) sa_nil))))) (sb_cons (s_ret (se_tup (sa_cons (se_var 2) (sa_cons (se_ix (se_lst (sa_cons se_str (sa_cons se_str (sa_cons se_str sa_nil)))) (se_call F__law_draw (hr.mono (by decide)) rfl (sa_cons (se_var 0) (sa_cons se_int sa_nil)))) (sa_cons (se_call F__law_worth (hr.mono (by decide)) rfl (sa_cons (se_var 0) (sa_cons (se_var 1) sa_nil))) sa_nil))))) sb_nil)))
noncomputable def b__law_cells : G → M Out :=
  (bCons (sAsg (eLst aNil) (gN 3)) (bCons (sFor (iSeqL (eVar 1)) (gN 4) (bCons (sAsg (e2 fAdd (fun _ => pure (.int 1)) (eFn 2 m__law_draw (aCons (eVar 0) (aCons (eCall fMin (aCons (e2 fIx (eLst (aCons (fun _ => pure (.int 9)) (aCons (fun _ => pure (.int 3)) (aCons (fun _ => pure (.int 4)) aNil)))) (eFn 2 m__law_draw (aCons (eVar 0) (aCons (fun _ => pure (.int 3)) aNil)))) (aCons (eVar 2) aNil))) aNil)))) (gN 5)) (bCons (sAsg (e2 fDiv (eVar 2) (eVar 5)) (gN 2)) (bCons (sExpr (eM1 fAppend (eVar 3) (eTup (aCons (eVar 4) (aCons (eVar 5) (aCons (eFn 2 m__law_draw (aCons (eVar 0) (aCons (eVar 5) aNil))) aNil)))))) bNil)))) (bCons (sRet (eCall fTuple (aCons (eVar 3) aNil))) bNil)))
noncomputable def m__law_cells : List D → M D := runF 6 b__law_cells
theorem sc__law_cells : FnScope ["_law_pool_here", "_law_names_here", "_law_room", "_law_cells_here", "_law_name_here", "_law_size"] ["_law_pool_here", "_law_names_here", "_law_room"] (defScope (top 37)) := ⟨rfl, rfl, rfl, by decide +kernel, rfl, by decide +kernel, by decide +kernel⟩
theorem ok__law_cells {P : Program} {w : World} {K : PySem.W.Frag} {mg : Str → Option Value} {base : Heap} (T : DefAt K "_law_cells" (top 37)) (mx : ∀ v, PySem.W.nsIn K mainGlobals "_law_cells" = some (some v) → mg "_law_cells" = some v) (z_min : mg "min" = none) (z_tuple : mg "tuple" = none) (F__law_draw : Fn P w K mg base 1 "_law_draw" 2 m__law_draw) : Fn P w K mg base 2 "_law_cells" 3 m__law_cells := by
  obtain ⟨f, fd, hf, F⟩ := T
  have hb : Binds K fd ["_law_pool_here", "_law_names_here", "_law_room"] [] := F.binds fun _ _ _ _ _ _ us hl => match us, hl with | [_, _, _], _ => rfl
  exact fn_mkC F sc__law_cells hb (mx _ hf) rfl fun cdv A outer s H E hcd hr => (show SB (cxOf CX0 P w K mg base ["_law_pool_here", "_law_names_here", "_law_room", "_law_cells_here", "_law_name_here", "_law_size"] "_law_cells" (defScope (top 37)) f cdv A outer s H E).nox EX0 (defBody (top 37)) b__law_cells from
    have nd : (["_law_pool_here", "_law_names_here", "_law_room", "_law_cells_here", "_law_name_here", "_law_size"] : List Str).Nodup := sc__law_cells.nd
    (sb_cons (s_set 3 nd (se_lst sa_nil)) (sb_cons (s_for PassesOwn.never rfl (si_list (se_var 1)) (sg_name 4 nd) (sb_cons (s_set 5 nd (se_add se_int (se_call F__law_draw (hr.mono (by decide)) rfl (sa_cons (se_var 0) (sa_cons (se_min rfl rfl z_min (sa_cons (se_ix (se_lst (sa_cons se_int (sa_cons se_int (sa_cons se_int sa_nil)))) (se_call F__law_draw (hr.mono (by decide)) rfl (sa_cons (se_var 0) (sa_cons se_int sa_nil)))) (sa_cons (se_var 2) sa_nil))) sa_nil))))) (sb_cons (s_set 2 nd (se_div (se_var 2) (se_var 5))) (sb_cons (s_expr (se_append (se_var 3) (se_tup (sa_cons (se_var 4) (sa_cons (se_var 5) (sa_cons (se_call F__law_draw (hr.mono (by decide)) rfl (sa_cons (se_var 0) (sa_cons (se_var 5) sa_nil))) sa_nil)))))) sb_nil)))) (sb_cons (s_ret (se_tuple rfl z_tuple (sa_cons (se_var 3) sa_nil))) sb_nil))))
noncomputable def b__law_command : G → M Out :=
  (bCons (sAsg (eCall fTuple (aCons (eComp [some 0, some 2, none] (iRange (e2 fIx (eLst (aCons (fun _ => pure (.int 0)) (aCons (fun _ => pure (.int 1)) (aCons (fun _ => pure (.int 1)) (aCons (fun _ => pure (.int 2)) (aCons (fun _ => pure (.int 4)) aNil)))))) (eFn 2 m__law_draw (aCons (eVar 0) (aCons (fun _ => pure (.int 5)) aNil))))) (gN 2) (fun _ => pure true) (eFn 2 m__law_test (aCons (eVar 0) (aCons (eVar 1) aNil)))) aNil)) (gN 3)) (bCons (sAsg (eFn 2 m__law_draw (aCons (eVar 0) (aCons (eCall fLen (aCons (eVar 2) aNil)) aNil))) (gN 4)) (bCons (sAsg (e2 fAdd (eSlice (eVar 2) (oSome (eVar 4)) oNone) (eSlice (eVar 2) oNone (oSome (eVar 4)))) (gN 5)) (bCons (sAsg (eCall fTuple (aCons (eComp [some 0, some 2, none] (iSeqL (eVar 5)) (gN 2) (fun γ => do let d ← e2 fGt (eFn 2 m__law_draw (aCons (eVar 0) (aCons (fun _ => pure (.int 3)) aNil))) (fun _ => pure (.int 0)) γ; asB d) (eTup (aCons (eVar 2) (aCons (eFn 2 m__law_worth (aCons (eVar 0) (aCons (eVar 1) aNil))) aNil)))) aNil)) (gN 6)) (bCons (sRet (eTup (aCons (eVar 1) (aCons (eVar 3) (aCons (eVar 6) aNil))))) bNil)))))
noncomputable def m__law_command : List D → M D := runF 7 b__law_command
theorem sc__law_command : FnScope ["_law_pool_here", "_law_name_here", "_law_names_here", "_law_tests", "_law_turn", "_law_some", "_law_sets"] ["_law_pool_here", "_law_name_here", "_law_names_here"] (defScope (top 38)) := ⟨rfl, rfl, rfl, by decide +kernel, rfl, by decide +kernel, by decide +kernel⟩
theorem ok__law_command {P : Program} {w : World} {K : PySem.W.Frag} {mg : Str → Option Value} {base : Heap} (T : DefAt K "_law_command" (top 38)) (mx : ∀ v, PySem.W.nsIn K mainGlobals "_law_command" = some (some v) → mg "_law_command" = some v) (z_len : mg "len" = none) (z_range : mg "range" = none) (z_tuple : mg "tuple" = none) (F__law_draw : Fn P w K mg base 1 "_law_draw" 2 m__law_draw) (F__law_test : Fn P w K mg base 3 "_law_test" 2 m__law_test) (F__law_worth : Fn P w K mg base 2 "_law_worth" 2 m__law_worth) : Fn P w K mg base 4 "_law_command" 3 m__law_command := by
  obtain ⟨f, fd, hf, F⟩ := T
  have hb : Binds K fd ["_law_pool_here", "_law_name_here", "_law_names_here"] [] := F.binds fun _ _ _ _ _ _ us hl => match us, hl with | [_, _, _], _ => rfl
  exact fn_mkC F sc__law_command hb (mx _ hf) rfl fun cdv A outer s H E hcd hr => (show SB (cxOf CX0 P w K mg base ["_law_pool_here", "_law_name_here", "_law_names_here", "_law_tests", "_law_turn", "_law_some", "_law_sets"] "_law_command" (defScope (top 38)) f cdv A outer s H E).nox EX0 (defBody (top 38)) b__law_command from
    have nd : (["_law_pool_here", "_law_name_here", "_law_names_here", "_law_tests", "_law_turn", "_law_some", "_law_sets"] : List Str).Nodup := sc__law_command.nd
    (sb_cons (s_set 3 nd (se_tuple rfl z_tuple (sa_cons (se_comp (N' := ["_law_pool_here", "_law_names_here", "_law_k"]) (cap := [some 0, some 2, none]) rfl (cs_mk (by first | rfl | kernel_rfl!)) (si_range rfl z_range (se_ix (se_lst (sa_cons se_int (sa_cons se_int (sa_cons se_int (sa_cons se_int (sa_cons se_int sa_nil)))))) (se_call F__law_draw (hr.mono (by decide)) rfl (sa_cons (se_var 0) (sa_cons se_int sa_nil))))) (fun _ _ _ _ => (sgk_name 2 (show (["_law_pool_here", "_law_names_here", "_law_k"] : List Str).Nodup by decide +kernel))) (fun _ _ _ _ => scs_nil) (fun _ _ _ _ => (se_call F__law_test (hr.mono (by decide)) rfl (sa_cons (se_var 0) (sa_cons (se_var 1) sa_nil))))) sa_nil))) (sb_cons (s_set 4 nd (se_call F__law_draw (hr.mono (by decide)) rfl (sa_cons (se_var 0) (sa_cons (se_len rfl z_len (sa_cons (se_var 2) sa_nil)) sa_nil)))) (sb_cons (s_set 5 nd (se_add (se_slice (se_var 2) (so_some (se_var 4)) so_none) (se_slice (se_var 2) so_none (so_some (se_var 4))))) (sb_cons (s_set 6 nd (se_tuple rfl z_tuple (sa_cons (se_comp (N' := ["_law_pool_here", "_law_names_here", "_law_one"]) (cap := [some 0, some 2, none]) rfl (cs_mk (by first | rfl | kernel_rfl!)) (si_list (se_var 5)) (fun _ _ _ _ => (sgk_name 2 (show (["_law_pool_here", "_law_names_here", "_law_one"] : List Str).Nodup by decide +kernel))) (fun _ _ _ _ => (scs_one (sc_c co_gt (se_call F__law_draw (hr.mono (by decide)) rfl (sa_cons (se_var 0) (sa_cons se_int sa_nil))) se_int))) (fun _ _ _ _ => (se_tup (sa_cons (se_var 2) (sa_cons (se_call F__law_worth (hr.mono (by decide)) rfl (sa_cons (se_var 0) (sa_cons (se_var 1) sa_nil))) sa_nil))))) sa_nil))) (sb_cons (s_ret (se_tup (sa_cons (se_var 1) (sa_cons (se_var 3) (sa_cons (se_var 6) sa_nil))))) sb_nil))))))
noncomputable def b__law_ask : G → M Out :=
  (bCons (sIf (cAnd (fun γ => do let d ← e2 fGt (eCall fLen (aCons (eVar 2) aNil)) (fun _ => pure (.int 0)) γ; asB d) (fun γ => do let d ← e2 (fEq false) (eFn 2 m__law_draw (aCons (eVar 0) (aCons (fun _ => pure (.int 2)) aNil))) (fun _ => pure (.int 0)) γ; asB d)) (bCons (sAsg (e2 fIx (eLst (aCons (fun _ => pure (.str "can")) (aCons (fun _ => pure (.str "last")) aNil))) (eFn 2 m__law_draw (aCons (eVar 0) (aCons (e2 fAdd (fun _ => pure (.int 1)) (eCall fInt (aCons (eVar 3) aNil))) aNil)))) (gN 4)) (bCons (sRet (eTup (aCons (eVar 4) (aCons (e2 fIx (eVar 2) (eFn 2 m__law_draw (aCons (eVar 0) (aCons (eCall fLen (aCons (eVar 2) aNil)) aNil)))) aNil)))) bNil)) bNil) (bCons (sRet (eFn 2 m__law_test (aCons (eVar 0) (aCons (eVar 1) aNil)))) bNil))
noncomputable def m__law_ask : List D → M D := runF 5 b__law_ask
theorem sc__law_ask : FnScope ["_law_pool_here", "_law_cells_here", "_law_commands", "_law_keeps", "_law_word"] ["_law_pool_here", "_law_cells_here", "_law_commands", "_law_keeps"] (defScope (top 39)) := ⟨rfl, rfl, rfl, by decide +kernel, rfl, by decide +kernel, by decide +kernel⟩
theorem ok__law_ask {P : Program} {w : World} {K : PySem.W.Frag} {mg : Str → Option Value} {base : Heap} (T : DefAt K "_law_ask" (top 39)) (mx : ∀ v, PySem.W.nsIn K mainGlobals "_law_ask" = some (some v) → mg "_law_ask" = some v) (z_int : mg "int" = none) (z_len : mg "len" = none) (F__law_draw : Fn P w K mg base 1 "_law_draw" 2 m__law_draw) (F__law_test : Fn P w K mg base 3 "_law_test" 2 m__law_test) : Fn P w K mg base 4 "_law_ask" 4 m__law_ask := by
  obtain ⟨f, fd, hf, F⟩ := T
  have hb : Binds K fd ["_law_pool_here", "_law_cells_here", "_law_commands", "_law_keeps"] [] := F.binds fun _ _ _ _ _ _ us hl => match us, hl with | [_, _, _, _], _ => rfl
  exact fn_mkC F sc__law_ask hb (mx _ hf) rfl fun cdv A outer s H E hcd hr => (show SB (cxOf CX0 P w K mg base ["_law_pool_here", "_law_cells_here", "_law_commands", "_law_keeps", "_law_word"] "_law_ask" (defScope (top 39)) f cdv A outer s H E).nox EX0 (defBody (top 39)) b__law_ask from
    have nd : (["_law_pool_here", "_law_cells_here", "_law_commands", "_law_keeps", "_law_word"] : List Str).Nodup := sc__law_ask.nd
    (sb_cons (s_if (SW.sc (sw_and (sc_c co_gt (se_len rfl z_len (sa_cons (se_var 2) sa_nil)) se_int) (sw_and1 (sc_c co_eq (se_call F__law_draw (hr.mono (by decide)) rfl (sa_cons (se_var 0) (sa_cons se_int sa_nil))) se_int)))) (sb_cons (s_set 4 nd (se_ix (se_lst (sa_cons se_str (sa_cons se_str sa_nil))) (se_call F__law_draw (hr.mono (by decide)) rfl (sa_cons (se_var 0) (sa_cons (se_add se_int (se_intof rfl z_int (sa_cons (se_var 3) sa_nil))) sa_nil))))) (sb_cons (s_ret (se_tup (sa_cons (se_var 4) (sa_cons (se_ix (se_var 2) (se_call F__law_draw (hr.mono (by decide)) rfl (sa_cons (se_var 0) (sa_cons (se_len rfl z_len (sa_cons (se_var 2) sa_nil)) sa_nil)))) sa_nil)))) sb_nil)) sb_nil) (sb_cons (s_ret (se_call F__law_test (hr.mono (by decide)) rfl (sa_cons (se_var 0) (sa_cons (se_var 1) sa_nil)))) sb_nil)))
noncomputable def b__law_marks : G → M Out :=
  (bCons (sAsg (eLst aNil) (gN 5)) (bCons (sFor (iSeqL (eVar 1)) (gN 6) (bCons (sAsg (eLst aNil) (gN 7)) (bCons (sFor (iRange (e2 fIx (eLst (aCons (fun _ => pure (.int 1)) (aCons (fun _ => pure (.int 0)) (aCons (fun _ => pure (.int 1)) (aCons (fun _ => pure (.int 2)) (aCons (fun _ => pure (.int 1)) (aCons (fun _ => pure (.int 4)) aNil))))))) (eFn 2 m__law_draw (aCons (eVar 0) (aCons (fun _ => pure (.int 6)) aNil))))) (gN 8) (bCons (sAsg (e2 fIx (eLst (aCons (fun _ => pure (.int 1)) (aCons (fun _ => pure (.int 0)) (aCons (fun _ => pure (.int 1)) (aCons (fun _ => pure (.int 2)) (aCons (fun _ => pure (.int 4)) (aCons (fun _ => pure (.int 1)) aNil))))))) (eFn 2 m__law_draw (aCons (eVar 0) (aCons (fun _ => pure (.int 6)) aNil)))) (gN 9)) (bCons (sExpr (eM1 fAppend (eVar 7) (eCall fTuple (aCons (eComp [some 0, some 2, some 3, some 4, none] (iRange (eVar 9)) (gN 4) (fun _ => pure true) (eFn 4 m__law_ask (aCons (eVar 0) (aCons (eVar 1) (aCons (eVar 2) (aCons (eVar 3) aNil)))))) aNil)))) bNil))) (bCons (sExpr (eM1 fAppend (eVar 5) (eTup (aCons (eVar 6) (aCons (eCall fTuple (aCons (eVar 7) aNil)) aNil))))) bNil)))) (bCons (sRet (eCall fTuple (aCons (eVar 5) aNil))) bNil)))
noncomputable def m__law_marks : List D → M D := runF 10 b__law_marks
theorem sc__law_marks : FnScope ["_law_pool_here", "_law_names_here", "_law_cells_here", "_law_commands", "_law_keeps", "_law_marks_here", "_law_name_here", "_law_rows", "_law_k", "_law_many"] ["_law_pool_here", "_law_names_here", "_law_cells_here", "_law_commands", "_law_keeps"] (defScope (top 40)) := ⟨rfl, rfl, rfl, by decide +kernel, rfl, by decide +kernel, by decide +kernel⟩
theorem ok__law_marks {P : Program} {w : World} {K : PySem.W.Frag} {mg : Str → Option Value} {base : Heap} (T : DefAt K "_law_marks" (top 40)) (mx : ∀ v, PySem.W.nsIn K mainGlobals "_law_marks" = some (some v) → mg "_law_marks" = some v) (z_range : mg "range" = none) (z_tuple : mg "tuple" = none) (F__law_ask : Fn P w K mg base 4 "_law_ask" 4 m__law_ask) (F__law_draw : Fn P w K mg base 1 "_law_draw" 2 m__law_draw) : Fn P w K mg base 5 "_law_marks" 5 m__law_marks := by
  obtain ⟨f, fd, hf, F⟩ := T
  have hb : Binds K fd ["_law_pool_here", "_law_names_here", "_law_cells_here", "_law_commands", "_law_keeps"] [] := F.binds fun _ _ _ _ _ _ us hl => match us, hl with | [_, _, _, _, _], _ => rfl
  exact fn_mkC F sc__law_marks hb (mx _ hf) rfl fun cdv A outer s H E hcd hr => (show SB (cxOf CX0 P w K mg base ["_law_pool_here", "_law_names_here", "_law_cells_here", "_law_commands", "_law_keeps", "_law_marks_here", "_law_name_here", "_law_rows", "_law_k", "_law_many"] "_law_marks" (defScope (top 40)) f cdv A outer s H E).nox EX0 (defBody (top 40)) b__law_marks from
    have nd : (["_law_pool_here", "_law_names_here", "_law_cells_here", "_law_commands", "_law_keeps", "_law_marks_here", "_law_name_here", "_law_rows", "_law_k", "_law_many"] : List Str).Nodup := sc__law_marks.nd
    (sb_cons (s_set 5 nd (se_lst sa_nil)) (sb_cons (s_for PassesOwn.never rfl (si_list (se_var 1)) (sg_name 6 nd) (sb_cons (s_set 7 nd (se_lst sa_nil)) (sb_cons (s_for PassesOwn.never rfl (si_range rfl z_range (se_ix (se_lst (sa_cons se_int (sa_cons se_int (sa_cons se_int (sa_cons se_int (sa_cons se_int (sa_cons se_int sa_nil))))))) (se_call F__law_draw (hr.mono (by decide)) rfl (sa_cons (se_var 0) (sa_cons se_int sa_nil))))) (sg_name 8 nd) (sb_cons (s_set 9 nd (se_ix (se_lst (sa_cons se_int (sa_cons se_int (sa_cons se_int (sa_cons se_int (sa_cons se_int (sa_cons se_int sa_nil))))))) (se_call F__law_draw (hr.mono (by decide)) rfl (sa_cons (se_var 0) (sa_cons se_int sa_nil))))) (sb_cons (s_expr (se_append (se_var 7) (se_tuple rfl z_tuple (sa_cons (se_comp (N' := ["_law_pool_here", "_law_cells_here", "_law_commands", "_law_keeps", "_law_j"]) (cap := [some 0, some 2, some 3, some 4, none]) rfl (cs_mk (by first | rfl | kernel_rfl!)) (si_range rfl z_range (se_var 9)) (fun _ _ _ _ => (sgk_name 4 (show (["_law_pool_here", "_law_cells_here", "_law_commands", "_law_keeps", "_law_j"] : List Str).Nodup by decide +kernel))) (fun _ _ _ _ => scs_nil) (fun _ _ _ _ => (se_call F__law_ask (hr.mono (by decide)) rfl (sa_cons (se_var 0) (sa_cons (se_var 1) (sa_cons (se_var 2) (sa_cons (se_var 3) sa_nil))))))) sa_nil)))) sb_nil))) (sb_cons (s_expr (se_append (se_var 5) (se_tup (sa_cons (se_var 6) (sa_cons (se_tuple rfl z_tuple (sa_cons (se_var 7) sa_nil)) sa_nil))))) sb_nil)))) (sb_cons (s_ret (se_tuple rfl z_tuple (sa_cons (se_var 5) sa_nil))) sb_nil))))
noncomputable def b__law_program : G → M Out :=
  (bCons (sAsg (e2 (fEq false) (eFn 2 m__law_draw (aCons (eVar 0) (aCons (fun _ => pure (.int 2)) aNil))) (fun _ => pure (.int 1))) (gN 4)) (bCons (sAsg (e2 (fEq false) (eFn 2 m__law_draw (aCons (eVar 0) (aCons (fun _ => pure (.int 3)) aNil))) (fun _ => pure (.int 0))) (gN 5)) (bCons (sAsg (e2 fAdd (fun _ => pure (.int 1)) (eFn 2 m__law_draw (aCons (eVar 0) (aCons (fun _ => pure (.int 4)) aNil)))) (gN 6)) (bCons (sAsg (eFn 2 m__law_draw (aCons (eVar 0) (aCons (e2 fAdd (eVar 2) (fun _ => pure (.int 1))) aNil))) (gN 2)) (bCons (sAsg (eFn 2 m__law_draw (aCons (eVar 0) (aCons (e2 fAdd (eVar 3) (fun _ => pure (.int 1))) aNil))) (gN 3)) (bCons (sAsg (eFn 2 m__law_names (aCons (eVar 0) (aCons (fun _ => pure (.int 8)) aNil))) (gN 7)) (bCons (sAsg (eSlice (eVar 7) oNone (oSome (eVar 6))) (gN 8)) (bCons (sAsg (eSlice (eRev (eVar 7) (eNeg (fun _ => pure (.int 1)))) oNone (oSome (eVar 3))) (gN 9)) (bCons (sIf (cNot (cVal (eVar 5))) (bCons (sAsg (eFn 2 m__law_names (aCons (eVar 0) (aCons (eVar 6) aNil))) (gN 8)) (bCons (sAsg (eFn 2 m__law_names (aCons (eVar 0) (aCons (eVar 3) aNil))) (gN 9)) bNil)) bNil) (bCons (sAsg (eSlice (eVar 7) oNone (oSome (eVar 2))) (gN 7)) (bCons (sIf (cVal (eVar 4)) (bCons (sAsg (e2 fDiv (eVar 1) (e2 fAdd (fun _ => pure (.int 1)) (eVar 2))) (gN 1)) bNil) bNil) (bCons (sAsg (eFn 3 m__law_cells (aCons (eVar 0) (aCons (eVar 8) (aCons (eVar 1) aNil)))) (gN 10)) (bCons (sAsg (eCall fTuple (aCons (eComp [some 0, some 8, none] (iSeqL (eVar 7)) (gN 2) (fun _ => pure true) (eFn 3 m__law_command (aCons (eVar 0) (aCons (eVar 2) (aCons (eVar 1) aNil))))) aNil)) (gN 11)) (bCons (sRet (eTup (aCons (eVar 10) (aCons (eVar 11) (aCons (eFn 5 m__law_marks (aCons (eVar 0) (aCons (eVar 9) (aCons (eVar 8) (aCons (eVar 7) (aCons (eVar 4) aNil)))))) (aCons (eVar 4) aNil)))))) bNil))))))))))))))
noncomputable def m__law_program : List D → M D := runF 12 b__law_program
theorem sc__law_program : FnScope ["_law_pool_here", "_law_room", "_law_commands", "_law_marks_here", "_law_keeps", "_law_shared", "_law_many", "_law_called", "_law_cells_here", "_law_worn", "_law_inner", "_law_rows"] ["_law_pool_here", "_law_room", "_law_commands", "_law_marks_here"] (defScope (top 41)) := ⟨rfl, rfl, rfl, by decide +kernel, rfl, by decide +kernel, by decide +kernel⟩
theorem ok__law_program {P : Program} {w : World} {K : PySem.W.Frag} {mg : Str → Option Value} {base : Heap} (T : DefAt K "_law_program" (top 41)) (mx : ∀ v, PySem.W.nsIn K mainGlobals "_law_program" = some (some v) → mg "_law_program" = some v) (z_tuple : mg "tuple" = none) (F__law_cells : Fn P w K mg base 2 "_law_cells" 3 m__law_cells) (F__law_command : Fn P w K mg base 4 "_law_command" 3 m__law_command) (F__law_draw : Fn P w K mg base 1 "_law_draw" 2 m__law_draw) (F__law_marks : Fn P w K mg base 5 "_law_marks" 5 m__law_marks) (F__law_names : Fn P w K mg base 3 "_law_names" 2 m__law_names) : Fn P w K mg base 6 "_law_program" 4 m__law_program := by
  obtain ⟨f, fd, hf, F⟩ := T
  have hb : Binds K fd ["_law_pool_here", "_law_room", "_law_commands", "_law_marks_here"] [] := F.binds fun _ _ _ _ _ _ us hl => match us, hl with | [_, _, _, _], _ => rfl
  exact fn_mkC F sc__law_program hb (mx _ hf) rfl fun cdv A outer s H E hcd hr => (show SB (cxOf CX0 P w K mg base ["_law_pool_here", "_law_room", "_law_commands", "_law_marks_here", "_law_keeps", "_law_shared", "_law_many", "_law_called", "_law_cells_here", "_law_worn", "_law_inner", "_law_rows"] "_law_program" (defScope (top 41)) f cdv A outer s H E).nox EX0 (defBody (top 41)) b__law_program from
    have nd : (["_law_pool_here", "_law_room", "_law_commands", "_law_marks_here", "_law_keeps", "_law_shared", "_law_many", "_law_called", "_law_cells_here", "_law_worn", "_law_inner", "_law_rows"] : List Str).Nodup := sc__law_program.nd
    (sb_cons (s_set 4 nd (se_c co_eq (se_call F__law_draw (hr.mono (by decide)) rfl (sa_cons (se_var 0) (sa_cons se_int sa_nil))) se_int)) (sb_cons (s_set 5 nd (se_c co_eq (se_call F__law_draw (hr.mono (by decide)) rfl (sa_cons (se_var 0) (sa_cons se_int sa_nil))) se_int)) (sb_cons (s_set 6 nd (se_add se_int (se_call F__law_draw (hr.mono (by decide)) rfl (sa_cons (se_var 0) (sa_cons se_int sa_nil))))) (sb_cons (s_set 2 nd (se_call F__law_draw (hr.mono (by decide)) rfl (sa_cons (se_var 0) (sa_cons (se_add (se_var 2) se_int) sa_nil)))) (sb_cons (s_set 3 nd (se_call F__law_draw (hr.mono (by decide)) rfl (sa_cons (se_var 0) (sa_cons (se_add (se_var 3) se_int) sa_nil)))) (sb_cons (s_set 7 nd (se_call F__law_names (hr.mono (by decide)) rfl (sa_cons (se_var 0) (sa_cons se_int sa_nil)))) (sb_cons (s_set 8 nd (se_slice (se_var 7) so_none (so_some (se_var 6)))) (sb_cons (s_set 9 nd (se_slice (se_rev (se_var 7) (se_neg se_int)) so_none (so_some (se_var 3)))) (sb_cons (s_if (sc_not (sc_val (se_var 5))) (sb_cons (s_set 8 nd (se_call F__law_names (hr.mono (by decide)) rfl (sa_cons (se_var 0) (sa_cons (se_var 6) sa_nil)))) (sb_cons (s_set 9 nd (se_call F__law_names (hr.mono (by decide)) rfl (sa_cons (se_var 0) (sa_cons (se_var 3) sa_nil)))) sb_nil)) sb_nil) (sb_cons (s_set 7 nd (se_slice (se_var 7) so_none (so_some (se_var 2)))) (sb_cons (s_if (sc_val (se_var 4)) (sb_cons (s_set 1 nd (se_div (se_var 1) (se_add se_int (se_var 2)))) sb_nil) sb_nil) (sb_cons (s_set 10 nd (se_call F__law_cells (hr.mono (by decide)) rfl (sa_cons (se_var 0) (sa_cons (se_var 8) (sa_cons (se_var 1) sa_nil))))) (sb_cons (s_set 11 nd (se_tuple rfl z_tuple (sa_cons (se_comp (N' := ["_law_pool_here", "_law_cells_here", "_law_name_here"]) (cap := [some 0, some 8, none]) rfl (cs_mk (by first | rfl | kernel_rfl!)) (si_list (se_var 7)) (fun _ _ _ _ => (sgk_name 2 (show (["_law_pool_here", "_law_cells_here", "_law_name_here"] : List Str).Nodup by decide +kernel))) (fun _ _ _ _ => scs_nil) (fun _ _ _ _ => (se_call F__law_command (hr.mono (by decide)) rfl (sa_cons (se_var 0) (sa_cons (se_var 2) (sa_cons (se_var 1) sa_nil)))))) sa_nil))) (sb_cons (s_ret (se_tup (sa_cons (se_var 10) (sa_cons (se_var 11) (sa_cons (se_call F__law_marks (hr.mono (by decide)) rfl (sa_cons (se_var 0) (sa_cons (se_var 9) (sa_cons (se_var 8) (sa_cons (se_var 7) (sa_cons (se_var 4) sa_nil)))))) (sa_cons (se_var 4) sa_nil)))))) sb_nil)))))))))))))))
noncomputable def b_law : G → M Out :=
  (bCons (sAsg (eFn 1 m__law_pool (aCons (eVar 0) aNil)) (gN 1)) (bCons (sAsg (eFn 4 m__law_program (aCons (eVar 1) (aCons (fun _ => pure (.int 6561)) (aCons (fun _ => pure (.int 8)) (aCons (fun _ => pure (.int 8)) aNil))))) (gN 2)) (bCons (sAsg (eFn 4 m__law_program (aCons (eVar 1) (aCons (fun _ => pure (.int 9)) (aCons (fun _ => pure (.int 2)) (aCons (fun _ => pure (.int 1)) aNil))))) (gN 3)) (bCons (sAsg (eTup (aCons (e2 fIx (eVar 2) (fun _ => pure (.int 0))) (aCons (e2 fIx (eVar 2) (fun _ => pure (.int 1))) (aCons (eTup aNil) (aCons (eNot (e2 fIx (eVar 2) (fun _ => pure (.int 3)))) aNil))))) (gN 4)) (bCons (sIf (cOr (fun γ => do let d ← e2 (fIs true) (eFn 1 m_check (aCons (eVar 2) aNil)) (fun _ => pure (.bl true)) γ; asB d) (cOr (fun γ => do let d ← e2 (fIs true) (eFn 1 m_check (aCons (eVar 3) aNil)) (fun _ => pure (.bl true)) γ; asB d) (fun γ => do let d ← e2 (fIs true) (eFn 1 m_check (aCons (eVar 4) aNil)) (fun _ => pure (.bl true)) γ; asB d))) (bCons (sRet (fun _ => pure (.bl false))) bNil) bNil) (bCons (sRet (e2 (fIs false) (eFn 1 m_check (aCons (eVar 2) aNil)) (fun _ => pure (.bl true)))) bNil))))))
noncomputable def m_law : List D → M D := runF 5 b_law
theorem sc_law : FnScope ["_law_script", "_law_pool_here", "_law_one", "_law_other", "_law_turned_about"] ["_law_script"] (defScope (top 42)) := ⟨rfl, rfl, rfl, by decide +kernel, rfl, by decide +kernel, by decide +kernel⟩
end FT
set_option Elab.async false
set_option linter.all false
set_option maxRecDepth 100000
set_option maxHeartbeats 2000000
namespace FT
open PySem PySem.Spec PyProof.Rows L2
theorem draw1 (g0 : Int) (gr sm : List Int) (s c : Int) (r : AH) (n : Int) (hn : 0 < n) (hn2 : n < 1073741824) (hg : gr.length ≤ 63) :
    ∃ gr', gr'.length ≤ gr.length + 1 ∧ m__law_draw [.ref 2, .int n] (Pool (g0 :: gr) sm s c r) = .ok (.int (g0 % n)) (Pool gr' sm s c r) := by
  unfold m__law_draw runF b__law_draw Pool startG
  have hl : gr.length ≤ sizeLine := Nat.le_trans hg (by decide)
  by_cases h0 : g0 / n = 0
  · refine ⟨gr, by omega, ?_⟩
    simp [bCons, bNil, sIf, sAsg, sRet, sExpr, e2, eCall, aCons, aNil, eVar, fIx, seqD, getL, fLen, fGt, fCmp, fI, asB, gIx, gN, fSet, fDiv, fIC, eM1, asRef, fPopAt, updL, fEq, eqD, fMod, atI, ixN, hn, hn2, h0, seqIndex?, hl]
  · refine ⟨g0 / n :: gr, by simp, ?_⟩
    simp [bCons, bNil, sIf, sAsg, sRet, sExpr, e2, eCall, aCons, aNil, eVar, fIx, seqD, getL, fLen, fGt, fCmp, fI, asB, gIx, gN, fSet, fDiv, fIC, eM1, asRef, fPopAt, updL, fEq, eqD, fMod, atI, ixN, hn, hn2, h0]
theorem draw2 (sm : List Int) (s c : Int) (r : AH) (n : Int) (hn : 0 < n) (hn2 : n < 1073741824) (hs : 0 ≤ s) (hs2 : s < 2147483647) (hc : 0 ≤ c) (hc2 : c < 1000000) (hm : sm.length ≤ 63) :
    ∃ s' d, m__law_draw [.ref 2, .int n] (Pool [] sm s c r) = .ok (.int d) (Pool [] sm s' (c + 1) r) ∧ 0 ≤ d ∧ d < n ∧ 0 ≤ s' ∧ s' < 2147483647 := by
  have k1 : -18446744073709551616 < c + 1 := by omega
  have k2 : c + 1 < 18446744073709551616 := by omega
  have k3 : -18446744073709551616 < s := by omega
  have k4 : s < 18446744073709551616 := by omega
  have key : ∀ x : Int, (∃ y : Int, m__law_draw [.ref 2, .int n] (Pool [] sm s c r) = .ok (.int ((((s * 48271 + x % 2147483629 * ((c + 1) * (c + 1) + 1) + 97 * (c + 1)) % 2147483647) ^ 5) % 2147483629 / 64 % n)) (Pool [] sm ((s * 48271 + x % 2147483629 * ((c + 1) * (c + 1) + 1) + 97 * (c + 1)) % 2147483647) (c + 1) r)) →
      ∃ s' d, m__law_draw [.ref 2, .int n] (Pool [] sm s c r) = .ok (.int d) (Pool [] sm s' (c + 1) r) ∧ 0 ≤ d ∧ d < n ∧ 0 ≤ s' ∧ s' < 2147483647 := fun x ⟨_, e⟩ =>
    ⟨_, _, e, Int.emod_nonneg _ (by omega), Int.emod_lt_of_pos _ hn, Int.emod_nonneg _ (by decide), Int.emod_lt_of_pos _ (by decide)⟩
  have p1 : ∀ z : Int, -18446744073709551616 < z % 2147483647 := fun z => by omega
  have p2 : ∀ z : Int, z % 2147483647 < 18446744073709551616 := fun z => by omega
  have p3 : ∀ z : Int, -18446744073709551616 < z % 2147483629 := fun z => by omega
  have p4 : ∀ z : Int, z % 2147483629 < 18446744073709551616 := fun z => by omega
  cases sm with
  | nil =>
    refine key 0 ⟨0, ?_⟩
    unfold m__law_draw runF b__law_draw Pool startG
    simp [bCons, bNil, sIf, sAsg, sRet, sExpr, e2, eCall, aCons, aNil, eVar, fIx, seqD, getL, fLen, fGt, fCmp, fI, asB, gIx, gN, fSet, fDiv, fIC, eM1, asRef, fPopAt, updL, fEq, eqD, fMod, fAdd, fMul, fPow, atI, ixN, hn, hn2, k1, k2, k3, k4, p1, p2, p3, p4]
  | cons m0 sm =>
    have hl : (0 : Int) < (sm.length : Int) + 1 := by omega
    have hi : 0 ≤ (c + 1) % ((sm.length : Int) + 1) := Int.emod_nonneg _ (by omega)
    have hi2 : (c + 1) % ((sm.length : Int) + 1) < (sm.length : Int) + 1 := Int.emod_lt_of_pos _ hl
    obtain ⟨x, hx⟩ : ∃ x, (D.int m0 :: sm.map D.int)[((c + 1) % ((sm.length : Int) + 1)).toNat]? = some (.int x) := by
      have e : (D.int m0 :: sm.map D.int) = (m0 :: sm).map D.int := rfl
      rw [e, List.getElem?_map, List.getElem?_eq_getElem (by simp; omega)]
      exact ⟨_, rfl⟩
    have hx2 : ∀ hj, (D.int m0 :: List.map D.int sm)[((c + 1) % ((sm.length : Int) + 1)).toNat]'hj = D.int x := fun hj => Option.some.inj ((List.getElem?_eq_getElem hj).symm.trans hx)
    refine key x ⟨0, ?_⟩
    unfold m__law_draw runF b__law_draw Pool startG
    simp [bCons, bNil, sIf, sAsg, sRet, sExpr, e2, eCall, aCons, aNil, eVar, fIx, seqD, getL, fLen, fGt, fCmp, fI, asB, gIx, gN, fSet, fDiv, fIC, eM1, asRef, fPopAt, updL, fEq, eqD, fMod, fAdd, fMul, fPow, atI, ixN, hn, hn2, k1, k2, k3, k4, p1, p2, p3, p4, hi, hi2, hl, hx, hx2]
theorem draw {h : AH} {k n : Int} {r : AH} (p : PS h k r) (hk : k < 1000000) (hn : 0 < n) (hn2 : n < 1073741824) : ∃ d h', m__law_draw [.ref 2, .int n] h = .ok (.int d) h' ∧ 0 ≤ d ∧ d < n ∧ PS h' (k + 1) r := by
  obtain ⟨gr, sm, s, c, rfl, h1, h2, h3, h4, h5, h6⟩ := p
  cases gr with
  | nil =>
    obtain ⟨s', d, e, q1, q2, q3, q4⟩ := draw2 sm s c r n hn hn2 h1 h2 h3 (by omega) h6
    exact ⟨d, _, e, q1, q2, [], sm, s', c + 1, rfl, q3, q4, by omega, by omega, by simp, h6⟩
  | cons g0 gr =>
    simp at h5
    obtain ⟨gr', l, e⟩ := draw1 g0 gr sm s c r n hn hn2 (by omega)
    exact ⟨_, _, e, Int.emod_nonneg _ (by omega), Int.emod_lt_of_pos _ hn, gr', sm, s, c, rfl, h1, h2, h3, by omega, by omega, h6⟩
theorem w_draw {h : AH} {k n : Int} {r : AH} {Q : D → AH → Prop} (p : PS h k r) (hk : k < 1000000) (hn : 0 < n) (hn2 : n < 1073741824) (z : ∀ d h', 0 ≤ d → d < n → PS h' (k + 1) r → Q (.int d) h') : W (m__law_draw [.ref 2, .int n]) h Q := by
  obtain ⟨d, h', e, d0, d1, p'⟩ := draw p hk hn hn2
  exact ⟨_, _, e, z d h' d0 d1 p'⟩
end FT
set_option Elab.async false
set_option linter.all false
set_option maxRecDepth 100000
set_option maxHeartbeats 2000000
namespace FT
open PySem PySem.Spec PyProof.Rows L2
theorem law_name {h : AH} {k : Int} {r : AH} {i : Nat} {start : Str} {ns : List Str} (p : PS h k r) (hk : k < 900000) (lo : low start) (hs : start.length ≤ 4) (e : r[i]? = some (.lst (ns.map .str))) (hn : ns.length ≤ 7) :
    W (m__law_name [.ref 2, .str start, .ref (i + 3)]) h (fun d h' => ∃ x j, d = .str x ∧ PS h' (k + 5) (r ++ j) ∧ goodN x ∧ x ∉ ns) := by
  refine w_run ?_
  show W (b__law_name [some (.ref 2), some (.str start), some (.ref (i + 3)), none, none, none, none, none, none]) h _
  unfold b__law_name
  rw [show ("abcdefghijklmnopqrstuvwxyz" : Str) = abc from rfl]
  rw [w_cons]; simp only [W_bind, W_pure, W_bad, W_ite, w_nil, contW_nx, contW_rt, sAsg, sExpr, sRet, sIf, FT.e2, FT.e3, eVar, gN, gIx, eFn, aCons, aNil, eCall, eTup, eLst, eM1, eM0, eMS, W_asRef, eIsi, isi_bl, isi_int, isi_str, isi_tup, asB_bl, truD_bl, cVal, cNot, cAnd, cOr, eAnd, eOr, eNot, eIf, oSome, oNone, eSlice, List.getElem?_cons_succ, List.getElem?_cons_zero, List.set_cons_succ, List.set_cons_zero, List.length_cons, List.length_nil, Nat.reduceAdd, if_true, if_false, Bool.not_true, Bool.not_false, ite_true, ite_false, reduceIte, Bool.false_eq_true, reduceCtorEq, add_ii, sub_ii, gt_ii, ge_ii, lt_ii, le_ii, eq_ii]
  rw [w_cons]; simp only [W_bind, W_pure, W_bad, W_ite, w_nil, contW_nx, contW_rt, sAsg, sExpr, sRet, sIf, FT.e2, FT.e3, eVar, gN, gIx, eFn, aCons, aNil, eCall, eTup, eLst, eM1, eM0, eMS, W_asRef, eIsi, isi_bl, isi_int, isi_str, isi_tup, asB_bl, truD_bl, cVal, cNot, cAnd, cOr, eAnd, eOr, eNot, eIf, oSome, oNone, eSlice, List.getElem?_cons_succ, List.getElem?_cons_zero, List.set_cons_succ, List.set_cons_zero, List.length_cons, List.length_nil, Nat.reduceAdd, if_true, if_false, Bool.not_true, Bool.not_false, ite_true, ite_false, reduceIte, Bool.false_eq_true, reduceCtorEq, add_ii, sub_ii, gt_ii, ge_ii, lt_ii, le_ii, eq_ii]
  rw [w_cons]
  refine for_range (fun c γ h => ∃ x w, γ = [some (.ref 2), some (.str start), some (.ref (i + 3)), some (.str abc), some (.str x), w, none, none, none] ∧ PS h (k + 1 + c) r ∧ low x ∧ x.length ≤ 4 + c) (fun _ _ => False) ?_
  simp only [W_bind, W_pure, W_bad, W_ite, w_nil, contW_nx, contW_rt, sAsg, sExpr, sRet, sIf, FT.e2, FT.e3, eVar, gN, gIx, eFn, aCons, aNil, eCall, eTup, eLst, eM1, eM0, eMS, W_asRef, eIsi, isi_bl, isi_int, isi_str, isi_tup, asB_bl, truD_bl, cVal, cNot, cAnd, cOr, eAnd, eOr, eNot, eIf, oSome, oNone, eSlice, List.getElem?_cons_succ, List.getElem?_cons_zero, List.set_cons_succ, List.set_cons_zero, List.length_cons, List.length_nil, Nat.reduceAdd, if_true, if_false, Bool.not_true, Bool.not_false, ite_true, ite_false, reduceIte, Bool.false_eq_true, reduceCtorEq, add_ii, sub_ii, gt_ii, ge_ii, lt_ii, le_ii, eq_ii]
  refine w_draw p (by omega) (by decide) (by decide) fun d h1 d0 d1 p1 => ?_
  refine ⟨d.toNat, by rw [Int.toNat_of_nonneg d0], by omega, ⟨start, none, rfl, by simpa using p1, lo, by omega⟩, ?_, ?_, fun _ _ q => q.elim⟩
  · rintro c γ h2 hc ⟨x, w, rfl, p2, lx, hx⟩
    rw [w_cons]; simp only [W_bind, W_pure, W_bad, W_ite, w_nil, contW_nx, contW_rt, sAsg, sExpr, sRet, sIf, FT.e2, FT.e3, eVar, gN, gIx, eFn, aCons, aNil, eCall, eTup, eLst, eM1, eM0, eMS, W_asRef, eIsi, isi_bl, isi_int, isi_str, isi_tup, asB_bl, truD_bl, cVal, cNot, cAnd, cOr, eAnd, eOr, eNot, eIf, oSome, oNone, eSlice, List.getElem?_cons_succ, List.getElem?_cons_zero, List.set_cons_succ, List.set_cons_zero, List.length_cons, List.length_nil, Nat.reduceAdd, if_true, if_false, Bool.not_true, Bool.not_false, ite_true, ite_false, reduceIte, Bool.false_eq_true, reduceCtorEq, add_ii, sub_ii, gt_ii, ge_ii, lt_ii, le_ii, eq_ii]
    refine w_draw p2 (by omega) (by decide) (by decide) fun d h1 d0 d1 p1 => ?_
    refine w_letter (k := k) (r := r) d0 d1 (by omega) ?_
    refine ⟨_, _, rfl, p1.up (by omega), low_app lx (by omega) (by omega), by rw [len_app, one_len]; omega⟩
  rintro γ h2 ⟨x, w, rfl, p2, lx, hx⟩
  rw [w_cons]; simp only [W_bind, W_pure, W_bad, W_ite, w_nil, contW_nx, contW_rt, sAsg, sExpr, sRet, sIf, FT.e2, FT.e3, eVar, gN, gIx, eFn, aCons, aNil, eCall, eTup, eLst, eM1, eM0, eMS, W_asRef, eIsi, isi_bl, isi_int, isi_str, isi_tup, asB_bl, truD_bl, cVal, cNot, cAnd, cOr, eAnd, eOr, eNot, eIf, oSome, oNone, eSlice, List.getElem?_cons_succ, List.getElem?_cons_zero, List.set_cons_succ, List.set_cons_zero, List.length_cons, List.length_nil, Nat.reduceAdd, if_true, if_false, Bool.not_true, Bool.not_false, ite_true, ite_false, reduceIte, Bool.false_eq_true, reduceCtorEq, add_ii, sub_ii, gt_ii, ge_ii, lt_ii, le_ii, eq_ii]
  refine w_draw (p2.up (show _ ≤ k + 4 by omega)) (by omega) (by decide) (by decide) fun l h3 l0 l1 p3 => ?_
  rw [w_cons]; simp only [W_bind, W_pure, W_bad, W_ite, w_nil, contW_nx, contW_rt, sAsg, sExpr, sRet, sIf, FT.e2, FT.e3, eVar, gN, gIx, eFn, aCons, aNil, eCall, eTup, eLst, eM1, eM0, eMS, W_asRef, eIsi, isi_bl, isi_int, isi_str, isi_tup, asB_bl, truD_bl, cVal, cNot, cAnd, cOr, eAnd, eOr, eNot, eIf, oSome, oNone, eSlice, List.getElem?_cons_succ, List.getElem?_cons_zero, List.set_cons_succ, List.set_cons_zero, List.length_cons, List.length_nil, Nat.reduceAdd, if_true, if_false, Bool.not_true, Bool.not_false, ite_true, ite_false, reduceIte, Bool.false_eq_true, reduceCtorEq, add_ii, sub_ii, gt_ii, ge_ii, lt_ii, le_ii, eq_ii]
  rw [show [D.str "yes", D.str "no", D.str "not", D.str "and", D.str "or", D.str "step", D.str "some", D.str "all", D.str "next", D.str "once", D.str "ever", D.str "until", D.str "unless"] = words.map D.str from rfl]
  refine w_newL p3 (by decide) fun h4 p4 => ?_
  rw [w_cons]
  refine for_range (fun c γ h => ∃ w w', γ = [some (.ref 2), some (.str start), some (.ref (i + 3)), some (.str abc), some (.str x), w, some (.int l), some (.ref (r.length + 3)), w'] ∧ PS h (k + 5) (r ++ [.lst (words.map .str)]) ∧ ∀ c' : Nat, c' < c → cand x l c' ∈ words ∨ cand x l c' ∈ ns) (fun d h => ∃ c : Nat, d = .str (cand x l c) ∧ cand x l c ∉ words ∧ cand x l c ∉ ns ∧ PS h (k + 5) (r ++ [.lst (words.map .str)])) ?_
  rw [W_pure]
  refine ⟨26, rfl, by decide, ⟨_, _, rfl, p4.up (by omega), fun c' hc => by omega⟩, ?_, ?_, ?_⟩
  · rintro c γ h5 hc ⟨w, w', rfl, p5, hb⟩
    rw [w_cons]; simp only [W_bind, W_pure, W_bad, W_ite, w_nil, contW_nx, contW_rt, sAsg, sExpr, sRet, sIf, FT.e2, FT.e3, eVar, gN, gIx, eFn, aCons, aNil, eCall, eTup, eLst, eM1, eM0, eMS, W_asRef, eIsi, isi_bl, isi_int, isi_str, isi_tup, asB_bl, truD_bl, cVal, cNot, cAnd, cOr, eAnd, eOr, eNot, eIf, oSome, oNone, eSlice, List.getElem?_cons_succ, List.getElem?_cons_zero, List.set_cons_succ, List.set_cons_zero, List.length_cons, List.length_nil, Nat.reduceAdd, if_true, if_false, Bool.not_true, Bool.not_false, ite_true, ite_false, reduceIte, Bool.false_eq_true, reduceCtorEq, add_ii, sub_ii, gt_ii, ge_ii, lt_ii, le_ii, eq_ii]
    have m1 : fMod (.int (l + c)) (.int 26) = pure (.int ((l + c) % 26)) := rfl
    rw [m1, W_pure]
    refine w_letter (k := k) (r := r) (Int.emod_nonneg _ (by decide)) (Int.emod_lt_of_pos _ (by decide)) (by omega) ?_
    rw [w_cons]; simp only [W_bind, W_pure, W_bad, W_ite, w_nil, contW_nx, contW_rt, sAsg, sExpr, sRet, sIf, FT.e2, FT.e3, eVar, gN, gIx, eFn, aCons, aNil, eCall, eTup, eLst, eM1, eM0, eMS, W_asRef, eIsi, isi_bl, isi_int, isi_str, isi_tup, asB_bl, truD_bl, cVal, cNot, cAnd, cOr, eAnd, eOr, eNot, eIf, oSome, oNone, eSlice, List.getElem?_cons_succ, List.getElem?_cons_zero, List.set_cons_succ, List.set_cons_zero, List.length_cons, List.length_nil, Nat.reduceAdd, if_true, if_false, Bool.not_true, Bool.not_false, ite_true, ite_false, reduceIte, Bool.false_eq_true, reduceCtorEq, add_ii, sub_ii, gt_ii, ge_ii, lt_ii, le_ii, eq_ii]
    refine W.of (in_lst p5 at_new) ?_
    rw [asB_bl, W_pure]
    by_cases q1 : cand x l c ∈ words
    · have : (decide (x ++ { cps := #[((l + (c : Int)) % 26).toNat + 97] } ∈ words) != true) = false := by
        rw [show decide (x ++ { cps := #[((l + (c : Int)) % 26).toNat + 97] } ∈ words) = true from decide_eq_true q1]; rfl
      rw [this]
      simp only [W_bind, W_pure, W_bad, W_ite, w_nil, contW_nx, contW_rt, sAsg, sExpr, sRet, sIf, FT.e2, FT.e3, eVar, gN, gIx, eFn, aCons, aNil, eCall, eTup, eLst, eM1, eM0, eMS, W_asRef, eIsi, isi_bl, isi_int, isi_str, isi_tup, asB_bl, truD_bl, cVal, cNot, cAnd, cOr, eAnd, eOr, eNot, eIf, oSome, oNone, eSlice, List.getElem?_cons_succ, List.getElem?_cons_zero, List.set_cons_succ, List.set_cons_zero, List.length_cons, List.length_nil, Nat.reduceAdd, if_true, if_false, Bool.not_true, Bool.not_false, ite_true, ite_false, reduceIte, Bool.false_eq_true, reduceCtorEq, add_ii, sub_ii, gt_ii, ge_ii, lt_ii, le_ii, eq_ii]
      refine ⟨_, _, rfl, p5, fun c' hc' => ?_⟩
      by_cases e' : c' = c
      · subst e'; exact .inl q1
      · exact hb c' (by omega)
    · have : (decide (x ++ { cps := #[((l + (c : Int)) % 26).toNat + 97] } ∈ words) != true) = true := by
        rw [show decide (x ++ { cps := #[((l + (c : Int)) % 26).toNat + 97] } ∈ words) = false from decide_eq_false q1]; rfl
      rw [this]
      simp only [W_bind, W_pure, W_bad, W_ite, w_nil, contW_nx, contW_rt, sAsg, sExpr, sRet, sIf, FT.e2, FT.e3, eVar, gN, gIx, eFn, aCons, aNil, eCall, eTup, eLst, eM1, eM0, eMS, W_asRef, eIsi, isi_bl, isi_int, isi_str, isi_tup, asB_bl, truD_bl, cVal, cNot, cAnd, cOr, eAnd, eOr, eNot, eIf, oSome, oNone, eSlice, List.getElem?_cons_succ, List.getElem?_cons_zero, List.set_cons_succ, List.set_cons_zero, List.length_cons, List.length_nil, Nat.reduceAdd, if_true, if_false, Bool.not_true, Bool.not_false, ite_true, ite_false, reduceIte, Bool.false_eq_true, reduceCtorEq, add_ii, sub_ii, gt_ii, ge_ii, lt_ii, le_ii, eq_ii]
      refine W.of (in_lst p5 (at_app e)) ?_
      by_cases q2 : cand x l c ∈ ns
      · have : (decide (x ++ { cps := #[((l + (c : Int)) % 26).toNat + 97] } ∈ ns) != true) = false := by
          rw [show decide (x ++ { cps := #[((l + (c : Int)) % 26).toNat + 97] } ∈ ns) = true from decide_eq_true q2]; rfl
        rw [this]
        simp only [W_bind, W_pure, W_bad, W_ite, w_nil, contW_nx, contW_rt, sAsg, sExpr, sRet, sIf, FT.e2, FT.e3, eVar, gN, gIx, eFn, aCons, aNil, eCall, eTup, eLst, eM1, eM0, eMS, W_asRef, eIsi, isi_bl, isi_int, isi_str, isi_tup, asB_bl, truD_bl, cVal, cNot, cAnd, cOr, eAnd, eOr, eNot, eIf, oSome, oNone, eSlice, List.getElem?_cons_succ, List.getElem?_cons_zero, List.set_cons_succ, List.set_cons_zero, List.length_cons, List.length_nil, Nat.reduceAdd, if_true, if_false, Bool.not_true, Bool.not_false, ite_true, ite_false, reduceIte, Bool.false_eq_true, reduceCtorEq, add_ii, sub_ii, gt_ii, ge_ii, lt_ii, le_ii, eq_ii]
        refine ⟨_, _, rfl, p5, fun c' hc' => ?_⟩
        by_cases e' : c' = c
        · subst e'; exact .inr q2
        · exact hb c' (by omega)
      · have : (decide (x ++ { cps := #[((l + (c : Int)) % 26).toNat + 97] } ∈ ns) != true) = true := by
          rw [show decide (x ++ { cps := #[((l + (c : Int)) % 26).toNat + 97] } ∈ ns) = false from decide_eq_false q2]; rfl
        rw [this]
        simp only [W_bind, W_pure, W_bad, W_ite, w_nil, contW_nx, contW_rt, sAsg, sExpr, sRet, sIf, FT.e2, FT.e3, eVar, gN, gIx, eFn, aCons, aNil, eCall, eTup, eLst, eM1, eM0, eMS, W_asRef, eIsi, isi_bl, isi_int, isi_str, isi_tup, asB_bl, truD_bl, cVal, cNot, cAnd, cOr, eAnd, eOr, eNot, eIf, oSome, oNone, eSlice, List.getElem?_cons_succ, List.getElem?_cons_zero, List.set_cons_succ, List.set_cons_zero, List.length_cons, List.length_nil, Nat.reduceAdd, if_true, if_false, Bool.not_true, Bool.not_false, ite_true, ite_false, reduceIte, Bool.false_eq_true, reduceCtorEq, add_ii, sub_ii, gt_ii, ge_ii, lt_ii, le_ii, eq_ii]
        rw [w_cons]; simp only [W_bind, W_pure, W_bad, W_ite, w_nil, contW_nx, contW_rt, sAsg, sExpr, sRet, sIf, FT.e2, FT.e3, eVar, gN, gIx, eFn, aCons, aNil, eCall, eTup, eLst, eM1, eM0, eMS, W_asRef, eIsi, isi_bl, isi_int, isi_str, isi_tup, asB_bl, truD_bl, cVal, cNot, cAnd, cOr, eAnd, eOr, eNot, eIf, oSome, oNone, eSlice, List.getElem?_cons_succ, List.getElem?_cons_zero, List.set_cons_succ, List.set_cons_zero, List.length_cons, List.length_nil, Nat.reduceAdd, if_true, if_false, Bool.not_true, Bool.not_false, ite_true, ite_false, reduceIte, Bool.false_eq_true, reduceCtorEq, add_ii, sub_ii, gt_ii, ge_ii, lt_ii, le_ii, eq_ii]
        exact ⟨c, rfl, q1, q2, p5⟩
  · rintro γ h5 ⟨w, w', rfl, p5, hb⟩
    exact (pigeon l0 hn hb).elim
  · rintro d h5 ⟨c, rfl, q1, q2, p5⟩
    refine ⟨cand x l c, [.lst (words.map .str)], rfl, p5, ⟨?_, ?_, ?_, q1⟩, q2⟩
    · unfold cand; rw [len_app, one_len]; omega
    · unfold cand; rw [len_app, one_len]; omega
    · exact low_app lx (by omega) (by omega)
end FT
set_option Elab.async false
set_option linter.all false
set_option maxRecDepth 100000
set_option maxHeartbeats 2000000
namespace FT
open PySem PySem.Spec PyProof.Rows L2
theorem law_names {h : AH} {k : Int} {r : AH} {n : Nat} (p : PS h k r) (hk : k < 800000) (hn : n ≤ 8) :
    W (m__law_names [.ref 2, .int n]) h (fun d h' => ∃ i ns r', d = .ref (i + 3) ∧ PS h' (k + 45) r' ∧ r'[i]? = some (.lst (ns.map .str)) ∧ ns.length = n ∧ NS ns ∧ Kp r r' ∧ r.length ≤ i) := by
  refine w_run ?_
  show W (b__law_names [some (.ref 2), some (.int n), none, none, none, none]) h _
  unfold b__law_names
  rw [show ("abcdefghijklmnopqrstuvwxyz" : Str) = abc from rfl]
  rw [w_cons]; simp only [W_bind, W_pure, W_bad, W_ite, w_nil, contW_nx, contW_rt, sAsg, sExpr, sRet, sIf, FT.e2, FT.e3, eVar, gN, gIx, eFn, aCons, aNil, eCall, eTup, eLst, eM1, eM0, eMS, W_asRef, eIsi, isi_bl, isi_int, isi_str, isi_tup, asB_bl, truD_bl, cVal, cNot, cAnd, cOr, eAnd, eOr, eNot, eIf, oSome, oNone, eSlice, List.getElem?_cons_succ, List.getElem?_cons_zero, List.set_cons_succ, List.set_cons_zero, List.length_cons, List.length_nil, Nat.reduceAdd, if_true, if_false, Bool.not_true, Bool.not_false, ite_true, ite_false, reduceIte, Bool.false_eq_true, reduceCtorEq, add_ii, sub_ii, gt_ii, ge_ii, lt_ii, le_ii, eq_ii]
  rw [w_cons]; simp only [W_bind, W_pure, W_bad, W_ite, w_nil, contW_nx, contW_rt, sAsg, sExpr, sRet, sIf, FT.e2, FT.e3, eVar, gN, gIx, eFn, aCons, aNil, eCall, eTup, eLst, eM1, eM0, eMS, W_asRef, eIsi, isi_bl, isi_int, isi_str, isi_tup, asB_bl, truD_bl, cVal, cNot, cAnd, cOr, eAnd, eOr, eNot, eIf, oSome, oNone, eSlice, List.getElem?_cons_succ, List.getElem?_cons_zero, List.set_cons_succ, List.set_cons_zero, List.length_cons, List.length_nil, Nat.reduceAdd, if_true, if_false, Bool.not_true, Bool.not_false, ite_true, ite_false, reduceIte, Bool.false_eq_true, reduceCtorEq, add_ii, sub_ii, gt_ii, ge_ii, lt_ii, le_ii, eq_ii]
  rw [w_cons]
  refine for_range (fun c γ h => ∃ x w, γ = [some (.ref 2), some (.int n), some (.str abc), some (.str x), w, none] ∧ PS h (k + 1 + c) (r ++ [.lst [.int 0, .int 0, .int 1, .int 4]]) ∧ low x ∧ x.length ≤ c) (fun _ _ => False) ?_
  simp only [W_bind, W_pure, W_bad, W_ite, w_nil, contW_nx, contW_rt, sAsg, sExpr, sRet, sIf, FT.e2, FT.e3, eVar, gN, gIx, eFn, aCons, aNil, eCall, eTup, eLst, eM1, eM0, eMS, W_asRef, eIsi, isi_bl, isi_int, isi_str, isi_tup, asB_bl, truD_bl, cVal, cNot, cAnd, cOr, eAnd, eOr, eNot, eIf, oSome, oNone, eSlice, List.getElem?_cons_succ, List.getElem?_cons_zero, List.set_cons_succ, List.set_cons_zero, List.length_cons, List.length_nil, Nat.reduceAdd, if_true, if_false, Bool.not_true, Bool.not_false, ite_true, ite_false, reduceIte, Bool.false_eq_true, reduceCtorEq, add_ii, sub_ii, gt_ii, ge_ii, lt_ii, le_ii, eq_ii]
  refine w_newL p (by decide) fun h1 p1 => ?_
  refine w_draw p1 (by omega) (by decide) (by decide) fun d h2 d0 d1 p2 => ?_
  obtain ⟨v, hv, ea⟩ : ∃ v : Nat, v ≤ 4 ∧ atI [D.int 0, D.int 0, D.int 1, D.int 4] d = some (.int v) := by
    have : d = 0 ∨ d = 1 ∨ d = 2 ∨ d = 3 := by omega
    rcases this with rfl | rfl | rfl | rfl
    · exact ⟨0, by decide, rfl⟩
    · exact ⟨0, by decide, rfl⟩
    · exact ⟨1, by decide, rfl⟩
    · exact ⟨4, by decide, rfl⟩
  refine w_ixr p2 at_new ea ?_
  refine ⟨v, rfl, by omega, ⟨_, none, rfl, by simpa using p2, low_nil, by rw [nil_len]; omega⟩, ?_, ?_, fun _ _ q => q.elim⟩
  · rintro c γ h3 hc ⟨x, w, rfl, p3, lx, hx⟩
    rw [w_cons]; simp only [W_bind, W_pure, W_bad, W_ite, w_nil, contW_nx, contW_rt, sAsg, sExpr, sRet, sIf, FT.e2, FT.e3, eVar, gN, gIx, eFn, aCons, aNil, eCall, eTup, eLst, eM1, eM0, eMS, W_asRef, eIsi, isi_bl, isi_int, isi_str, isi_tup, asB_bl, truD_bl, cVal, cNot, cAnd, cOr, eAnd, eOr, eNot, eIf, oSome, oNone, eSlice, List.getElem?_cons_succ, List.getElem?_cons_zero, List.set_cons_succ, List.set_cons_zero, List.length_cons, List.length_nil, Nat.reduceAdd, if_true, if_false, Bool.not_true, Bool.not_false, ite_true, ite_false, reduceIte, Bool.false_eq_true, reduceCtorEq, add_ii, sub_ii, gt_ii, ge_ii, lt_ii, le_ii, eq_ii]
    refine w_draw p3 (by omega) (by decide) (by decide) fun d h1 d0 d1 p1 => ?_
    refine w_letter (k := k) (r := r) d0 d1 (by omega) ?_
    refine ⟨_, _, rfl, p1.up (by omega), low_app lx (by omega) (by omega), by rw [len_app, one_len]; omega⟩
  rintro γ h3 ⟨x, w, rfl, p3, lx, hx⟩
  rw [w_cons]; simp only [W_bind, W_pure, W_bad, W_ite, w_nil, contW_nx, contW_rt, sAsg, sExpr, sRet, sIf, FT.e2, FT.e3, eVar, gN, gIx, eFn, aCons, aNil, eCall, eTup, eLst, eM1, eM0, eMS, W_asRef, eIsi, isi_bl, isi_int, isi_str, isi_tup, asB_bl, truD_bl, cVal, cNot, cAnd, cOr, eAnd, eOr, eNot, eIf, oSome, oNone, eSlice, List.getElem?_cons_succ, List.getElem?_cons_zero, List.set_cons_succ, List.set_cons_zero, List.length_cons, List.length_nil, Nat.reduceAdd, if_true, if_false, Bool.not_true, Bool.not_false, ite_true, ite_false, reduceIte, Bool.false_eq_true, reduceCtorEq, add_ii, sub_ii, gt_ii, ge_ii, lt_ii, le_ii, eq_ii]
  refine w_newL p3 (by decide) fun h4 p4 => ?_
  rw [w_cons]
  refine for_range (fun c γ h => ∃ ns w r', γ = [some (.ref 2), some (.int n), some (.str abc), some (.str x), w, some (.ref ((r ++ [O.lst [D.int 0, D.int 0, D.int 1, D.int 4]]).length + 3))] ∧ PS h (k + 5 + 5 * c) r' ∧ r'[(r ++ [O.lst [D.int 0, D.int 0, D.int 1, D.int 4]]).length]? = some (.lst (ns.map .str)) ∧ ns.length = c ∧ NS ns ∧ Kp r r') (fun _ _ => False) ?_
  simp only [W_bind, W_pure, W_bad, W_ite, w_nil, contW_nx, contW_rt, sAsg, sExpr, sRet, sIf, FT.e2, FT.e3, eVar, gN, gIx, eFn, aCons, aNil, eCall, eTup, eLst, eM1, eM0, eMS, W_asRef, eIsi, isi_bl, isi_int, isi_str, isi_tup, asB_bl, truD_bl, cVal, cNot, cAnd, cOr, eAnd, eOr, eNot, eIf, oSome, oNone, eSlice, List.getElem?_cons_succ, List.getElem?_cons_zero, List.set_cons_succ, List.set_cons_zero, List.length_cons, List.length_nil, Nat.reduceAdd, if_true, if_false, Bool.not_true, Bool.not_false, ite_true, ite_false, reduceIte, Bool.false_eq_true, reduceCtorEq, add_ii, sub_ii, gt_ii, ge_ii, lt_ii, le_ii, eq_ii]
  refine ⟨n, rfl, by omega, ⟨[], _, _, rfl, p4.up (by omega), at_new, rfl, ⟨List.nodup_nil, by simp⟩, (Kp.app _ _).trans (Kp.app _ _)⟩, ?_, ?_, fun _ _ q => q.elim⟩
  · rintro c γ h5 hc ⟨ns, w, r', rfl, p5, e5, l5, n5, k5⟩
    rw [w_cons]; simp only [W_bind, W_pure, W_bad, W_ite, w_nil, contW_nx, contW_rt, sAsg, sExpr, sRet, sIf, FT.e2, FT.e3, eVar, gN, gIx, eFn, aCons, aNil, eCall, eTup, eLst, eM1, eM0, eMS, W_asRef, eIsi, isi_bl, isi_int, isi_str, isi_tup, asB_bl, truD_bl, cVal, cNot, cAnd, cOr, eAnd, eOr, eNot, eIf, oSome, oNone, eSlice, List.getElem?_cons_succ, List.getElem?_cons_zero, List.set_cons_succ, List.set_cons_zero, List.length_cons, List.length_nil, Nat.reduceAdd, if_true, if_false, Bool.not_true, Bool.not_false, ite_true, ite_false, reduceIte, Bool.false_eq_true, reduceCtorEq, add_ii, sub_ii, gt_ii, ge_ii, lt_ii, le_ii, eq_ii]
    refine w_getL p5 e5 ?_
    refine (law_name p5 (by omega) lx (by omega) e5 (by omega)).mono fun y h6 ⟨z, j, ey, p6, gz, nz⟩ => ?_
    subst ey
    refine w_append p6 (at_app e5) (by simp; omega) fun h7 p7 => ?_
    refine ⟨ns ++ [z], _, _, rfl, p7.up (by omega), ?_, by simp [l5], ⟨?_, ?_⟩, (k5.trans (Kp.app _ _)).set (by simp)⟩
    · rw [List.getElem?_set_self (List.getElem?_eq_some_iff.mp (at_app e5)).1]
      simp
    · rw [List.nodup_append]
      refine ⟨n5.1, by simp, fun a ha b hb => ?_⟩
      simp at hb
      subst hb
      exact fun e => nz (e ▸ ha)
    · intro y hy
      rcases List.mem_append.mp hy with q | q
      · exact n5.2 y q
      · simp at q; subst q; exact gz
  · rintro γ h5 ⟨ns, w, r', rfl, p5, e5, l5, n5, k5⟩
    rw [w_cons]; simp only [W_bind, W_pure, W_bad, W_ite, w_nil, contW_nx, contW_rt, sAsg, sExpr, sRet, sIf, FT.e2, FT.e3, eVar, gN, gIx, eFn, aCons, aNil, eCall, eTup, eLst, eM1, eM0, eMS, W_asRef, eIsi, isi_bl, isi_int, isi_str, isi_tup, asB_bl, truD_bl, cVal, cNot, cAnd, cOr, eAnd, eOr, eNot, eIf, oSome, oNone, eSlice, List.getElem?_cons_succ, List.getElem?_cons_zero, List.set_cons_succ, List.set_cons_zero, List.length_cons, List.length_nil, Nat.reduceAdd, if_true, if_false, Bool.not_true, Bool.not_false, ite_true, ite_false, reduceIte, Bool.false_eq_true, reduceCtorEq, add_ii, sub_ii, gt_ii, ge_ii, lt_ii, le_ii, eq_ii]
    exact ⟨_, ns, r', rfl, p5.up (by omega), e5, l5, n5, k5, by simp⟩
end FT
set_option Elab.async false
set_option linter.all false
set_option maxRecDepth 100000
set_option maxHeartbeats 2000000
namespace FT
open PySem PySem.Spec PyProof.Rows L2
theorem law_pool {ns : List Int} (hn : ns.length ≤ 63) : W (m__law_pool [.fl (ns.map .int)]) [] (fun d h' => d = .ref 2 ∧ PS h' 0 []) := by
  refine w_run ?_
  show W (b__law_pool [some (.fl (ns.map .int)), none]) [] _
  unfold b__law_pool sComp'
  rw [w_cons]; simp only [W_bind, W_pure, W_bad, W_ite, w_nil, contW_nx, contW_rt, sAsg, sExpr, sRet, sIf, FT.e2, FT.e3, eVar, gN, gIx, eFn, aCons, aNil, eCall, eTup, eLst, eM1, eM0, eMS, W_asRef, eIsi, isi_bl, isi_int, isi_str, isi_tup, asB_bl, truD_bl, cVal, cNot, cAnd, cOr, eAnd, eOr, eNot, eIf, oSome, oNone, eSlice, List.getElem?_cons_succ, List.getElem?_cons_zero, List.set_cons_succ, List.set_cons_zero, List.length_cons, List.length_nil, Nat.reduceAdd, if_true, if_false, Bool.not_true, Bool.not_false, ite_true, ite_false, reduceIte, Bool.false_eq_true, reduceCtorEq, add_ii, sub_ii, gt_ii, ge_ii, lt_ii, le_ii, eq_ii]
  have src : ∀ (γ : G) (h : AH), γ[0]? = some (some (.fl (ns.map .int))) → iSeqL (eVar 0) γ h = .ok (.con (ns.map .int)) h := fun γ h e => by
    unfold iSeqL eVar
    rw [e]
    rfl
  refine W.of (comp_px (src := .con (ns.map .int)) (fun d => match d with | .int t => decide (1000000000000000000 ≤ t) | _ => false) (fun d => d) (src _ _ rfl) (fun _ => trivial) (by simp [Src.items]; omega) fun d hd => ?_) ?_
  · obtain ⟨t, ht, rfl⟩ := List.mem_map.mp hd
    refine ⟨[some (.int t)], fun h => rfl, fun j => ?_, fun _ j => rfl⟩
    simp only [List.getElem?_cons_zero, bindM, pureM, pow18, ge_ii, asB_bl]
  rw [show (Src.con (ns.map D.int)).items = ns.map D.int from rfl, map_filter_int]
  rw [w_cons]; simp only [W_bind, W_pure, W_bad, W_ite, w_nil, contW_nx, contW_rt, sAsg, sExpr, sRet, sIf, FT.e2, FT.e3, eVar, gN, gIx, eFn, aCons, aNil, eCall, eTup, eLst, eM1, eM0, eMS, W_asRef, eIsi, isi_bl, isi_int, isi_str, isi_tup, asB_bl, truD_bl, cVal, cNot, cAnd, cOr, eAnd, eOr, eNot, eIf, oSome, oNone, eSlice, List.getElem?_cons_succ, List.getElem?_cons_zero, List.set_cons_succ, List.set_cons_zero, List.length_cons, List.length_nil, Nat.reduceAdd, if_true, if_false, Bool.not_true, Bool.not_false, ite_true, ite_false, reduceIte, Bool.false_eq_true, reduceCtorEq, add_ii, sub_ii, gt_ii, ge_ii, lt_ii, le_ii, eq_ii]
  refine W.of (comp_px (src := .con (ns.map .int)) (fun d => match d with | .int t => decide (t < 1000000000000000000) | _ => false) (fun d => d) (src _ _ rfl) (fun _ => trivial) (by simp [Src.items]; omega) fun d hd => ?_) ?_
  · obtain ⟨t, ht, rfl⟩ := List.mem_map.mp hd
    refine ⟨[some (.int t)], fun h => rfl, fun j => ?_, fun _ j => rfl⟩
    simp only [List.getElem?_cons_zero, bindM, pureM, pow18, lt_ii, asB_bl]
  rw [show (Src.con (ns.map D.int)).items = ns.map D.int from rfl, map_filter_int]
  refine W.of (a := .ref 2) (h' := Pool (ns.filter fun i => decide (1000000000000000000 ≤ i)) (ns.filter fun i => decide (i < 1000000000000000000)) 5 0 []) ?_ ?_
  · unfold newL
    rw [if_pos (by simp; decide)]
    rfl
  · refine ⟨rfl, _, _, 5, 0, rfl, by decide, by decide, by decide, by decide, ?_, ?_⟩
    · exact Nat.le_trans (List.length_filter_le _ _) hn
    · exact Nat.le_trans (List.length_filter_le _ _) hn
end FT
set_option Elab.async false
set_option linter.all false
set_option maxRecDepth 100000
set_option maxHeartbeats 2000000
namespace FT
open PySem PySem.Spec PyProof.Rows L2
theorem is_number_int (i : Int) (h : AH) : m_is_number [.int i] h = .ok (.bl true) h := by
  simp [m_is_number, runF, b_is_number, startG, bCons, bNil, sRet, eAnd, eNot, eIsi, fIsi, eVar, tyD, asB, subT]
theorem is_text_str (i : Str) (h : AH) : m_is_text [.str i] h = .ok (.bl true) h := by
  simp [m_is_text, runF, b_is_text, startG, bCons, bNil, sRet, eIsi, fIsi, eVar, tyD, subT]
theorem is_tuple_tup (xs : List D) (h : AH) : m_is_tuple [.tup xs] h = .ok (.bl true) h := by
  simp [m_is_tuple, runF, b_is_tuple, startG, bCons, bNil, sRet, eIsi, fIsi, eVar, tyD, subT]
theorem is_number_from_int (i a b : Int) (h1 : a ≤ i) (h2 : i ≤ b) (h : AH) : m_is_number_from [.int i, .int a, .int b] h = .ok (.bl true) h := by
  simp [m_is_number_from, runF, b_is_number_from, startG, bCons, bNil, sRet, eAnd, eFn, aCons, aNil, eVar, is_number_int, asB, e3, fLe, h1, h2]
theorem is_tuple_of_tup (xs : List D) (a b : Int) (h1 : a ≤ xs.length) (h2 : (xs.length : Int) ≤ b) (h : AH) : m_is_tuple_of [.tup xs, .int a, .int b] h = .ok (.bl true) h := by
  simp [m_is_tuple_of, runF, b_is_tuple_of, startG, bCons, bNil, sRet, eAnd, eFn, aCons, aNil, eVar, is_tuple_tup, asB, e3, fLe, eCall, fLen, seqD, h1, h2]
theorem le_sign {c : Nat} (h1 : 97 ≤ c) (h2 : c ≤ 122) (γ : G) (h : AH) (hg : γ[0]? = some (some (.str ⟨#[c]⟩))) :
    e3 fLe fLe (fun _ => pure (.str "a")) (eVar 0) (fun _ => pure (.str "z")) γ h = .ok (.bl true) h := by
  have q1 : ("a" : Str).cps.toList = [97] := by decide +kernel
  have q2 : ("z" : Str).cps.toList = [122] := by decide +kernel
  have r1 : ¬ ([c] < [97]) := by
    rw [List.cons_lt_cons_iff]
    simp; omega
  have r2 : ¬ ([122] < [c]) := by
    rw [List.cons_lt_cons_iff]
    simp; omega
  simp only [e3, eVar, hg, fLe, asB, bindM, pureM, iteM, q1, q2, decide_eq_false r1, decide_eq_false r2, Bool.not_false, if_true]
theorem is_name_pu {x : Str} (g : goodN x) : Pu (m_is_name [.str x]) (.bl true) := by
  obtain ⟨g1, g2, g3, g4⟩ := g
  have hl : x.length ≤ sizeLine := Nat.le_trans g2 (by decide)
  refine pu_run ?_
  have st : startG 1 [D.str x] = [some (.str x)] := rfl
  rw [st]
  refine pu_if (b := false) ?_ (fun e => by cases e) (fun _ => ?_)
  · refine Pu.of fun h => ?_
    have z1 : (1 : Int) ≤ (x.length : Int) := by omega
    have z2 : (x.length : Int) ≤ 8 := by omega
    simp [cOr, cNot, cVal, eFn, aCons, aNil, eVar, is_text_str, truD, e3, fLe, asB, eCall, fLen, hl, c_LONGEST, z1, z2]
  · refine pu_nilnext (pu_ret ?_)
    have k := pu_and (γ := [some (.str x)]) (ma := e2 (fIn true) (eVar 0) (fun _ => pure c_KEPT)) (b := true) (c := true)
      (mb := eCall (fAll false) (aCons (eComp [none] (iStr (eVar 0)) (gN 0) (fun _ => pure true) (e3 fLe fLe (fun _ => pure (.str "a")) (eVar 0) (fun _ => pure (.str "z")))) aNil)) ?_ fun _ => ?_
    · exact k
    · refine Pu.of fun h => ?_
      have e : c_KEPT = .tup ((["yes", "no", "not", "and", "or", "step", "some", "all", "next", "once", "ever", "until", "unless"] : List Str).map D.str) := rfl
      rw [e]
      simp only [e2, eVar, bindM, pureM, List.getElem?_cons_zero, fIn, seqD, iteM, eqF_str, flat_strs, flatD, Bool.and_self, if_true, decide_eq_false g4]
      rfl
    · have a := all_pu (cap := [none]) (mi := iStr (eVar 0)) (g := gN 0) (me := e3 fLe fLe (fun _ => pure (.str "a")) (eVar 0) (fun _ => pure (.str "z"))) (γ := [some (.str x)]) (items := signsD x) (fun _ => true)
        (Pu.of fun h => by simp [iStr, eVar]) (by unfold signsD; rw [List.length_map, ← len_str]; omega) (fun d hd => ?_)
      · rw [show (signsD x).all (fun _ => true) = true by simp] at a
        exact a
      · unfold signsD at hd
        obtain ⟨c, hc, rfl⟩ := List.mem_map.mp hd
        obtain ⟨b1, b2⟩ := g3 c hc
        exact ⟨[some (.str ⟨#[c]⟩)], fun h => rfl, Pu.of fun h => le_sign b1 b2 _ h rfl⟩
end FT
set_option Elab.async false
set_option linter.all false
set_option maxRecDepth 100000
set_option maxHeartbeats 2000000
namespace FT
open PySem PySem.Spec PyProof.Rows L2
/-! ### what a program is made of -/
def WorthOK (ns : List Str) (d : D) : Prop := (∃ i : Int, 0 ≤ i ∧ i ≤ 8 ∧ d = .int i) ∨ ∃ x ∈ ns, ∃ i : Int, -8 ≤ i ∧ i ≤ 8 ∧ d = .tup [.str x, .int i]
def tested : List Str := ["is", "not", "under"]
def TestOK (ns : List Str) (d : D) : Prop := ∃ x ∈ ns, ∃ w ∈ tested, ∃ v, WorthOK ns v ∧ d = .tup [.str x, .str w, v]
def PutOK (ns : List Str) (d : D) : Prop := ∃ x ∈ ns, ∃ v, WorthOK ns v ∧ d = .tup [.str x, v]
def nameS : D → Str
  | .tup (.str x :: _) => x
  | _ => ""
def Named (d : D) : Prop := ∃ x r, d = .tup (.str x :: r)
def CmdOK (ns : List Str) (d : D) : Prop := ∃ x ts ps, d = .tup [.str x, .tup ts, .tup ps] ∧ goodN x ∧ ts.length ≤ 4 ∧ (∀ t ∈ ts, TestOK ns t) ∧ ps.length ≤ 4 ∧ (∀ p ∈ ps, PutOK ns p) ∧ (ps.map nameS).Nodup
def CellOK (d : D) : Prop := ∃ (x : Str) (i j : Int), d = .tup [.str x, .int i, .int j] ∧ goodN x ∧ 1 ≤ i ∧ i ≤ 9 ∧ 0 ≤ j ∧ j ≤ i - 1
def asked (b : Bool) : List Str := if b then ["can", "last"] else ["can"]
def AskOK (called : List Str) (b : Bool) (d : D) : Prop := ∃ w ∈ asked b, ∃ x ∈ called, d = .tup [.str w, .str x]
def RowOK (ns called : List Str) (b : Bool) (d : D) : Prop := ∃ ts, d = .tup ts ∧ ts.length ≤ 4 ∧ ∀ t ∈ ts, TestOK ns t ∨ AskOK called b t
def MarkOK (ns called : List Str) (b : Bool) (d : D) : Prop := ∃ x rs, d = .tup [.str x, .tup rs] ∧ goodN x ∧ rs.length ≤ 4 ∧ ∀ r ∈ rs, RowOK ns called b r
structure ProgOK (cells cmds marks : List D) (b : Bool) : Prop where
  c1 : 1 ≤ cells.length
  c2 : cells.length ≤ 4
  c3 : ∀ d ∈ cells, CellOK d
  c4 : (cells.map nameS).Nodup
  d1 : cmds.length ≤ 8
  d2 : ∀ d ∈ cmds, CmdOK (cells.map nameS) d
  d3 : (cmds.map nameS).Nodup
  e1 : marks.length ≤ 8
  e2 : ∀ d ∈ marks, MarkOK (cells.map nameS) (cmds.map nameS) b d
  e3 : (marks.map nameS).Nodup
theorem ProgOK.about {cells cmds marks : List D} {b : Bool} (p : ProgOK cells cmds marks b) : ProgOK cells cmds [] (!b) :=
  ⟨p.c1, p.c2, p.c3, p.c4, p.d1, p.d2, p.d3, by simp, by simp, by simp⟩
theorem pu_ix {γ : G} {ma : G → M D} {xs : List D} {i : Int} {d : D} (h : Pu (ma γ) (.tup xs)) (e : atI xs i = some d) : Pu (e2 fIx ma (fun _ => pure (.int i)) γ) d :=
  pu_two h (Pu.pure _) (by rw [ix_tup e]; exact Pu.pure _)
theorem in_strs {x : Str} {ns : List Str} {neg : Bool} : fIn neg (.str x) (.tup (ns.map .str)) = pure (.bl (decide (x ∈ ns) != neg)) := by
  unfold fIn seqD
  show (if flatD (.str x) && (ns.map D.str).all flatD then _ else _) = _
  rw [flat_strs, eqF_str]
  rfl
theorem is_text_of_pu {x : Str} {ns : List Str} (h : x ∈ ns) : Pu (m_is_text_of [.str x, .tup (ns.map .str)]) (.bl true) := by
  refine pu_run (pu_ret ?_)
  refine pu_and (b := true) (c := true) (pu_fn (pu_args (pu_var rfl) (pu_args0 _)) rfl (Pu.of (is_text_str x))) fun _ => ?_
  refine pu_two (pu_var rfl) (pu_var rfl) ?_
  rw [in_strs, decide_eq_true h]
  exact Pu.pure _
theorem number_tup (xs : List D) (h : AH) : m_is_number [.tup xs] h = .ok (.bl false) h := by
  simp [m_is_number, runF, b_is_number, startG, bCons, bNil, sRet, eAnd, eNot, eIsi, fIsi, eVar, tyD, asB, subT]
theorem number_from_tup (xs : List D) (a b : Int) : Pu (m_is_number_from [.tup xs, .int a, .int b]) (.bl false) := by
  refine pu_run (pu_ret ?_)
  exact pu_and (b := false) (c := false) (pu_fn (pu_args (pu_var rfl) (pu_args0 _)) rfl (Pu.of (number_tup xs))) fun e => by cases e
theorem pu_neg {γ : G} {ma : G → M D} {i : Int} (h : Pu (ma γ) (.int i)) : Pu (eNeg ma γ) (.int (-i)) := h.bind (Pu.pure _)
theorem is_worth_pu {ns : List Str} {d : D} (w : WorthOK ns d) : Pu (m_is_worth [d, .tup (ns.map .str)]) (.bl true) := by
  refine pu_run ?_
  rcases w with ⟨i, h0, h1, rfl⟩ | ⟨x, hx, i, h0, h1, rfl⟩
  · exact pu_if (b := true) (pu_cval (pu_fn (pu_args (pu_var rfl) (pu_args (Pu.pure _) (pu_args (Pu.pure _) (pu_args0 _)))) rfl (Pu.of (is_number_from_int i 0 8 h0 h1)))) (fun _ => pu_rets (pu_ret (Pu.pure _))) fun e => by cases e
  · refine pu_if (b := false) (pu_cval (pu_fn (pu_args (pu_var rfl) (pu_args (Pu.pure _) (pu_args (Pu.pure _) (pu_args0 _)))) rfl (number_from_tup _ _ _))) (fun e => by cases e) fun _ => pu_nilnext (pu_ret ?_)
    refine pu_and (b := true) (c := true) (pu_fn (pu_args (pu_var rfl) (pu_args (Pu.pure _) (pu_args (Pu.pure _) (pu_args0 _)))) rfl (Pu.of (is_tuple_of_tup _ _ _ (by simp) (by simp)))) fun _ => ?_
    refine pu_and (b := true) (c := true) (pu_fn (pu_args (pu_ix (pu_var rfl) rfl) (pu_args (pu_var rfl) (pu_args0 _))) rfl (is_text_of_pu hx)) fun _ => ?_
    exact pu_fn (pu_args (pu_ix (pu_var rfl) rfl) (pu_args (pu_neg (Pu.pure _)) (pu_args (Pu.pure _) (pu_args0 _)))) rfl (Pu.of (is_number_from_int i (-8) 8 h0 h1))
theorem is_test_pu {ns : List Str} {d : D} (t : TestOK ns d) : Pu (m_is_test [d, .tup (ns.map .str)]) (.bl true) := by
  obtain ⟨x, hx, w, hw, v, hv, rfl⟩ := t
  refine pu_run ?_
  refine pu_if (b := false) (pu_cnot (b := true) (pu_cval (pu_fn (pu_args (pu_var rfl) (pu_args (Pu.pure _) (pu_args (Pu.pure _) (pu_args0 _)))) rfl (Pu.of (is_tuple_of_tup _ _ _ (by simp) (by simp)))))) (fun e => by cases e) fun _ => pu_nilnext (pu_ret ?_)
  refine pu_and (b := true) (c := true) (pu_fn (pu_args (pu_ix (pu_var rfl) rfl) (pu_args (pu_var rfl) (pu_args0 _))) rfl (is_text_of_pu hx)) fun _ => ?_
  refine pu_and (b := true) (c := true) (pu_fn (pu_args (pu_ix (pu_var rfl) rfl) (pu_args (Pu.pure _) (pu_args0 _))) rfl (is_text_of_pu (ns := tested) hw)) fun _ => ?_
  exact pu_fn (pu_args (pu_ix (pu_var rfl) rfl) (pu_args (pu_var rfl) (pu_args0 _))) rfl (is_worth_pu hv)
theorem tuple_of_no (xs : List D) (a b : Int) (h1 : ¬ a ≤ xs.length) (h : AH) : m_is_tuple_of [.tup xs, .int a, .int b] h = .ok (.bl false) h := by
  simp [m_is_tuple_of, runF, b_is_tuple_of, startG, bCons, bNil, sRet, eAnd, eFn, aCons, aNil, eVar, is_tuple_tup, asB, e3, fLe, eCall, fLen, seqD, h1]
theorem is_test_two (a b : D) (p : D) : Pu (m_is_test [.tup [a, b], p]) (.bl false) := by
  refine pu_run ?_
  exact pu_if (b := true) (pu_cnot (b := false) (pu_cval (pu_fn (pu_args (pu_var rfl) (pu_args (Pu.pure _) (pu_args (Pu.pure _) (pu_args0 _)))) rfl (Pu.of (tuple_of_no _ _ _ (by simp)))))) (fun _ => pu_rets (pu_ret (Pu.pure _))) fun e => by cases e
theorem is_asking_pu {called : List Str} {b : Bool} {d : D} (t : AskOK called b d) : Pu (m_is_asking [d, .tup (called.map .str), .tup ((asked b).map .str)]) (.bl true) := by
  obtain ⟨w, hw, x, hx, rfl⟩ := t
  refine pu_run (pu_ret ?_)
  refine pu_and (b := true) (c := true) (pu_fn (pu_args (pu_var rfl) (pu_args (Pu.pure _) (pu_args (Pu.pure _) (pu_args0 _)))) rfl (Pu.of (is_tuple_of_tup _ _ _ (by simp) (by simp)))) fun _ => ?_
  refine pu_and (b := true) (c := true) (pu_fn (pu_args (pu_ix (pu_var rfl) rfl) (pu_args (pu_var rfl) (pu_args0 _))) rfl (is_text_of_pu hw)) fun _ => ?_
  exact pu_fn (pu_args (pu_ix (pu_var rfl) rfl) (pu_args (pu_var rfl) (pu_args0 _))) rfl (is_text_of_pu hx)
theorem is_put_pu {ns : List Str} {d : D} (t : PutOK ns d) : Pu (m_is_put [d, .tup (ns.map .str)]) (.bl true) := by
  obtain ⟨x, hx, v, hv, rfl⟩ := t
  refine pu_run (pu_ret ?_)
  refine pu_and (b := true) (c := true) (pu_fn (pu_args (pu_var rfl) (pu_args (Pu.pure _) (pu_args (Pu.pure _) (pu_args0 _)))) rfl (Pu.of (is_tuple_of_tup _ _ _ (by simp) (by simp)))) fun _ => ?_
  refine pu_and (b := true) (c := true) (pu_fn (pu_args (pu_ix (pu_var rfl) rfl) (pu_args (pu_var rfl) (pu_args0 _))) rfl (is_text_of_pu hx)) fun _ => ?_
  exact pu_fn (pu_args (pu_ix (pu_var rfl) rfl) (pu_args (pu_var rfl) (pu_args0 _))) rfl (is_worth_pu hv)
/-! ### names -/
theorem names_of_pu {ds : List D} (hl : ds.length ≤ 1000) (hn : ∀ d ∈ ds, Named d) : Pu (m_names_of [.tup ds]) (.tup ((ds.map nameS).map .str)) := by
  refine pu_run (pu_ret ?_)
  have a := tup_pu (cap := [none]) (γ := [some (.tup ds)]) (mi := iSeqT (eVar 0)) (g := gN 0) (k := fun _ => pure true) (me := e2 fIx (eVar 0) (fun _ => pure (.int 0))) (items := ds) (fun _ => true) (fun d => .str (nameS d)) (Pu.of fun h => by simp [iSeqT, eVar]) (by omega) (fun d hd => by
    obtain ⟨x, r, rfl⟩ := hn d hd
    exact ⟨[some (.tup (.str x :: r))], fun h => rfl, Pu.pure _, fun _ => pu_ix (pu_var rfl) (show atI (.str x :: r) ((0 : Nat) : Int) = _ from atI_nat rfl)⟩)
  rw [show (ds.filter fun _ => true).map (fun d => D.str (nameS d)) = (ds.map nameS).map .str by rw [List.map_map, List.filter_eq_self.mpr (fun _ _ => rfl)]; rfl] at a
  exact a
theorem keys_strs : ∀ ns : List Str, keysD (ns.map .str) = some (ns.map .inr)
  | [] => rfl
  | x :: ns => by
    rw [List.map_cons, keysD, keys_strs ns]
    rfl
theorem foldK_nodup : ∀ (ks acc : List Key), (acc ++ ks).Nodup → ks.foldl putK acc = acc ++ ks
  | [], acc, _ => by simp
  | k :: ks, acc, h => by
    rw [List.foldl_cons]
    have : k ∉ acc := fun q => by
      rw [List.nodup_append] at h
      exact h.2.2 k q k (by simp) rfl
    rw [show putK acc k = acc ++ [k] by unfold putK; rw [if_neg this], foldK_nodup ks (acc ++ [k]) (by simpa using h)]
    simp
theorem dedK_nodup {ks : List Key} (h : ks.Nodup) : dedK ks = ks := by
  unfold dedK
  rw [foldK_nodup ks [] (by simpa using h)]
  rfl
theorem unlike_pu {ns : List Str} (nd : ns.Nodup) (hl : ns.length ≤ 1000) : Pu (m_are_unlike [.tup (ns.map .str)]) (.bl true) := by
  refine pu_run (pu_ret ?_)
  have nk : (ns.map (Sum.inr : Str → Key)).Nodup := by
    rw [List.nodup_iff_pairwise_ne, List.pairwise_map]
    exact nd.imp fun h e => h (Sum.inr.inj e)
  refine fun h => ⟨[.set (ns.map .inr)], ?_⟩
  have e1 : fSetOf [.tup (ns.map .str)] h = .ok (.ref h.length) (h ++ [.set (ns.map .inr)]) := by
    show (match keysD (ns.map .str) with | some ks => if ks.length + 1 < 4096 then newSet (dedK ks) else bad | none => bad) h = _
    rw [keys_strs]
    dsimp only
    rw [if_pos (by simp; omega), dedK_nodup nk]
    rfl
  have e2 : getS h.length (h ++ [.set (ns.map .inr)]) = .ok (ns.map .inr) (h ++ [.set (ns.map .inr)]) := by
    unfold getS
    simp
  have e3 : fLenS [.ref h.length] (h ++ [.set (ns.map .inr)]) = .ok (.int ns.length) (h ++ [.set (ns.map .inr)]) := by
    show (getS h.length >>= _) _ = _
    rw [M.bind_ok e2]
    simp
  simp only [FT.e2, eCall, aCons, aNil, eVar, startG, bindM, pureM, e1, e3, len_tup, List.length_map]
  simp [e1, e3, eq_ii, len_tup, startG]
end FT
set_option Elab.async false
set_option linter.all false
set_option maxRecDepth 100000
set_option maxHeartbeats 2000000
namespace FT
open PySem PySem.Spec PyProof.Rows L2
theorem all_yes {ds : List D} {b : Bool} (h : b = true) : ds.all (fun _ => true) = b := by rw [h]; simp
theorem is_mark_pu {ns called : List Str} {b : Bool} {d : D} (m : MarkOK ns called b d) : Pu (m_is_mark [d, .tup (ns.map .str), .tup (called.map .str), .tup ((asked b).map .str)]) (.bl true) := by
  obtain ⟨x, rs, rfl, gx, lr, hr⟩ := m
  refine pu_run ?_
  refine pu_if (b := false) (pu_cnot (b := true) (pu_cval (pu_fn (pu_args (pu_var rfl) (pu_args (Pu.pure _) (pu_args (Pu.pure _) (pu_args0 _)))) rfl (Pu.of (is_tuple_of_tup _ _ _ (by simp) (by simp)))))) (fun e => by cases e) fun _ => pu_nilnext ?_
  refine pu_set (γ' := [some (.tup [.str x, .tup rs]), some (.tup (ns.map .str)), some (.tup (called.map .str)), some (.tup ((asked b).map .str)), some (.str x), some (.tup rs)]) (pu_var rfl) (Pu.of fun h => rfl) ?_
  have a := all_pu (cap := [none]) (γ := [some (.tup [.str x, .tup rs]), some (.tup (ns.map .str)), some (.tup (called.map .str)), some (.tup ((asked b).map .str)), some (.str x), some (.tup rs)]) (mi := iSeqT (eVar 5)) (g := gN 0) (me := eFn 3 m_is_tuple_of (aCons (eVar 0) (aCons (fun _ => pure (.int 0)) (aCons (fun _ => pure (.int 4)) aNil)))) (items := rs) (fun _ => true)
    (Pu.of fun h => by simp [iSeqT, eVar]) (by omega) (fun d hd => by
      obtain ⟨ts, rfl, lt, _⟩ := hr d hd
      exact ⟨[some (.tup ts)], fun h => rfl, pu_fn (pu_args (pu_var rfl) (pu_args (Pu.pure _) (pu_args (Pu.pure _) (pu_args0 _)))) rfl (Pu.of (is_tuple_of_tup _ _ _ (by omega) (by omega)))⟩)
  rw [all_yes rfl] at a
  refine pu_if (b := false) (pu_cor (b := false) (c := false) (pu_cnot (b := true) (pu_cval (pu_fn (pu_args (pu_var rfl) (pu_args0 _)) rfl (is_name_pu gx)))) fun _ => pu_cor (b := false) (c := false) (pu_cnot (b := true) (pu_cval (pu_fn (pu_args (pu_var rfl) (pu_args (Pu.pure _) (pu_args (Pu.pure _) (pu_args0 _)))) rfl (Pu.of (is_tuple_of_tup _ _ _ (by omega) (by omega)))))) fun _ => pu_cnot (b := true) (pu_cval a)) (fun e => by cases e) fun _ => pu_nilnext (pu_ret ?_)
  refine all2_pu (items := rs) (Pu.of fun h => by simp [iSeqT, eVar]) (by omega) fun d hd => ?_
  obtain ⟨ts, rfl, lt, ht⟩ := hr d hd
  refine ⟨[some (.tup (ns.map .str)), some (.tup (called.map .str)), some (.tup ((asked b).map .str)), some (.tup ts), none], ts, fun h => rfl, Pu.of fun h => by simp [iSeqT, eVar], by omega, fun y hy => ?_⟩
  refine ⟨[some (.tup (ns.map .str)), some (.tup (called.map .str)), some (.tup ((asked b).map .str)), some (.tup ts), some y], fun h => rfl, ?_⟩
  rcases ht y hy with q | q
  · exact pu_or (b := true) (c := true) (pu_fn (pu_args (pu_var rfl) (pu_args (pu_var rfl) (pu_args0 _))) rfl (is_test_pu q)) fun e => by cases e
  · refine pu_or (b := false) (c := true) (pu_fn (pu_args (pu_var rfl) (pu_args (pu_var rfl) (pu_args0 _))) rfl ?_) fun _ => pu_fn (pu_args (pu_var rfl) (pu_args (pu_var rfl) (pu_args (pu_var rfl) (pu_args0 _)))) rfl (is_asking_pu q)
    obtain ⟨w, _, z, _, rfl⟩ := q
    exact is_test_two _ _ _
theorem CmdOK.named {ns : List Str} {d : D} (c : CmdOK ns d) : Named d := by obtain ⟨x, ts, ps, rfl, _⟩ := c; exact ⟨x, _, rfl⟩
theorem PutOK.named {ns : List Str} {d : D} (c : PutOK ns d) : Named d := by obtain ⟨x, _, v, _, rfl⟩ := c; exact ⟨x, _, rfl⟩
theorem CellOK.named {d : D} (c : CellOK d) : Named d := by obtain ⟨x, _, _, rfl, _⟩ := c; exact ⟨x, _, rfl⟩
theorem MarkOK.named {ns called : List Str} {b : Bool} {d : D} (c : MarkOK ns called b d) : Named d := by obtain ⟨x, rs, rfl, _⟩ := c; exact ⟨x, _, rfl⟩
theorem unlike_of {γ : G} {i : Nat} {ds : List D} (e : γ[i]? = some (some (.tup ds))) (hl : ds.length ≤ 1000) (hn : ∀ d ∈ ds, Named d) (nd : (ds.map nameS).Nodup) : Pu (eFn 1 m_are_unlike (aCons (eFn 1 m_names_of (aCons (eVar i) aNil)) aNil) γ) (.bl true) :=
  pu_fn (pu_args (pu_fn (pu_args (pu_var e) (pu_args0 _)) rfl (names_of_pu hl hn)) (pu_args0 _)) rfl (unlike_pu nd (by simpa using hl))
theorem are_marks_pu {ns called : List Str} {b : Bool} {ds : List D} (hl : ds.length ≤ 8) (hm : ∀ d ∈ ds, MarkOK ns called b d) (nd : (ds.map nameS).Nodup) : Pu (m_are_marks [.tup ds, .tup (ns.map .str), .tup (called.map .str), .tup ((asked b).map .str)]) (.bl true) := by
  refine pu_run ?_
  have a := all_pu (cap := [some 1, some 2, some 3, none]) (γ := [some (.tup ds), some (.tup (ns.map .str)), some (.tup (called.map .str)), some (.tup ((asked b).map .str))]) (mi := iSeqT (eVar 0)) (g := gN 3) (me := eFn 4 m_is_mark (aCons (eVar 3) (aCons (eVar 0) (aCons (eVar 1) (aCons (eVar 2) aNil))))) (items := ds) (fun _ => true)
    (Pu.of fun h => by simp [iSeqT, eVar]) (by omega) (fun d hd => ⟨[some (.tup (ns.map .str)), some (.tup (called.map .str)), some (.tup ((asked b).map .str)), some d], fun h => rfl, pu_fn (pu_args (pu_var rfl) (pu_args (pu_var rfl) (pu_args (pu_var rfl) (pu_args (pu_var rfl) (pu_args0 _))))) rfl (is_mark_pu (hm d hd))⟩)
  rw [all_yes rfl] at a
  refine pu_if (b := false) (pu_cor (b := false) (c := false) (pu_cnot (b := true) (pu_cval (pu_fn (pu_args (pu_var rfl) (pu_args (Pu.pure _) (pu_args (Pu.pure _) (pu_args0 _)))) rfl (Pu.of (is_tuple_of_tup _ _ _ (by omega) (by omega)))))) fun _ => pu_cnot (b := true) (pu_cval a)) (fun e => by cases e) fun _ => pu_nilnext (pu_ret ?_)
  exact unlike_of rfl (by omega) (fun d hd => (hm d hd).named) nd
theorem is_command_pu {ns : List Str} {d : D} (c : CmdOK ns d) : Pu (m_is_command [d, .tup (ns.map .str)]) (.bl true) := by
  obtain ⟨x, ts, ps, rfl, gx, lt, ht, lp, hp, nd⟩ := c
  refine pu_run ?_
  refine pu_if (b := false) (pu_cnot (b := true) (pu_cval (pu_fn (pu_args (pu_var rfl) (pu_args (Pu.pure _) (pu_args (Pu.pure _) (pu_args0 _)))) rfl (Pu.of (is_tuple_of_tup _ _ _ (by simp) (by simp)))))) (fun e => by cases e) fun _ => pu_nilnext ?_
  refine pu_set (γ' := [some (.tup [.str x, .tup ts, .tup ps]), some (.tup (ns.map .str)), some (.str x), some (.tup ts), some (.tup ps)]) (pu_var rfl) (Pu.of fun h => rfl) ?_
  refine pu_if (b := false) (pu_cor (b := false) (c := false) (pu_cnot (b := true) (pu_cval (pu_fn (pu_args (pu_var rfl) (pu_args0 _)) rfl (is_name_pu gx)))) fun _ => pu_cor (b := false) (c := false) (pu_cnot (b := true) (pu_cval (pu_fn (pu_args (pu_var rfl) (pu_args (Pu.pure _) (pu_args (Pu.pure _) (pu_args0 _)))) rfl (Pu.of (is_tuple_of_tup _ _ _ (by omega) (by omega)))))) fun _ => pu_cnot (b := true) (pu_cval (pu_fn (pu_args (pu_var rfl) (pu_args (Pu.pure _) (pu_args (Pu.pure _) (pu_args0 _)))) rfl (Pu.of (is_tuple_of_tup _ _ _ (by omega) (by omega)))))) (fun e => by cases e) fun _ => pu_nilnext ?_
  have a := all_pu (cap := [some 1, none]) (γ := [some (.tup [.str x, .tup ts, .tup ps]), some (.tup (ns.map .str)), some (.str x), some (.tup ts), some (.tup ps)]) (mi := iSeqT (eVar 3)) (g := gN 1) (me := eFn 2 m_is_test (aCons (eVar 1) (aCons (eVar 0) aNil))) (items := ts) (fun _ => true)
    (Pu.of fun h => by simp [iSeqT, eVar]) (by omega) (fun d hd => ⟨[some (.tup (ns.map .str)), some d], fun h => rfl, pu_fn (pu_args (pu_var rfl) (pu_args (pu_var rfl) (pu_args0 _))) rfl (is_test_pu (ht d hd))⟩)
  have a' := all_pu (cap := [some 1, none]) (γ := [some (.tup [.str x, .tup ts, .tup ps]), some (.tup (ns.map .str)), some (.str x), some (.tup ts), some (.tup ps)]) (mi := iSeqT (eVar 4)) (g := gN 1) (me := eFn 2 m_is_put (aCons (eVar 1) (aCons (eVar 0) aNil))) (items := ps) (fun _ => true)
    (Pu.of fun h => by simp [iSeqT, eVar]) (by omega) (fun d hd => ⟨[some (.tup (ns.map .str)), some d], fun h => rfl, pu_fn (pu_args (pu_var rfl) (pu_args (pu_var rfl) (pu_args0 _))) rfl (is_put_pu (hp d hd))⟩)
  rw [all_yes rfl] at a a'
  refine pu_if (b := false) (pu_cor (b := false) (c := false) (pu_cnot (b := true) (pu_cval a)) fun _ => pu_cnot (b := true) (pu_cval a')) (fun e => by cases e) fun _ => pu_nilnext (pu_ret ?_)
  exact unlike_of rfl (by omega) (fun d hd => (hp d hd).named) nd
theorem are_commands_pu {ns : List Str} {ds : List D} (hl : ds.length ≤ 8) (hm : ∀ d ∈ ds, CmdOK ns d) (nd : (ds.map nameS).Nodup) : Pu (m_are_commands [.tup ds, .tup (ns.map .str)]) (.bl true) := by
  refine pu_run ?_
  have a := all_pu (cap := [some 1, none]) (γ := [some (.tup ds), some (.tup (ns.map .str))]) (mi := iSeqT (eVar 0)) (g := gN 1) (me := eFn 2 m_is_command (aCons (eVar 1) (aCons (eVar 0) aNil))) (items := ds) (fun _ => true)
    (Pu.of fun h => by simp [iSeqT, eVar]) (by omega) (fun d hd => ⟨[some (.tup (ns.map .str)), some d], fun h => rfl, pu_fn (pu_args (pu_var rfl) (pu_args (pu_var rfl) (pu_args0 _))) rfl (is_command_pu (hm d hd))⟩)
  rw [all_yes rfl] at a
  refine pu_if (b := false) (pu_cor (b := false) (c := false) (pu_cnot (b := true) (pu_cval (pu_fn (pu_args (pu_var rfl) (pu_args (Pu.pure _) (pu_args (Pu.pure _) (pu_args0 _)))) rfl (Pu.of (is_tuple_of_tup _ _ _ (by omega) (by omega)))))) fun _ => pu_cnot (b := true) (pu_cval a)) (fun e => by cases e) fun _ => pu_nilnext (pu_ret ?_)
  exact unlike_of rfl (by omega) (fun d hd => (hm d hd).named) nd
theorem is_cell_pu {d : D} (c : CellOK d) : Pu (m_is_cell [d]) (.bl true) := by
  obtain ⟨x, i, j, rfl, gx, h1, h2, h3, h4⟩ := c
  refine pu_run ?_
  refine pu_if (b := false) (pu_cnot (b := true) (pu_cval (pu_fn (pu_args (pu_var rfl) (pu_args (Pu.pure _) (pu_args (Pu.pure _) (pu_args0 _)))) rfl (Pu.of (is_tuple_of_tup _ _ _ (by simp) (by simp)))))) (fun e => by cases e) fun _ => pu_nilnext ?_
  refine pu_set (γ' := [some (.tup [.str x, .int i, .int j]), some (.str x), some (.int i), some (.int j)]) (pu_var rfl) (Pu.of fun h => rfl) (pu_ret ?_)
  refine pu_and (b := true) (c := true) (pu_fn (pu_args (pu_var rfl) (pu_args0 _)) rfl (is_name_pu gx)) fun _ => ?_
  refine pu_and (b := true) (c := true) (pu_fn (pu_args (pu_var rfl) (pu_args (Pu.pure _) (pu_args (Pu.pure _) (pu_args0 _)))) rfl (Pu.of (is_number_from_int i 1 9 h1 h2))) fun _ => ?_
  exact pu_fn (pu_args (pu_var rfl) (pu_args (Pu.pure _) (pu_args (pu_two (f := fSub) (pu_var rfl) (Pu.pure (D.int 1)) (Pu.pure (D.int (i - 1)))) (pu_args0 _)))) rfl (Pu.of (is_number_from_int j 0 (i - 1) h3 h4))
theorem are_cells_pu {ds : List D} (h1 : 1 ≤ ds.length) (hl : ds.length ≤ 4) (hm : ∀ d ∈ ds, CellOK d) (nd : (ds.map nameS).Nodup) : Pu (m_are_cells [.tup ds]) (.bl true) := by
  refine pu_run (pu_ret ?_)
  have a := all_pu (cap := [none]) (γ := [some (.tup ds)]) (mi := iSeqT (eVar 0)) (g := gN 0) (me := eFn 1 m_is_cell (aCons (eVar 0) aNil)) (items := ds) (fun _ => true)
    (Pu.of fun h => by simp [iSeqT, eVar]) (by omega) (fun d hd => ⟨[some d], fun h => rfl, pu_fn (pu_args (pu_var rfl) (pu_args0 _)) rfl (is_cell_pu (hm d hd))⟩)
  rw [all_yes rfl] at a
  refine pu_and (b := true) (c := true) (pu_fn (pu_args (pu_var rfl) (pu_args (Pu.pure _) (pu_args (Pu.pure _) (pu_args0 _)))) rfl (Pu.of (is_tuple_of_tup _ _ _ (by omega) (by omega)))) fun _ => ?_
  exact pu_and (b := true) (c := true) a fun _ => unlike_of rfl (by omega) (fun d hd => (hm d hd).named) nd
theorem truth_bl (b : Bool) (h : AH) : m_is_truth [.bl b] h = .ok (.bl true) h := by
  cases b <;> simp [m_is_truth, runF, b_is_truth, startG, bCons, bNil, sRet, eOr, e2, eVar, fIs, asB]
def prD (cells cmds marks : List D) (b : Bool) : D := .tup [.tup cells, .tup cmds, .tup marks, .bl b]
theorem is_program_pu {cells cmds marks : List D} {b : Bool} (p : ProgOK cells cmds marks b) : Pu (m_is_program [prD cells cmds marks b]) (.bl true) := by
  have c1 := p.c1; have c2 := p.c2; have d1 := p.d1; have e1 := p.e1
  refine pu_run ?_
  refine pu_if (b := false) (pu_cnot (b := true) (pu_cval (pu_fn (pu_args (pu_var rfl) (pu_args (Pu.pure _) (pu_args (Pu.pure _) (pu_args0 _)))) rfl (Pu.of (is_tuple_of_tup _ _ _ (by simp) (by simp)))))) (fun e => by cases e) fun _ => pu_nilnext ?_
  refine pu_set (γ' := [some (prD cells cmds marks b), some (.tup cells), some (.tup cmds), some (.tup marks), some (.bl b), none, none]) (pu_var rfl) (Pu.of fun h => rfl) ?_
  refine pu_if (b := false) (pu_cor (b := false) (c := false) (pu_cnot (b := true) (pu_cval (pu_fn (pu_args (pu_var rfl) (pu_args0 _)) rfl (Pu.of (truth_bl b))))) fun _ => pu_cnot (b := true) (pu_cval (pu_fn (pu_args (pu_var rfl) (pu_args0 _)) rfl (are_cells_pu c1 c2 p.c3 p.c4)))) (fun e => by cases e) fun _ => pu_nilnext ?_
  refine pu_set (γ' := [some (prD cells cmds marks b), some (.tup cells), some (.tup cmds), some (.tup marks), some (.bl b), some (.tup ((cells.map nameS).map .str)), none]) (pu_fn (pu_args (pu_var rfl) (pu_args0 _)) rfl (names_of_pu (by omega) fun d hd => (p.c3 d hd).named)) (Pu.of fun h => rfl) ?_
  refine pu_if (b := false) (pu_cnot (b := true) (pu_cval (pu_fn (pu_args (pu_var rfl) (pu_args (pu_var rfl) (pu_args0 _))) rfl (are_commands_pu d1 p.d2 p.d3)))) (fun e => by cases e) fun _ => pu_nilnext ?_
  refine pu_set (d := .tup ((asked b).map .str)) (γ' := [some (prD cells cmds marks b), some (.tup cells), some (.tup cmds), some (.tup marks), some (.bl b), some (.tup ((cells.map nameS).map .str)), some (.tup ((asked b).map .str))]) ?_ (Pu.of fun h => rfl) (pu_ret ?_)
  · refine Pu.of fun h => ?_
    cases b <;> simp [eIf, cVal, eVar, truD, eTup, aCons, aNil, asked] <;> decide
  · exact pu_fn (pu_args (pu_var rfl) (pu_args (pu_var rfl) (pu_args (pu_fn (pu_args (pu_var rfl) (pu_args0 _)) rfl (names_of_pu (by omega) fun d hd => (p.d2 d hd).named)) (pu_args (pu_var rfl) (pu_args0 _))))) rfl (are_marks_pu e1 p.e2 p.e3)
theorem check_pu {cells cmds marks : List D} {b : Bool} (p : ProgOK cells cmds marks b) : Pu (m_check [prD cells cmds marks b]) (.bl true) := by
  refine pu_run ?_
  exact pu_if (b := false) (pu_cnot (b := true) (pu_cval (pu_fn (pu_args (pu_var rfl) (pu_args0 _)) rfl (is_program_pu p)))) (fun e => by cases e) fun _ => pu_nilnext (pu_ret (Pu.pure _))
end FT
set_option Elab.async false
set_option linter.all false
set_option maxRecDepth 100000
set_option maxHeartbeats 2000000
namespace FT
open PySem PySem.Spec PyProof.Rows L2
theorem name_at {ns : List Str} {d : Int} (h0 : 0 ≤ d) (h1 : d < ns.length) : ∃ x ∈ ns, atI (ns.map D.str) d = some (.str x) := by
  obtain ⟨m, rfl⟩ := Int.eq_ofNat_of_zero_le h0
  have hm : m < ns.length := by omega
  refine ⟨ns[m], List.getElem_mem hm, atI_nat ?_⟩
  rw [List.getElem?_map, List.getElem?_eq_getElem hm]
  rfl
theorem worth_w {h : AH} {k : Int} {r : AH} {i : Nat} {ns : List Str} (p : PS h k r) (hk : k < 900000) (e : r[i]? = some (.lst (ns.map .str))) (h1 : 1 ≤ ns.length) (h2 : ns.length ≤ 8) :
    W (m__law_worth [.ref 2, .ref (i + 3)]) h (fun d h' => ∃ r', WorthOK ns d ∧ PS h' (k + 3) r' ∧ Kp r r') := by
  refine w_run ?_
  show W (b__law_worth [some (.ref 2), some (.ref (i + 3))]) h _
  unfold b__law_worth
  rw [w_cons]; simp only [W_bind, W_pure, W_bad, W_ite, w_nil, contW_nx, contW_rt, sAsg, sExpr, sRet, sIf, FT.e2, FT.e3, eVar, gN, gIx, eFn, aCons, aNil, eCall, eTup, eLst, eM1, eM0, eMS, W_asRef, eIsi, isi_bl, isi_int, isi_str, isi_tup, asB_bl, truD_bl, cVal, cNot, cAnd, cOr, eAnd, eOr, eNot, eIf, oSome, oNone, eSlice, List.getElem?_cons_succ, List.getElem?_cons_zero, List.set_cons_succ, List.set_cons_zero, List.length_cons, List.length_nil, Nat.reduceAdd, if_true, if_false, Bool.not_true, Bool.not_false, ite_true, ite_false, reduceIte, Bool.false_eq_true, reduceCtorEq, add_ii, sub_ii, gt_ii, ge_ii, lt_ii, le_ii, eq_ii]
  refine w_draw p (by omega) (by decide) (by decide) fun t h3 t0 t1 p3 => ?_
  rw [eq_ii, W_pure, asB_bl, W_pure]
  split
  · rw [w_cons]; simp only [W_bind, W_pure, W_bad, W_ite, w_nil, contW_nx, contW_rt, sAsg, sExpr, sRet, sIf, FT.e2, FT.e3, eVar, gN, gIx, eFn, aCons, aNil, eCall, eTup, eLst, eM1, eM0, eMS, W_asRef, eIsi, isi_bl, isi_int, isi_str, isi_tup, asB_bl, truD_bl, cVal, cNot, cAnd, cOr, eAnd, eOr, eNot, eIf, oSome, oNone, eSlice, List.getElem?_cons_succ, List.getElem?_cons_zero, List.set_cons_succ, List.set_cons_zero, List.length_cons, List.length_nil, Nat.reduceAdd, if_true, if_false, Bool.not_true, Bool.not_false, ite_true, ite_false, reduceIte, Bool.false_eq_true, reduceCtorEq, add_ii, sub_ii, gt_ii, ge_ii, lt_ii, le_ii, eq_ii]
    refine w_newL p3 (by simp) fun h4 p4 => ?_
    refine w_draw p4 (by omega) (by decide) (by decide) fun u h5 u0 u1 p5 => ?_
    obtain ⟨v, v1, v2, ea⟩ : ∃ v : Int, 1 ≤ v ∧ v ≤ 9 ∧ atI [D.int 3, D.int 9] u = some (.int v) := by
      have : u = 0 ∨ u = 1 := by omega
      rcases this with rfl | rfl
      · exact ⟨3, by decide, by decide, rfl⟩
      · exact ⟨9, by decide, by decide, rfl⟩
    refine w_ixr p5 at_new ea ?_
    refine w_draw p5 (by omega) (by omega) (by omega) fun x h6 x0 x1 p6 => ?_
    exact ⟨_, .inl ⟨x, x0, by omega, rfl⟩, p6.up (by omega), Kp.app _ _⟩
  · rw [w_cons]; simp only [W_bind, W_pure, W_bad, W_ite, w_nil, contW_nx, contW_rt, sAsg, sExpr, sRet, sIf, FT.e2, FT.e3, eVar, gN, gIx, eFn, aCons, aNil, eCall, eTup, eLst, eM1, eM0, eMS, W_asRef, eIsi, isi_bl, isi_int, isi_str, isi_tup, asB_bl, truD_bl, cVal, cNot, cAnd, cOr, eAnd, eOr, eNot, eIf, oSome, oNone, eSlice, List.getElem?_cons_succ, List.getElem?_cons_zero, List.set_cons_succ, List.set_cons_zero, List.length_cons, List.length_nil, Nat.reduceAdd, if_true, if_false, Bool.not_true, Bool.not_false, ite_true, ite_false, reduceIte, Bool.false_eq_true, reduceCtorEq, add_ii, sub_ii, gt_ii, ge_ii, lt_ii, le_ii, eq_ii]
    refine w_lenr p3 e ?_
    rw [List.length_map]
    refine w_draw p3 (by omega) (by omega) (by omega) fun u h5 u0 u1 p5 => ?_
    obtain ⟨x, hx, ea⟩ := name_at u0 u1
    refine w_ixr p5 e ea ?_
    refine w_draw p5 (by omega) (by decide) (by decide) fun v h6 v0 v1 p6 => ?_
    rw [sub_ii, W_pure, if_pos (by decide)]
    exact ⟨_, .inr ⟨x, hx, v - 8, by omega, by omega, rfl⟩, p6.up (by omega), Kp.refl _⟩
theorem test_w {h : AH} {k : Int} {r : AH} {i : Nat} {ns : List Str} (p : PS h k r) (hk : k < 800000) (e : r[i]? = some (.lst (ns.map .str))) (h1 : 1 ≤ ns.length) (h2 : ns.length ≤ 8) :
    W (m__law_test [.ref 2, .ref (i + 3)]) h (fun d h' => ∃ r', TestOK ns d ∧ PS h' (k + 5) r' ∧ Kp r r') := by
  refine w_run ?_
  show W (b__law_test [some (.ref 2), some (.ref (i + 3)), none]) h _
  unfold b__law_test
  rw [w_cons]; simp only [W_bind, W_pure, W_bad, W_ite, w_nil, contW_nx, contW_rt, sAsg, sExpr, sRet, sIf, FT.e2, FT.e3, eVar, gN, gIx, eFn, aCons, aNil, eCall, eTup, eLst, eM1, eM0, eMS, W_asRef, eIsi, isi_bl, isi_int, isi_str, isi_tup, asB_bl, truD_bl, cVal, cNot, cAnd, cOr, eAnd, eOr, eNot, eIf, oSome, oNone, eSlice, List.getElem?_cons_succ, List.getElem?_cons_zero, List.set_cons_succ, List.set_cons_zero, List.length_cons, List.length_nil, Nat.reduceAdd, if_true, if_false, Bool.not_true, Bool.not_false, ite_true, ite_false, reduceIte, Bool.false_eq_true, reduceCtorEq, add_ii, sub_ii, gt_ii, ge_ii, lt_ii, le_ii, eq_ii]
  refine w_lenr p e ?_
  rw [List.length_map]
  refine w_draw p (by omega) (by omega) (by omega) fun u h5 u0 u1 p5 => ?_
  obtain ⟨x, hx, ea⟩ := name_at u0 u1
  refine w_ixr p5 e ea ?_
  rw [w_cons]; simp only [W_bind, W_pure, W_bad, W_ite, w_nil, contW_nx, contW_rt, sAsg, sExpr, sRet, sIf, FT.e2, FT.e3, eVar, gN, gIx, eFn, aCons, aNil, eCall, eTup, eLst, eM1, eM0, eMS, W_asRef, eIsi, isi_bl, isi_int, isi_str, isi_tup, asB_bl, truD_bl, cVal, cNot, cAnd, cOr, eAnd, eOr, eNot, eIf, oSome, oNone, eSlice, List.getElem?_cons_succ, List.getElem?_cons_zero, List.set_cons_succ, List.set_cons_zero, List.length_cons, List.length_nil, Nat.reduceAdd, if_true, if_false, Bool.not_true, Bool.not_false, ite_true, ite_false, reduceIte, Bool.false_eq_true, reduceCtorEq, add_ii, sub_ii, gt_ii, ge_ii, lt_ii, le_ii, eq_ii]
  refine w_newL p5 (by simp) fun h6 p6 => ?_
  refine w_draw p6 (by omega) (by decide) (by decide) fun v h7 v0 v1 p7 => ?_
  obtain ⟨w, hw, eb⟩ : ∃ w ∈ tested, atI [D.str "is", D.str "not", D.str "under"] v = some (.str w) := name_at (ns := tested) v0 v1
  refine w_ixr p7 at_new eb ?_
  refine (worth_w p7 (by omega) (at_app e) h1 h2).mono fun d h8 ⟨r8, ok, p8, k8⟩ => ?_
  rw [if_pos (by decide)]
  exact ⟨r8, ⟨x, hx, w, hw, d, ok, rfl⟩, p8.up (by omega), (Kp.app _ _).trans k8⟩
theorem ft_ref : ∀ i : Nat, fTuple [.ref i] = (do let x ← getL i; pure (.tup x)) := fun _ => rfl
/-- cells of drawn sizes -/
theorem cells_w {h : AH} {k : Int} {r : AH} {i : Nat} {ns : List Str} {room : Int} (p : PS h k r) (hk : k < 800000) (e : r[i]? = some (.lst (ns.map .str))) (h2 : ns.length ≤ 8) (gn : NS ns) (m1 : 1 ≤ room) (m2 : room ≤ 10000) :
    W (m__law_cells [.ref 2, .ref (i + 3), .int room]) h (fun d h' => ∃ cs r', d = .tup cs ∧ cs.map nameS = ns ∧ (∀ c ∈ cs, CellOK c) ∧ PS h' (k + 24) r' ∧ Kp r r') := by
  refine w_run ?_
  show W (b__law_cells [some (.ref 2), some (.ref (i + 3)), some (.int room), none, none, none]) h _
  unfold b__law_cells
  rw [w_cons]; simp only [W_bind, W_pure, W_bad, W_ite, w_nil, contW_nx, contW_rt, sAsg, sExpr, sRet, sIf, FT.e2, FT.e3, eVar, gN, gIx, eFn, aCons, aNil, eCall, eTup, eLst, eM1, eM0, eMS, W_asRef, eIsi, isi_bl, isi_int, isi_str, isi_tup, asB_bl, truD_bl, cVal, cNot, cAnd, cOr, eAnd, eOr, eNot, eIf, oSome, oNone, eSlice, List.getElem?_cons_succ, List.getElem?_cons_zero, List.set_cons_succ, List.set_cons_zero, List.length_cons, List.length_nil, Nat.reduceAdd, if_true, if_false, Bool.not_true, Bool.not_false, ite_true, ite_false, reduceIte, Bool.false_eq_true, reduceCtorEq, add_ii, sub_ii, gt_ii, ge_ii, lt_ii, le_ii, eq_ii]
  refine w_newL p (by simp) fun h1 p1 => ?_
  rw [w_cons]
  refine for_src (fun c γ h => ∃ (cs : List D) (room : Int) (w w' : Option D) (r' : AH), γ = [some (.ref 2), some (.ref (i + 3)), some (.int room), some (.ref (r.length + 3)), w, w'] ∧ 1 ≤ room ∧ room ≤ 10000 ∧ cs.length = c ∧ cs.map nameS = ns.take c ∧ (∀ d ∈ cs, CellOK d) ∧ PS h (k + 3 * c) r' ∧ Kp r r' ∧ r'[r.length]? = some (.lst cs)) (fun _ _ => False) ?_
  unfold iSeqL
  simp only [W_bind, W_pure, W_bad, W_ite, w_nil, contW_nx, contW_rt, sAsg, sExpr, sRet, sIf, FT.e2, FT.e3, eVar, gN, gIx, eFn, aCons, aNil, eCall, eTup, eLst, eM1, eM0, eMS, W_asRef, eIsi, isi_bl, isi_int, isi_str, isi_tup, asB_bl, truD_bl, cVal, cNot, cAnd, cOr, eAnd, eOr, eNot, eIf, oSome, oNone, eSlice, List.getElem?_cons_succ, List.getElem?_cons_zero, List.set_cons_succ, List.set_cons_zero, List.length_cons, List.length_nil, Nat.reduceAdd, if_true, if_false, Bool.not_true, Bool.not_false, ite_true, ite_false, reduceIte, Bool.false_eq_true, reduceCtorEq, add_ii, sub_ii, gt_ii, ge_ii, lt_ii, le_ii, eq_ii]
  refine w_getL p1 (at_app e) ?_
  refine ⟨⟨[], room, none, none, _, rfl, m1, m2, rfl, by simp, by simp, p1.up (by omega), Kp.app _ _, at_new⟩, ?_, ?_, ?_, fun _ _ q => q.elim⟩
  · rintro c γ h ⟨cs, room, w, w', r', _, _, _, _, _, _, p2, k2, _⟩
    show h[i + 3]? = _
    rw [p2.get]
    exact k2 _ _ e
  · rintro c d γ h2 hd ⟨cs, room, w, w', r', rfl, m1, m2, l2, n2, o2, p2, k2, e2⟩
    simp only [Src.items] at hd
    rw [List.getElem?_map] at hd
    obtain ⟨x, hx, rfl⟩ := Option.map_eq_some_iff.mp hd
    have hc : c < ns.length := (List.getElem?_eq_some_iff.mp hx).1
    simp only [W_bind, W_pure, W_bad, W_ite, w_nil, contW_nx, contW_rt, sAsg, sExpr, sRet, sIf, FT.e2, FT.e3, eVar, gN, gIx, eFn, aCons, aNil, eCall, eTup, eLst, eM1, eM0, eMS, W_asRef, eIsi, isi_bl, isi_int, isi_str, isi_tup, asB_bl, truD_bl, cVal, cNot, cAnd, cOr, eAnd, eOr, eNot, eIf, oSome, oNone, eSlice, List.getElem?_cons_succ, List.getElem?_cons_zero, List.set_cons_succ, List.set_cons_zero, List.length_cons, List.length_nil, Nat.reduceAdd, if_true, if_false, Bool.not_true, Bool.not_false, ite_true, ite_false, reduceIte, Bool.false_eq_true, reduceCtorEq, add_ii, sub_ii, gt_ii, ge_ii, lt_ii, le_ii, eq_ii]
    rw [w_cons]; simp only [W_bind, W_pure, W_bad, W_ite, w_nil, contW_nx, contW_rt, sAsg, sExpr, sRet, sIf, FT.e2, FT.e3, eVar, gN, gIx, eFn, aCons, aNil, eCall, eTup, eLst, eM1, eM0, eMS, W_asRef, eIsi, isi_bl, isi_int, isi_str, isi_tup, asB_bl, truD_bl, cVal, cNot, cAnd, cOr, eAnd, eOr, eNot, eIf, oSome, oNone, eSlice, List.getElem?_cons_succ, List.getElem?_cons_zero, List.set_cons_succ, List.set_cons_zero, List.length_cons, List.length_nil, Nat.reduceAdd, if_true, if_false, Bool.not_true, Bool.not_false, ite_true, ite_false, reduceIte, Bool.false_eq_true, reduceCtorEq, add_ii, sub_ii, gt_ii, ge_ii, lt_ii, le_ii, eq_ii]
    refine w_newL p2 (by simp) fun h3 p3 => ?_
    refine w_draw p3 (by omega) (by decide) (by decide) fun u h4 u0 u1 p4 => ?_
    obtain ⟨v, v1, v2, ea⟩ : ∃ v : Int, 1 ≤ v ∧ v ≤ 9 ∧ atI [D.int 9, D.int 3, D.int 4] u = some (.int v) := by
      have : u = 0 ∨ u = 1 ∨ u = 2 := by omega
      rcases this with rfl | rfl | rfl
      · exact ⟨9, by decide, by decide, rfl⟩
      · exact ⟨3, by decide, by decide, rfl⟩
      · exact ⟨4, by decide, by decide, rfl⟩
    refine w_ixr p4 at_new ea ?_
    have fm : fMin [.int v, .int room] = pure (.int (if room < v then room else v)) := rfl
    rw [fm, W_pure]
    generalize hz : (if room < v then room else v) = z
    have z1 : 1 ≤ z ∧ z ≤ 9 ∧ z ≤ room := by rw [← hz]; split <;> omega
    refine w_draw p4 (by omega) (by omega) (by omega) fun s h5 s0 s1 p5 => ?_
    rw [add_ii, W_pure]
    rw [w_cons]; simp only [W_bind, W_pure, W_bad, W_ite, w_nil, contW_nx, contW_rt, sAsg, sExpr, sRet, sIf, FT.e2, FT.e3, eVar, gN, gIx, eFn, aCons, aNil, eCall, eTup, eLst, eM1, eM0, eMS, W_asRef, eIsi, isi_bl, isi_int, isi_str, isi_tup, asB_bl, truD_bl, cVal, cNot, cAnd, cOr, eAnd, eOr, eNot, eIf, oSome, oNone, eSlice, List.getElem?_cons_succ, List.getElem?_cons_zero, List.set_cons_succ, List.set_cons_zero, List.length_cons, List.length_nil, Nat.reduceAdd, if_true, if_false, Bool.not_true, Bool.not_false, ite_true, ite_false, reduceIte, Bool.false_eq_true, reduceCtorEq, add_ii, sub_ii, gt_ii, ge_ii, lt_ii, le_ii, eq_ii]
    rw [div_ii (by omega) (by omega), W_pure]
    rw [w_cons]; simp only [W_bind, W_pure, W_bad, W_ite, w_nil, contW_nx, contW_rt, sAsg, sExpr, sRet, sIf, FT.e2, FT.e3, eVar, gN, gIx, eFn, aCons, aNil, eCall, eTup, eLst, eM1, eM0, eMS, W_asRef, eIsi, isi_bl, isi_int, isi_str, isi_tup, asB_bl, truD_bl, cVal, cNot, cAnd, cOr, eAnd, eOr, eNot, eIf, oSome, oNone, eSlice, List.getElem?_cons_succ, List.getElem?_cons_zero, List.set_cons_succ, List.set_cons_zero, List.length_cons, List.length_nil, Nat.reduceAdd, if_true, if_false, Bool.not_true, Bool.not_false, ite_true, ite_false, reduceIte, Bool.false_eq_true, reduceCtorEq, add_ii, sub_ii, gt_ii, ge_ii, lt_ii, le_ii, eq_ii]
    refine w_getL p5 (at_app e2) ?_
    refine w_draw p5 (by omega) (by omega) (by omega) fun f h6 f0 f1 p6 => ?_
    rw [if_pos (by decide)]
    refine w_append p6 (at_app e2) (by omega) fun h7 p7 => ?_
    have q1 : 1 ≤ room / (1 + s) := Int.le_ediv_of_mul_le (by omega) (by omega)
    have q2 : room / (1 + s) ≤ 10000 := Int.le_trans (Int.ediv_le_self _ (by omega)) m2
    refine ⟨cs ++ [.tup [.str x, .int (1 + s), .int f]], room / (1 + s), _, _, _, rfl, q1, q2, by simp [l2], ?_, ?_, p7.up (by omega), (k2.trans (Kp.app _ _)).set (Nat.le_refl _), set_at (at_app e2)⟩
    · rw [List.map_append, n2, List.take_succ, hx]
      rfl
    · intro d hd
      rcases List.mem_append.mp hd with q | q
      · exact o2 d q
      · simp at q
        subst q
        exact ⟨x, 1 + s, f, rfl, gn.2 x (List.mem_of_getElem? hx), by omega, by omega, f0, by omega⟩
  · rintro γ h2 ⟨cs, room, w, w', r', rfl, m1, m2, l2, n2, o2, p2, k2, e2⟩
    simp only [Src.items, List.length_map] at l2 n2 p2
    rw [w_cons]; simp only [W_bind, W_pure, W_bad, W_ite, w_nil, contW_nx, contW_rt, sAsg, sExpr, sRet, sIf, FT.e2, FT.e3, eVar, gN, gIx, eFn, aCons, aNil, eCall, eTup, eLst, eM1, eM0, eMS, W_asRef, eIsi, isi_bl, isi_int, isi_str, isi_tup, asB_bl, truD_bl, cVal, cNot, cAnd, cOr, eAnd, eOr, eNot, eIf, oSome, oNone, eSlice, List.getElem?_cons_succ, List.getElem?_cons_zero, List.set_cons_succ, List.set_cons_zero, List.length_cons, List.length_nil, Nat.reduceAdd, if_true, if_false, Bool.not_true, Bool.not_false, ite_true, ite_false, reduceIte, Bool.false_eq_true, reduceCtorEq, add_ii, sub_ii, gt_ii, ge_ii, lt_ii, le_ii, eq_ii]
    rw [ft_ref, W_bind]
    refine w_getL p2 e2 ?_
    rw [W_pure]
    refine ⟨cs, r', rfl, by rw [n2, List.take_length], o2, p2.up (by omega), k2⟩
end FT
set_option Elab.async false
set_option linter.all false
set_option maxRecDepth 100000
set_option maxHeartbeats 2000000
namespace FT
open PySem PySem.Spec PyProof.Rows L2
theorem comp_ps {cap : List (Option Nat)} {mi : G → M Src} {g : D → G → M G} {k : G → M Bool} {me : G → M D} {γ : G} {h : AH} {Q : D → AH → Prop}
    (hs : W (mi γ) h fun src h1 => ∃ (k1 st : Int) (r1 : AH) (P : Nat → List D → Prop), PS h1 k1 r1 ∧ (∀ h' k' r', Kp r1 r' → PS h' k' r' → src.good h') ∧ P 0 [] ∧ src.items.length ≤ 1000 ∧ (∀ c acc, P c acc → acc.length ≤ c) ∧
      (∀ (c : Nat) d acc h' r', src.items[c]? = some d → P c acc → Kp r1 r' → PS h' (k1 + st * c) r' → W (g d (capG cap γ)) h' fun γ1 h1' => W (k γ1) h1' fun t h2 => if t = true then W (me γ1) h2 fun v h3 => ∃ r3, P (c + 1) (acc ++ [v]) ∧ Kp r' r3 ∧ PS h3 (k1 + st * (c + 1)) r3 else ∃ r2, P (c + 1) acc ∧ Kp r' r2 ∧ PS h2 (k1 + st * (c + 1)) r2) ∧
      ∀ acc h' r', P src.items.length acc → Kp r1 r' → PS h' (k1 + st * src.items.length) r' → r'[r1.length]? = some (.lst acc) → Q (.ref (r1.length + 3)) h') : W (eComp cap mi g k me γ) h Q := by
  refine comp_w (hs.mono fun src h1 ⟨k1, st, r1, P, p1, good, p0, hl, hb, step, fin⟩ => ?_)
  refine ⟨fun c h' => ∃ acc r', P c acc ∧ Kp r1 r' ∧ PS h' (k1 + st * c) r' ∧ r'[r1.length]? = some (.lst acc) ∧ c ≤ src.items.length, ⟨[], r1 ++ [.lst []], p0, Kp.app _ _, (p1.app _).up (by simp), at_new, by omega⟩, ?_, ?_, ?_⟩
  · rintro c h' ⟨acc, r', _, kp, ps, _⟩
    exact good _ _ _ kp ps
  · rintro c d h' hd ⟨acc, r', pc, kp, ps, ea, hc⟩
    have hlt : c < src.items.length := (List.getElem?_eq_some_iff.mp hd).1
    refine (step c d acc h' r' hd pc kp ps).mono fun γ1 h1' q1 => q1.mono fun t h2 q2 => ?_
    cases t with
    | false =>
      rw [if_neg (by decide)] at q2 ⊢
      obtain ⟨r2, a1, a2, a3⟩ := q2
      exact ⟨acc, r2, a1, kp.trans a2, a3, a2 _ _ ea, by omega⟩
    | true =>
      rw [if_pos rfl] at q2 ⊢
      refine q2.mono fun v h3 ⟨r3, a1, a2, a3⟩ => ?_
      rw [p1.len]
      have := hb c acc pc
      refine w_append a3 (a2 _ _ ea) (by omega) fun h4 p4 => ?_
      exact ⟨acc ++ [v], _, a1, (kp.trans a2).set (Nat.le_refl _), p4, set_at (a2 _ _ ea), by omega⟩
  · rintro h' ⟨acc, r', pc, kp, ps, ea, _⟩
    rw [p1.len]
    exact fin acc h' r' pc kp ps ea
theorem capG_e (γ : G) : capG [] γ = [] := rfl
theorem capG_n (c : List (Option Nat)) (γ : G) : capG (none :: c) γ = none :: capG c γ := rfl
theorem capG_s (j : Nat) (c : List (Option Nat)) (γ : G) : capG (some j :: c) γ = (γ[j]?).join :: capG c γ := rfl
theorem join_ss (d : D) : (some (some d)).join = some d := rfl
theorem cut_to {ns : List Str} {t : Nat} (ht : t ≤ ns.length) : cutD (ns.map D.str) none (some (t : Int)) = (ns.take t).map D.str := by
  unfold cutD
  rw [HT.sIx_nat, HT.sIx_none, List.drop_zero, List.length_map, Nat.sub_zero, Nat.min_eq_left ht, List.map_take]
theorem cut_from {ns : List Str} {t : Nat} (ht : t ≤ ns.length) : cutD (ns.map D.str) (some (t : Int)) none = (ns.drop t).map D.str := by
  unfold cutD
  rw [HT.sIx_nat, HT.sIx_none, List.length_map, Nat.min_eq_left ht, List.map_drop]
  rw [List.take_of_length_le (by simp)]
theorem sl_ref (n : Nat) (lo hi : Option Int) : fSl (.ref n) lo hi = (do let xs ← getL n; newL (cutD xs lo hi)) := rfl
theorem ad_ref (i j : Nat) : fAdd (.ref i) (.ref j) = (do let x ← getL i; let y ← getL j; newL (x ++ y)) := rfl
theorem turn_nodup {ns : List Str} (h : ns.Nodup) (t : Nat) : (ns.drop t ++ ns.take t).Nodup := by
  have : (ns.drop t ++ ns.take t).Perm ns := by
    have := List.perm_append_comm (l₁ := ns.drop t) (l₂ := ns.take t)
    rwa [List.take_append_drop] at this
  exact this.nodup_iff.mpr h
theorem turn_mem {ns : List Str} {t : Nat} {x : Str} (h : x ∈ ns.drop t ++ ns.take t) : x ∈ ns := by
  rcases List.mem_append.mp h with q | q
  · exact List.mem_of_mem_drop q
  · exact List.mem_of_mem_take q
theorem four_at {t : Int} (h0 : 0 ≤ t) (h1 : t < 5) : ∃ v : Nat, v ≤ 4 ∧ atI [D.int 0, D.int 1, D.int 1, D.int 2, D.int 4] t = some (.int v) := by
  have : t = 0 ∨ t = 1 ∨ t = 2 ∨ t = 3 ∨ t = 4 := by omega
  rcases this with rfl | rfl | rfl | rfl | rfl
  · exact ⟨0, by decide, rfl⟩
  · exact ⟨1, by decide, rfl⟩
  · exact ⟨1, by decide, rfl⟩
  · exact ⟨2, by decide, rfl⟩
  · exact ⟨4, by decide, rfl⟩
theorem command_w {h : AH} {k : Int} {r : AH} {i : Nat} {ns : List Str} {x : Str} (p : PS h k r) (hk : k < 700000) (e : r[i]? = some (.lst (ns.map .str))) (h1 : 1 ≤ ns.length) (h2 : ns.length ≤ 4) (nd : ns.Nodup) (gx : goodN x) :
    W (m__law_command [.ref 2, .str x, .ref (i + 3)]) h (fun d h' => ∃ r', CmdOK ns d ∧ nameS d = x ∧ PS h' (k + 50) r' ∧ Kp r r') := by
  refine w_run ?_
  show W (b__law_command [some (.ref 2), some (.str x), some (.ref (i + 3)), none, none, none, none]) h _
  unfold b__law_command
  rw [w_cons]; simp only [W_bind, W_pure, W_bad, W_ite, w_nil, contW_nx, contW_rt, sAsg, sExpr, sRet, sIf, FT.e2, FT.e3, eVar, gN, gIx, eFn, aCons, aNil, eCall, eTup, eLst, eM1, eM0, eMS, W_asRef, eIsi, isi_bl, isi_int, isi_str, isi_tup, asB_bl, truD_bl, cVal, cNot, cAnd, cOr, eAnd, eOr, eNot, eIf, oSome, oNone, eSlice, List.getElem?_cons_succ, List.getElem?_cons_zero, List.set_cons_succ, List.set_cons_zero, List.length_cons, List.length_nil, Nat.reduceAdd, if_true, if_false, Bool.not_true, Bool.not_false, ite_true, ite_false, reduceIte, Bool.false_eq_true, reduceCtorEq, add_ii, sub_ii, gt_ii, ge_ii, lt_ii, le_ii, eq_ii]
  refine comp_ps ?_
  unfold iRange
  simp only [W_bind, W_pure, W_bad, W_ite, w_nil, contW_nx, contW_rt, sAsg, sExpr, sRet, sIf, FT.e2, FT.e3, eVar, gN, gIx, eFn, aCons, aNil, eCall, eTup, eLst, eM1, eM0, eMS, W_asRef, eIsi, isi_bl, isi_int, isi_str, isi_tup, asB_bl, truD_bl, cVal, cNot, cAnd, cOr, eAnd, eOr, eNot, eIf, oSome, oNone, eSlice, List.getElem?_cons_succ, List.getElem?_cons_zero, List.set_cons_succ, List.set_cons_zero, List.length_cons, List.length_nil, Nat.reduceAdd, if_true, if_false, Bool.not_true, Bool.not_false, ite_true, ite_false, reduceIte, Bool.false_eq_true, reduceCtorEq, add_ii, sub_ii, gt_ii, ge_ii, lt_ii, le_ii, eq_ii]
  refine w_newL p (by simp) fun h3 p3 => ?_
  refine w_draw p3 (by omega) (by decide) (by decide) fun t h4 t0 t1 p4 => ?_
  obtain ⟨v, v1, ea⟩ := four_at t0 t1
  refine w_ixr p4 at_new ea ?_
  dsimp only
  rw [if_pos (by omega), W_pure, Int.toNat_natCast]
  have lv : (Src.con (intsD v)).items.length = v := by simp [Src.items, intsD]
  generalize hr1 : r ++ [O.lst [D.int 0, D.int 1, D.int 1, D.int 2, D.int 4]] = r1 at p4
  have k1 : Kp r r1 := by rw [← hr1]; exact Kp.app _ _
  refine ⟨k + 1, 5, r1, fun c acc => acc.length = c ∧ ∀ d ∈ acc, TestOK ns d, p4, fun _ _ _ _ _ => trivial, ⟨rfl, by simp⟩, by omega, fun c acc q => Nat.le_of_eq q.1, ?_, ?_⟩
  · rintro c d acc h5 r5 hd ⟨l5, o5⟩ k5 p5
    obtain ⟨rfl, hc⟩ := intsD_get (show (intsD v)[c]? = some d from hd)
    simp only [W_bind, W_pure, W_bad, W_ite, w_nil, contW_nx, contW_rt, sAsg, sExpr, sRet, sIf, FT.e2, FT.e3, eVar, gN, gIx, eFn, aCons, aNil, eCall, eTup, eLst, eM1, eM0, eMS, W_asRef, eIsi, isi_bl, isi_int, isi_str, isi_tup, asB_bl, truD_bl, cVal, cNot, cAnd, cOr, eAnd, eOr, eNot, eIf, oSome, oNone, eSlice, List.getElem?_cons_succ, List.getElem?_cons_zero, List.set_cons_succ, List.set_cons_zero, List.length_cons, List.length_nil, Nat.reduceAdd, if_true, if_false, Bool.not_true, Bool.not_false, ite_true, ite_false, reduceIte, Bool.false_eq_true, reduceCtorEq, add_ii, sub_ii, gt_ii, ge_ii, lt_ii, le_ii, eq_ii, capG_s, capG_n, capG_e, join_ss]
    refine (test_w p5 (by omega) (k5 _ _ (k1 _ _ e)) h1 (by omega)).mono fun d h6 ⟨r6, ok, p6, k6⟩ => ?_
    refine ⟨r6, ⟨by simp [l5], fun y hy => ?_⟩, k6, p6.up (by omega)⟩
    rcases List.mem_append.mp hy with q | q
    · exact o5 y q
    · simp at q; subst q; exact ok
  rintro ts h5 r5 ⟨l5, o5⟩ k5 p5 e5
  rw [lv] at l5 p5
  rw [ft_ref, W_bind]
  refine w_getL p5 e5 ?_
  rw [W_pure]
  replace k5 : Kp r r5 := k1.trans k5
  rw [w_cons]; simp only [W_bind, W_pure, W_bad, W_ite, w_nil, contW_nx, contW_rt, sAsg, sExpr, sRet, sIf, FT.e2, FT.e3, eVar, gN, gIx, eFn, aCons, aNil, eCall, eTup, eLst, eM1, eM0, eMS, W_asRef, eIsi, isi_bl, isi_int, isi_str, isi_tup, asB_bl, truD_bl, cVal, cNot, cAnd, cOr, eAnd, eOr, eNot, eIf, oSome, oNone, eSlice, List.getElem?_cons_succ, List.getElem?_cons_zero, List.set_cons_succ, List.set_cons_zero, List.length_cons, List.length_nil, Nat.reduceAdd, if_true, if_false, Bool.not_true, Bool.not_false, ite_true, ite_false, reduceIte, Bool.false_eq_true, reduceCtorEq, add_ii, sub_ii, gt_ii, ge_ii, lt_ii, le_ii, eq_ii]
  refine w_lenr p5 (k5 _ _ e) ?_
  rw [List.length_map]
  refine w_draw p5 (by omega) (by omega) (by omega) fun t h6 t0 t1 p6 => ?_
  obtain ⟨t, rfl⟩ := Int.eq_ofNat_of_zero_le t0
  rw [w_cons]; simp only [W_bind, W_pure, W_bad, W_ite, w_nil, contW_nx, contW_rt, sAsg, sExpr, sRet, sIf, FT.e2, FT.e3, eVar, gN, gIx, eFn, aCons, aNil, eCall, eTup, eLst, eM1, eM0, eMS, W_asRef, eIsi, isi_bl, isi_int, isi_str, isi_tup, asB_bl, truD_bl, cVal, cNot, cAnd, cOr, eAnd, eOr, eNot, eIf, oSome, oNone, eSlice, List.getElem?_cons_succ, List.getElem?_cons_zero, List.set_cons_succ, List.set_cons_zero, List.length_cons, List.length_nil, Nat.reduceAdd, if_true, if_false, Bool.not_true, Bool.not_false, ite_true, ite_false, reduceIte, Bool.false_eq_true, reduceCtorEq, add_ii, sub_ii, gt_ii, ge_ii, lt_ii, le_ii, eq_ii]
  rw [sl_ref, W_bind]
  refine w_getL p6 (k5 _ _ e) ?_
  rw [cut_from (by omega)]
  refine w_newL p6 (by simp; omega) fun h7 p7 => ?_
  rw [sl_ref, W_bind]
  refine w_getL p7 (at_app (k5 _ _ e)) ?_
  rw [cut_to (by omega)]
  refine w_newL p7 (by simp; omega) fun h8 p8 => ?_
  rw [ad_ref, W_bind]
  refine w_getL p8 (at_app at_new) ?_
  rw [W_bind]
  refine w_getL p8 at_new ?_
  rw [← List.map_append]
  refine w_newL p8 (by simp; omega) fun h9 p9 => ?_
  have e9 := at_new (r := r5 ++ [O.lst ((ns.drop t).map D.str)] ++ [O.lst ((ns.take t).map D.str)]) (o := .lst ((ns.drop t ++ ns.take t).map D.str))
  have k9 : Kp r (r5 ++ [O.lst ((ns.drop t).map D.str)] ++ [O.lst ((ns.take t).map D.str)] ++ [O.lst ((ns.drop t ++ ns.take t).map D.str)]) := ((k5.trans (Kp.app _ _)).trans (Kp.app _ _)).trans (Kp.app _ _)
  generalize (r5 ++ [O.lst ((ns.drop t).map D.str)] ++ [O.lst ((ns.take t).map D.str)]).length = s at p9 e9 ⊢
  generalize r5 ++ [O.lst ((ns.drop t).map D.str)] ++ [O.lst ((ns.take t).map D.str)] ++ [O.lst ((ns.drop t ++ ns.take t).map D.str)] = r9 at p9 e9 k9
  have sl : (ns.drop t ++ ns.take t).length = ns.length := by simp; omega
  have snd := turn_nodup nd t
  have sm : ∀ y ∈ ns.drop t ++ ns.take t, y ∈ ns := fun y hy => turn_mem hy
  generalize ns.drop t ++ ns.take t = so at *
  rw [w_cons]; simp only [W_bind, W_pure, W_bad, W_ite, w_nil, contW_nx, contW_rt, sAsg, sExpr, sRet, sIf, FT.e2, FT.e3, eVar, gN, gIx, eFn, aCons, aNil, eCall, eTup, eLst, eM1, eM0, eMS, W_asRef, eIsi, isi_bl, isi_int, isi_str, isi_tup, asB_bl, truD_bl, cVal, cNot, cAnd, cOr, eAnd, eOr, eNot, eIf, oSome, oNone, eSlice, List.getElem?_cons_succ, List.getElem?_cons_zero, List.set_cons_succ, List.set_cons_zero, List.length_cons, List.length_nil, Nat.reduceAdd, if_true, if_false, Bool.not_true, Bool.not_false, ite_true, ite_false, reduceIte, Bool.false_eq_true, reduceCtorEq, add_ii, sub_ii, gt_ii, ge_ii, lt_ii, le_ii, eq_ii]
  refine comp_ps ?_
  unfold iSeqL
  simp only [W_bind, W_pure, W_bad, W_ite, w_nil, contW_nx, contW_rt, sAsg, sExpr, sRet, sIf, FT.e2, FT.e3, eVar, gN, gIx, eFn, aCons, aNil, eCall, eTup, eLst, eM1, eM0, eMS, W_asRef, eIsi, isi_bl, isi_int, isi_str, isi_tup, asB_bl, truD_bl, cVal, cNot, cAnd, cOr, eAnd, eOr, eNot, eIf, oSome, oNone, eSlice, List.getElem?_cons_succ, List.getElem?_cons_zero, List.set_cons_succ, List.set_cons_zero, List.length_cons, List.length_nil, Nat.reduceAdd, if_true, if_false, Bool.not_true, Bool.not_false, ite_true, ite_false, reduceIte, Bool.false_eq_true, reduceCtorEq, add_ii, sub_ii, gt_ii, ge_ii, lt_ii, le_ii, eq_ii]
  refine w_getL p9 e9 ?_
  have lv : (Src.lst (s + 3) (so.map D.str)).items.length = so.length := by simp [Src.items]
  refine ⟨_, 4, r9, fun c acc => acc.length ≤ c ∧ (acc.map nameS).Sublist (so.take c) ∧ ∀ d ∈ acc, PutOK ns d, p9, fun h' k' r' kp ps => ?_, ⟨by simp, by simp, by simp⟩, by omega, fun c acc q => q.1, ?_, ?_⟩
  · show h'[s + 3]? = _
    rw [ps.get]
    exact kp _ _ e9
  · rintro c d acc h5 r6 hd ⟨l5, n5, o5⟩ k6 p5
    simp only [Src.items, List.getElem?_map] at hd
    obtain ⟨y, hy, rfl⟩ := Option.map_eq_some_iff.mp hd
    have ts : so.take (c + 1) = so.take c ++ [y] := by rw [List.take_succ, hy]; rfl
    have hc := (List.getElem?_eq_some_iff.mp hy).1
    simp only [W_bind, W_pure, W_bad, W_ite, w_nil, contW_nx, contW_rt, sAsg, sExpr, sRet, sIf, FT.e2, FT.e3, eVar, gN, gIx, eFn, aCons, aNil, eCall, eTup, eLst, eM1, eM0, eMS, W_asRef, eIsi, isi_bl, isi_int, isi_str, isi_tup, asB_bl, truD_bl, cVal, cNot, cAnd, cOr, eAnd, eOr, eNot, eIf, oSome, oNone, eSlice, List.getElem?_cons_succ, List.getElem?_cons_zero, List.set_cons_succ, List.set_cons_zero, List.length_cons, List.length_nil, Nat.reduceAdd, if_true, if_false, Bool.not_true, Bool.not_false, ite_true, ite_false, reduceIte, Bool.false_eq_true, reduceCtorEq, add_ii, sub_ii, gt_ii, ge_ii, lt_ii, le_ii, eq_ii, capG_s, capG_n, capG_e, join_ss]
    refine w_draw p5 (by omega) (by decide) (by decide) fun u h6 u0 u1 p6 => ?_
    rw [gt_ii, W_pure, asB_bl, W_pure]
    by_cases q : 0 < u
    · rw [decide_eq_true q, if_pos rfl]
      refine (worth_w p6 (by omega) (k6 _ _ (k9 _ _ e)) h1 (by omega)).mono fun d h7 ⟨r7, ok, p7, k7⟩ => ?_
      rw [if_pos (by decide)]
      refine ⟨r7, ⟨by simp; omega, ?_, fun z hz => ?_⟩, k7, p7.up (by omega)⟩
      · rw [ts, List.map_append]
        exact n5.append (List.Sublist.refl _)
      · rcases List.mem_append.mp hz with q | q
        · exact o5 z q
        · simp at q; subst q; exact ⟨y, sm y (List.mem_of_getElem? hy), d, ok, rfl⟩
    · rw [decide_eq_false q, if_neg (by decide)]
      refine ⟨r6, ⟨by omega, ?_, o5⟩, Kp.refl _, p6.up (by omega)⟩
      rw [ts]
      exact n5.trans (List.sublist_append_left _ _)
  rintro ps h6 r6 ⟨l6, n6, o6⟩ k6 p6 e6
  rw [lv] at l6 p6 n6
  rw [ft_ref, W_bind]
  refine w_getL p6 e6 ?_
  rw [W_pure]
  rw [w_cons]; simp only [W_bind, W_pure, W_bad, W_ite, w_nil, contW_nx, contW_rt, sAsg, sExpr, sRet, sIf, FT.e2, FT.e3, eVar, gN, gIx, eFn, aCons, aNil, eCall, eTup, eLst, eM1, eM0, eMS, W_asRef, eIsi, isi_bl, isi_int, isi_str, isi_tup, asB_bl, truD_bl, cVal, cNot, cAnd, cOr, eAnd, eOr, eNot, eIf, oSome, oNone, eSlice, List.getElem?_cons_succ, List.getElem?_cons_zero, List.set_cons_succ, List.set_cons_zero, List.length_cons, List.length_nil, Nat.reduceAdd, if_true, if_false, Bool.not_true, Bool.not_false, ite_true, ite_false, reduceIte, Bool.false_eq_true, reduceCtorEq, add_ii, sub_ii, gt_ii, ge_ii, lt_ii, le_ii, eq_ii]
  rw [if_pos (by decide)]
  refine ⟨r6, ⟨x, ts, ps, rfl, gx, by omega, o5, by omega, o6, ?_⟩, rfl, p6.up (by omega), k9.trans k6⟩
  exact (n6.trans (List.take_sublist _ _)).nodup snd
end FT
set_option Elab.async false
set_option linter.all false
set_option maxRecDepth 100000
set_option maxHeartbeats 2000000
namespace FT
open PySem PySem.Spec PyProof.Rows L2
theorem int_bl (b : Bool) : fInt [.bl b] = pure (.int (if b then 1 else 0)) := rfl
theorem ask_w {h : AH} {k : Int} {r : AH} {i c : Nat} {ns called : List Str} {b : Bool} (p : PS h k r) (hk : k < 700000) (e : r[i]? = some (.lst (ns.map .str))) (h1 : 1 ≤ ns.length) (h2 : ns.length ≤ 8) (f : r[c]? = some (.lst (called.map .str))) (h3 : called.length ≤ 8) :
    W (m__law_ask [.ref 2, .ref (i + 3), .ref (c + 3), .bl b]) h (fun d h' => ∃ r', (TestOK ns d ∨ AskOK called b d) ∧ PS h' (k + 6) r' ∧ Kp r r') := by
  refine w_run ?_
  show W (b__law_ask [some (.ref 2), some (.ref (i + 3)), some (.ref (c + 3)), some (.bl b), none]) h _
  unfold b__law_ask
  have other : ∀ h' k', PS h' k' r → k' ≤ k + 1 → W (bCons (sRet (eFn 2 m__law_test (aCons (eVar 0) (aCons (eVar 1) aNil)))) bNil [some (.ref 2), some (.ref (i + 3)), some (.ref (c + 3)), some (.bl b), none]) h' (runW fun d h' => ∃ r', (TestOK ns d ∨ AskOK called b d) ∧ PS h' (k + 6) r' ∧ Kp r r') := fun h' k' p' hk' => by
    rw [w_cons]; simp only [W_bind, W_pure, W_bad, W_ite, w_nil, contW_nx, contW_rt, sAsg, sExpr, sRet, sIf, FT.e2, FT.e3, eVar, gN, gIx, eFn, aCons, aNil, eCall, eTup, eLst, eM1, eM0, eMS, W_asRef, eIsi, isi_bl, isi_int, isi_str, isi_tup, asB_bl, truD_bl, cVal, cNot, cAnd, cOr, eAnd, eOr, eNot, eIf, oSome, oNone, eSlice, List.getElem?_cons_succ, List.getElem?_cons_zero, List.set_cons_succ, List.set_cons_zero, List.length_cons, List.length_nil, Nat.reduceAdd, if_true, if_false, Bool.not_true, Bool.not_false, ite_true, ite_false, reduceIte, Bool.false_eq_true, reduceCtorEq, add_ii, sub_ii, gt_ii, ge_ii, lt_ii, le_ii, eq_ii]
    refine (test_w p' (by omega) e h1 h2).mono fun d h4 ⟨r4, ok, p4, k4⟩ => ?_
    exact ⟨r4, .inl ok, p4.up (by omega), k4⟩
  rw [w_cons]; simp only [W_bind, W_pure, W_bad, W_ite, w_nil, contW_nx, contW_rt, sAsg, sExpr, sRet, sIf, FT.e2, FT.e3, eVar, gN, gIx, eFn, aCons, aNil, eCall, eTup, eLst, eM1, eM0, eMS, W_asRef, eIsi, isi_bl, isi_int, isi_str, isi_tup, asB_bl, truD_bl, cVal, cNot, cAnd, cOr, eAnd, eOr, eNot, eIf, oSome, oNone, eSlice, List.getElem?_cons_succ, List.getElem?_cons_zero, List.set_cons_succ, List.set_cons_zero, List.length_cons, List.length_nil, Nat.reduceAdd, if_true, if_false, Bool.not_true, Bool.not_false, ite_true, ite_false, reduceIte, Bool.false_eq_true, reduceCtorEq, add_ii, sub_ii, gt_ii, ge_ii, lt_ii, le_ii, eq_ii]
  refine w_lenr p f ?_
  rw [gt_ii, W_pure, asB_bl, W_pure, List.length_map]
  by_cases q : (0 : Int) < called.length
  · rw [decide_eq_true q, if_pos rfl]
    refine w_draw p (by omega) (by decide) (by decide) fun t h4 t0 t1 p4 => ?_
    rw [eq_ii, W_pure, asB_bl, W_pure]
    split
    · rw [w_cons]; simp only [W_bind, W_pure, W_bad, W_ite, w_nil, contW_nx, contW_rt, sAsg, sExpr, sRet, sIf, FT.e2, FT.e3, eVar, gN, gIx, eFn, aCons, aNil, eCall, eTup, eLst, eM1, eM0, eMS, W_asRef, eIsi, isi_bl, isi_int, isi_str, isi_tup, asB_bl, truD_bl, cVal, cNot, cAnd, cOr, eAnd, eOr, eNot, eIf, oSome, oNone, eSlice, List.getElem?_cons_succ, List.getElem?_cons_zero, List.set_cons_succ, List.set_cons_zero, List.length_cons, List.length_nil, Nat.reduceAdd, if_true, if_false, Bool.not_true, Bool.not_false, ite_true, ite_false, reduceIte, Bool.false_eq_true, reduceCtorEq, add_ii, sub_ii, gt_ii, ge_ii, lt_ii, le_ii, eq_ii]
      refine w_newL p4 (by simp) fun h5 p5 => ?_
      rw [int_bl, W_pure, add_ii, W_pure]
      refine w_draw p5 (by omega) (by cases b <;> decide) (by cases b <;> decide) fun u h6 u0 u1 p6 => ?_
      obtain ⟨w, hw, ea⟩ : ∃ w ∈ asked b, atI [D.str "can", D.str "last"] u = some (.str w) := by
        cases b with
        | false =>
          have : u = 0 := by simp at u1; omega
          subst this
          exact ⟨"can", by simp [asked], rfl⟩
        | true => exact name_at (ns := asked true) u0 (by simpa [asked] using u1)
      refine w_ixr p6 at_new ea ?_
      rw [w_cons]; simp only [W_bind, W_pure, W_bad, W_ite, w_nil, contW_nx, contW_rt, sAsg, sExpr, sRet, sIf, FT.e2, FT.e3, eVar, gN, gIx, eFn, aCons, aNil, eCall, eTup, eLst, eM1, eM0, eMS, W_asRef, eIsi, isi_bl, isi_int, isi_str, isi_tup, asB_bl, truD_bl, cVal, cNot, cAnd, cOr, eAnd, eOr, eNot, eIf, oSome, oNone, eSlice, List.getElem?_cons_succ, List.getElem?_cons_zero, List.set_cons_succ, List.set_cons_zero, List.length_cons, List.length_nil, Nat.reduceAdd, if_true, if_false, Bool.not_true, Bool.not_false, ite_true, ite_false, reduceIte, Bool.false_eq_true, reduceCtorEq, add_ii, sub_ii, gt_ii, ge_ii, lt_ii, le_ii, eq_ii]
      refine w_lenr p6 (at_app f) ?_
      rw [List.length_map]
      refine w_draw p6 (by omega) (by omega) (by omega) fun v h7 v0 v1 p7 => ?_
      obtain ⟨x, hx, eb⟩ := name_at v0 v1
      refine w_ixr p7 (at_app f) eb ?_
      rw [if_pos (by decide)]
      exact ⟨_, .inr ⟨w, hw, x, hx, rfl⟩, p7.up (by omega), Kp.app _ _⟩
    · exact other _ _ p4 (by omega)
  · rw [decide_eq_false q, if_neg (by decide)]
    first | exact other _ _ p (by omega) | (simp only [W_bind, W_pure, W_bad, W_ite, w_nil, contW_nx, contW_rt, sAsg, sExpr, sRet, sIf, FT.e2, FT.e3, eVar, gN, gIx, eFn, aCons, aNil, eCall, eTup, eLst, eM1, eM0, eMS, W_asRef, eIsi, isi_bl, isi_int, isi_str, isi_tup, asB_bl, truD_bl, cVal, cNot, cAnd, cOr, eAnd, eOr, eNot, eIf, oSome, oNone, eSlice, List.getElem?_cons_succ, List.getElem?_cons_zero, List.set_cons_succ, List.set_cons_zero, List.length_cons, List.length_nil, Nat.reduceAdd, if_true, if_false, Bool.not_true, Bool.not_false, ite_true, ite_false, reduceIte, Bool.false_eq_true, reduceCtorEq, add_ii, sub_ii, gt_ii, ge_ii, lt_ii, le_ii, eq_ii]; exact other _ _ p (by omega))
theorem six_at {l : List Int} (hl : l = [1, 0, 1, 2, 1, 4] ∨ l = [1, 0, 1, 2, 4, 1]) {t : Int} (h0 : 0 ≤ t) (h1 : t < 6) : ∃ v : Nat, v ≤ 4 ∧ atI (l.map D.int) t = some (.int v) := by
  have : t = 0 ∨ t = 1 ∨ t = 2 ∨ t = 3 ∨ t = 4 ∨ t = 5 := by omega
  rcases hl with rfl | rfl <;> rcases this with rfl | rfl | rfl | rfl | rfl | rfl <;> first | exact ⟨0, by decide, rfl⟩ | exact ⟨1, by decide, rfl⟩ | exact ⟨2, by decide, rfl⟩ | exact ⟨4, by decide, rfl⟩
theorem marks_w {h : AH} {k : Int} {r : AH} {w i c : Nat} {ws ns called : List Str} {b : Bool} (p : PS h k r) (hk : k < 600000) (ew : r[w]? = some (.lst (ws.map .str))) (lw : ws.length ≤ 8) (gw : NS ws) (e : r[i]? = some (.lst (ns.map .str))) (h1 : 1 ≤ ns.length) (h2 : ns.length ≤ 8) (f : r[c]? = some (.lst (called.map .str))) (h3 : called.length ≤ 8) :
    W (m__law_marks [.ref 2, .ref (w + 3), .ref (i + 3), .ref (c + 3), .bl b]) h (fun d h' => ∃ ms r', d = .tup ms ∧ ms.map nameS = ws ∧ (∀ m ∈ ms, MarkOK ns called b m) ∧ PS h' (k + 816) r' ∧ Kp r r') := by
  refine w_run ?_
  show W (b__law_marks [some (.ref 2), some (.ref (w + 3)), some (.ref (i + 3)), some (.ref (c + 3)), some (.bl b), none, none, none, none, none]) h _
  unfold b__law_marks
  rw [w_cons]; simp only [W_bind, W_pure, W_bad, W_ite, w_nil, contW_nx, contW_rt, sAsg, sExpr, sRet, sIf, FT.e2, FT.e3, eVar, gN, gIx, eFn, aCons, aNil, eCall, eTup, eLst, eM1, eM0, eMS, W_asRef, eIsi, isi_bl, isi_int, isi_str, isi_tup, asB_bl, truD_bl, cVal, cNot, cAnd, cOr, eAnd, eOr, eNot, eIf, oSome, oNone, eSlice, List.getElem?_cons_succ, List.getElem?_cons_zero, List.set_cons_succ, List.set_cons_zero, List.length_cons, List.length_nil, Nat.reduceAdd, if_true, if_false, Bool.not_true, Bool.not_false, ite_true, ite_false, reduceIte, Bool.false_eq_true, reduceCtorEq, add_ii, sub_ii, gt_ii, ge_ii, lt_ii, le_ii, eq_ii]
  refine w_newL p (by simp) fun h4 p4 => ?_
  rw [w_cons]
  refine for_src (fun n γ h => ∃ (ms : List D) (u7 u8 u9 u6 : Option D) (r' : AH), γ = [some (.ref 2), some (.ref (w + 3)), some (.ref (i + 3)), some (.ref (c + 3)), some (.bl b), some (.ref (r.length + 3)), u6, u7, u8, u9] ∧ ms.length = n ∧ ms.map nameS = ws.take n ∧ (∀ d ∈ ms, MarkOK ns called b d) ∧ PS h (k + 102 * n) r' ∧ Kp r r' ∧ r'[r.length]? = some (.lst ms)) (fun _ _ => False) ?_
  unfold iSeqL
  simp only [W_bind, W_pure, W_bad, W_ite, w_nil, contW_nx, contW_rt, sAsg, sExpr, sRet, sIf, FT.e2, FT.e3, eVar, gN, gIx, eFn, aCons, aNil, eCall, eTup, eLst, eM1, eM0, eMS, W_asRef, eIsi, isi_bl, isi_int, isi_str, isi_tup, asB_bl, truD_bl, cVal, cNot, cAnd, cOr, eAnd, eOr, eNot, eIf, oSome, oNone, eSlice, List.getElem?_cons_succ, List.getElem?_cons_zero, List.set_cons_succ, List.set_cons_zero, List.length_cons, List.length_nil, Nat.reduceAdd, if_true, if_false, Bool.not_true, Bool.not_false, ite_true, ite_false, reduceIte, Bool.false_eq_true, reduceCtorEq, add_ii, sub_ii, gt_ii, ge_ii, lt_ii, le_ii, eq_ii]
  refine w_getL p4 (at_app ew) ?_
  refine ⟨⟨[], none, none, none, none, _, rfl, rfl, by simp, by simp, p4.up (by omega), Kp.app _ _, at_new⟩, ?_, ?_, ?_, fun _ _ q => q.elim⟩
  · rintro n γ h ⟨ms, u7, u8, u9, u6, r', _, _, _, _, p5, k5, _⟩
    show h[w + 3]? = _
    rw [p5.get]
    exact k5 _ _ ew
  · rintro n d γ h5 hd ⟨ms, u7, u8, u9, u6, r5, rfl, l5, n5, o5, p5, k5, e5⟩
    simp only [Src.items, List.getElem?_map] at hd
    obtain ⟨x, hx, rfl⟩ := Option.map_eq_some_iff.mp hd
    have hn : n < ws.length := (List.getElem?_eq_some_iff.mp hx).1
    simp only [W_bind, W_pure, W_bad, W_ite, w_nil, contW_nx, contW_rt, sAsg, sExpr, sRet, sIf, FT.e2, FT.e3, eVar, gN, gIx, eFn, aCons, aNil, eCall, eTup, eLst, eM1, eM0, eMS, W_asRef, eIsi, isi_bl, isi_int, isi_str, isi_tup, asB_bl, truD_bl, cVal, cNot, cAnd, cOr, eAnd, eOr, eNot, eIf, oSome, oNone, eSlice, List.getElem?_cons_succ, List.getElem?_cons_zero, List.set_cons_succ, List.set_cons_zero, List.length_cons, List.length_nil, Nat.reduceAdd, if_true, if_false, Bool.not_true, Bool.not_false, ite_true, ite_false, reduceIte, Bool.false_eq_true, reduceCtorEq, add_ii, sub_ii, gt_ii, ge_ii, lt_ii, le_ii, eq_ii]
    rw [w_cons]; simp only [W_bind, W_pure, W_bad, W_ite, w_nil, contW_nx, contW_rt, sAsg, sExpr, sRet, sIf, FT.e2, FT.e3, eVar, gN, gIx, eFn, aCons, aNil, eCall, eTup, eLst, eM1, eM0, eMS, W_asRef, eIsi, isi_bl, isi_int, isi_str, isi_tup, asB_bl, truD_bl, cVal, cNot, cAnd, cOr, eAnd, eOr, eNot, eIf, oSome, oNone, eSlice, List.getElem?_cons_succ, List.getElem?_cons_zero, List.set_cons_succ, List.set_cons_zero, List.length_cons, List.length_nil, Nat.reduceAdd, if_true, if_false, Bool.not_true, Bool.not_false, ite_true, ite_false, reduceIte, Bool.false_eq_true, reduceCtorEq, add_ii, sub_ii, gt_ii, ge_ii, lt_ii, le_ii, eq_ii]
    refine w_newL p5 (by simp) fun h6 p6 => ?_
    refine w_seq (fun γ h => ∃ (rs : List D) (u8 u9 : Option D) (r' : AH), γ = [some (.ref 2), some (.ref (w + 3)), some (.ref (i + 3)), some (.ref (c + 3)), some (.bl b), some (.ref (r.length + 3)), some (.str x), some (.ref (r5.length + 3)), u8, u9] ∧ rs.length ≤ 4 ∧ (∀ d ∈ rs, RowOK ns called b d) ∧ PS h (k + 102 * n + 101) r' ∧ Kp r5 r' ∧ r'[r5.length]? = some (.lst rs)) ?_ ?_
    · refine for_range (fun m γ h => ∃ (rs : List D) (u8 u9 : Option D) (r' : AH), γ = [some (.ref 2), some (.ref (w + 3)), some (.ref (i + 3)), some (.ref (c + 3)), some (.bl b), some (.ref (r.length + 3)), some (.str x), some (.ref (r5.length + 3)), u8, u9] ∧ rs.length = m ∧ (∀ d ∈ rs, RowOK ns called b d) ∧ PS h (k + 102 * n + 1 + 25 * m) r' ∧ Kp r5 r' ∧ r'[r5.length]? = some (.lst rs)) (fun _ _ => False) ?_
      simp only [W_bind, W_pure, W_bad, W_ite, w_nil, contW_nx, contW_rt, sAsg, sExpr, sRet, sIf, FT.e2, FT.e3, eVar, gN, gIx, eFn, aCons, aNil, eCall, eTup, eLst, eM1, eM0, eMS, W_asRef, eIsi, isi_bl, isi_int, isi_str, isi_tup, asB_bl, truD_bl, cVal, cNot, cAnd, cOr, eAnd, eOr, eNot, eIf, oSome, oNone, eSlice, List.getElem?_cons_succ, List.getElem?_cons_zero, List.set_cons_succ, List.set_cons_zero, List.length_cons, List.length_nil, Nat.reduceAdd, if_true, if_false, Bool.not_true, Bool.not_false, ite_true, ite_false, reduceIte, Bool.false_eq_true, reduceCtorEq, add_ii, sub_ii, gt_ii, ge_ii, lt_ii, le_ii, eq_ii]
      refine w_newL p6 (by simp) fun h7 p7 => ?_
      refine w_draw p7 (by omega) (by decide) (by decide) fun t h8 t0 t1 p8 => ?_
      obtain ⟨v, v1, ea⟩ := six_at (.inl rfl) t0 t1
      refine w_ixr p8 at_new ea ?_
      refine ⟨v, rfl, by omega, ⟨[], _, _, _, rfl, rfl, by simp, p8.up (by omega), (Kp.app _ _).trans (Kp.app _ _), at_app at_new⟩, ?_, ?_, fun _ _ q => q.elim⟩
      · rintro m γ h9 hm ⟨rs, u8, u9, r9, rfl, l9, o9, p9, k9, e9⟩
        rw [w_cons]; simp only [W_bind, W_pure, W_bad, W_ite, w_nil, contW_nx, contW_rt, sAsg, sExpr, sRet, sIf, FT.e2, FT.e3, eVar, gN, gIx, eFn, aCons, aNil, eCall, eTup, eLst, eM1, eM0, eMS, W_asRef, eIsi, isi_bl, isi_int, isi_str, isi_tup, asB_bl, truD_bl, cVal, cNot, cAnd, cOr, eAnd, eOr, eNot, eIf, oSome, oNone, eSlice, List.getElem?_cons_succ, List.getElem?_cons_zero, List.set_cons_succ, List.set_cons_zero, List.length_cons, List.length_nil, Nat.reduceAdd, if_true, if_false, Bool.not_true, Bool.not_false, ite_true, ite_false, reduceIte, Bool.false_eq_true, reduceCtorEq, add_ii, sub_ii, gt_ii, ge_ii, lt_ii, le_ii, eq_ii]
        refine w_newL p9 (by simp) fun ha pa => ?_
        refine w_draw pa (by omega) (by decide) (by decide) fun t' hb t0' t1' pb => ?_
        obtain ⟨v', v1', ea'⟩ := six_at (.inr rfl) t0' t1'
        refine w_ixr pb at_new ea' ?_
        rw [w_cons]; simp only [W_bind, W_pure, W_bad, W_ite, w_nil, contW_nx, contW_rt, sAsg, sExpr, sRet, sIf, FT.e2, FT.e3, eVar, gN, gIx, eFn, aCons, aNil, eCall, eTup, eLst, eM1, eM0, eMS, W_asRef, eIsi, isi_bl, isi_int, isi_str, isi_tup, asB_bl, truD_bl, cVal, cNot, cAnd, cOr, eAnd, eOr, eNot, eIf, oSome, oNone, eSlice, List.getElem?_cons_succ, List.getElem?_cons_zero, List.set_cons_succ, List.set_cons_zero, List.length_cons, List.length_nil, Nat.reduceAdd, if_true, if_false, Bool.not_true, Bool.not_false, ite_true, ite_false, reduceIte, Bool.false_eq_true, reduceCtorEq, add_ii, sub_ii, gt_ii, ge_ii, lt_ii, le_ii, eq_ii]
        refine w_getL pb (at_app e9) ?_
        refine comp_ps ?_
        unfold iRange
        simp only [W_bind, W_pure, W_bad, W_ite, w_nil, contW_nx, contW_rt, sAsg, sExpr, sRet, sIf, FT.e2, FT.e3, eVar, gN, gIx, eFn, aCons, aNil, eCall, eTup, eLst, eM1, eM0, eMS, W_asRef, eIsi, isi_bl, isi_int, isi_str, isi_tup, asB_bl, truD_bl, cVal, cNot, cAnd, cOr, eAnd, eOr, eNot, eIf, oSome, oNone, eSlice, List.getElem?_cons_succ, List.getElem?_cons_zero, List.set_cons_succ, List.set_cons_zero, List.length_cons, List.length_nil, Nat.reduceAdd, if_true, if_false, Bool.not_true, Bool.not_false, ite_true, ite_false, reduceIte, Bool.false_eq_true, reduceCtorEq, add_ii, sub_ii, gt_ii, ge_ii, lt_ii, le_ii, eq_ii]
        rw [if_pos (by omega), Int.toNat_natCast]
        have lv : (Src.con (intsD v')).items.length = v' := by simp [Src.items, intsD]
        generalize hr1 : r9 ++ [O.lst [D.int 1, D.int 0, D.int 1, D.int 2, D.int 4, D.int 1]] = r1 at pb
        have kb : Kp r9 r1 := by rw [← hr1]; exact Kp.app _ _
        refine ⟨_, 6, r1, fun c acc => acc.length = c ∧ ∀ d ∈ acc, TestOK ns d ∨ AskOK called b d, pb, fun _ _ _ _ _ => trivial, ⟨rfl, by simp⟩, by omega, fun c acc q => Nat.le_of_eq q.1, ?_, ?_⟩
        · rintro c' d acc hc rc hd ⟨lc, oc⟩ kc pc
          obtain ⟨rfl, hc'⟩ := intsD_get (show (intsD v')[c']? = some d from hd)
          simp only [W_bind, W_pure, W_bad, W_ite, w_nil, contW_nx, contW_rt, sAsg, sExpr, sRet, sIf, FT.e2, FT.e3, eVar, gN, gIx, eFn, aCons, aNil, eCall, eTup, eLst, eM1, eM0, eMS, W_asRef, eIsi, isi_bl, isi_int, isi_str, isi_tup, asB_bl, truD_bl, cVal, cNot, cAnd, cOr, eAnd, eOr, eNot, eIf, oSome, oNone, eSlice, List.getElem?_cons_succ, List.getElem?_cons_zero, List.set_cons_succ, List.set_cons_zero, List.length_cons, List.length_nil, Nat.reduceAdd, if_true, if_false, Bool.not_true, Bool.not_false, ite_true, ite_false, reduceIte, Bool.false_eq_true, reduceCtorEq, add_ii, sub_ii, gt_ii, ge_ii, lt_ii, le_ii, eq_ii, capG_s, capG_n, capG_e, join_ss]
          have up : Kp r rc := (k5.trans k9).trans (kb.trans kc)
          refine (ask_w pc (by omega) (up _ _ e) h1 h2 (up _ _ f) h3).mono fun d hd' ⟨rd, ok, pd, kd⟩ => ?_
          refine ⟨rd, ⟨by simp [lc], fun y hy => ?_⟩, kd, pd.up (by omega)⟩
          rcases List.mem_append.mp hy with q | q
          · exact oc y q
          · simp at q; subst q; exact ok
        rintro ts hc rc ⟨lc, oc⟩ kc pc ec
        rw [lv] at lc pc
        rw [ft_ref, W_bind]
        refine w_getL pc ec ?_
        rw [W_pure]
        have kr : Kp r9 rc := kb.trans kc
        refine w_append pc (kr _ _ e9) (by omega) fun he pe => ?_
        refine ⟨rs ++ [.tup ts], _, _, _, rfl, by simp [l9], fun y hy => ?_, pe.up (by omega), (k9.trans kr).set (Nat.le_refl _), set_at (kr _ _ e9)⟩
        rcases List.mem_append.mp hy with q | q
        · exact o9 y q
        · simp at q; subst q; exact ⟨ts, rfl, by omega, oc⟩
      · rintro γ h9 ⟨rs, u8, u9, r9, rfl, l9, o9, p9, k9, e9⟩
        exact ⟨rs, u8, u9, r9, rfl, by omega, o9, p9.up (by omega), k9, e9⟩
    · rintro γ h9 ⟨rs, u8, u9, r9, rfl, l9, o9, p9, k9, e9⟩
      rw [w_cons]; simp only [W_bind, W_pure, W_bad, W_ite, w_nil, contW_nx, contW_rt, sAsg, sExpr, sRet, sIf, FT.e2, FT.e3, eVar, gN, gIx, eFn, aCons, aNil, eCall, eTup, eLst, eM1, eM0, eMS, W_asRef, eIsi, isi_bl, isi_int, isi_str, isi_tup, asB_bl, truD_bl, cVal, cNot, cAnd, cOr, eAnd, eOr, eNot, eIf, oSome, oNone, eSlice, List.getElem?_cons_succ, List.getElem?_cons_zero, List.set_cons_succ, List.set_cons_zero, List.length_cons, List.length_nil, Nat.reduceAdd, if_true, if_false, Bool.not_true, Bool.not_false, ite_true, ite_false, reduceIte, Bool.false_eq_true, reduceCtorEq, add_ii, sub_ii, gt_ii, ge_ii, lt_ii, le_ii, eq_ii]
      refine w_getL p9 (k9 _ _ e5) ?_
      rw [ft_ref, W_bind]
      refine w_getL p9 e9 ?_
      rw [W_pure, if_pos (by decide)]
      refine w_append p9 (k9 _ _ e5) (by omega) fun ha pa => ?_
      refine ⟨ms ++ [.tup [.str x, .tup rs]], _, _, _, _, _, rfl, by simp [l5], ?_, fun y hy => ?_, pa.up (by omega), (k5.trans k9).set (Nat.le_refl _), set_at (k9 _ _ e5)⟩
      · rw [List.map_append, n5, List.take_succ, hx]
        rfl
      · rcases List.mem_append.mp hy with q | q
        · exact o5 y q
        · simp at q; subst q; exact ⟨x, rs, rfl, gw.2 x (List.mem_of_getElem? hx), l9, o9⟩
  · rintro γ h5 ⟨ms, u7, u8, u9, u6, r5, rfl, l5, n5, o5, p5, k5, e5⟩
    simp only [Src.items, List.length_map] at l5 n5 p5
    rw [w_cons]; simp only [W_bind, W_pure, W_bad, W_ite, w_nil, contW_nx, contW_rt, sAsg, sExpr, sRet, sIf, FT.e2, FT.e3, eVar, gN, gIx, eFn, aCons, aNil, eCall, eTup, eLst, eM1, eM0, eMS, W_asRef, eIsi, isi_bl, isi_int, isi_str, isi_tup, asB_bl, truD_bl, cVal, cNot, cAnd, cOr, eAnd, eOr, eNot, eIf, oSome, oNone, eSlice, List.getElem?_cons_succ, List.getElem?_cons_zero, List.set_cons_succ, List.set_cons_zero, List.length_cons, List.length_nil, Nat.reduceAdd, if_true, if_false, Bool.not_true, Bool.not_false, ite_true, ite_false, reduceIte, Bool.false_eq_true, reduceCtorEq, add_ii, sub_ii, gt_ii, ge_ii, lt_ii, le_ii, eq_ii]
    rw [ft_ref, W_bind]
    refine w_getL p5 e5 ?_
    rw [W_pure]
    exact ⟨ms, r5, rfl, by rw [n5, List.take_length], o5, p5.up (by omega), k5⟩
end FT
set_option Elab.async false
set_option linter.all false
set_option maxRecDepth 100000
set_option maxHeartbeats 2000000
namespace FT
open PySem PySem.Spec PyProof.Rows L2
theorem NS.take {ns : List Str} (h : NS ns) (n : Nat) : NS (ns.take n) := ⟨(List.take_sublist n ns).nodup h.1, fun x hx => h.2 x (List.mem_of_mem_take hx)⟩
theorem NS.rev {ns : List Str} (h : NS ns) : NS ns.reverse := ⟨(List.reverse_perm ns).nodup_iff.mpr h.1, fun x hx => h.2 x (List.mem_reverse.mp hx)⟩
theorem rv_ref (n : Nat) : fRev (.ref n) = (do let xs ← getL n; newL xs.reverse) := rfl
theorem program_w {h : AH} {k : Int} {r : AH} {room cm mk : Int} (p : PS h k r) (hk : k < 500000) (c0 : 0 ≤ cm) (c1 : cm ≤ 8) (m0 : 0 ≤ mk) (m1 : mk ≤ 8) (r1 : cm + 1 ≤ room) (r2 : room ≤ 10000) :
    W (m__law_program [.ref 2, .int room, .int cm, .int mk]) h (fun d h' => ∃ cells cmds marks b r', d = prD cells cmds marks b ∧ ProgOK cells cmds marks b ∧ PS h' (k + 2000) r') := by
  refine w_run ?_
  show W (b__law_program [some (.ref 2), some (.int room), some (.int cm), some (.int mk), none, none, none, none, none, none, none, none]) h _
  unfold b__law_program
  rw [w_cons]; simp only [W_bind, W_pure, W_bad, W_ite, w_nil, contW_nx, contW_rt, sAsg, sExpr, sRet, sIf, FT.e2, FT.e3, eVar, gN, gIx, eFn, aCons, aNil, eCall, eTup, eLst, eM1, eM0, eMS, W_asRef, eIsi, isi_bl, isi_int, isi_str, isi_tup, asB_bl, truD_bl, cVal, cNot, cAnd, cOr, eAnd, eOr, eNot, eIf, oSome, oNone, eSlice, List.getElem?_cons_succ, List.getElem?_cons_zero, List.set_cons_succ, List.set_cons_zero, List.length_cons, List.length_nil, Nat.reduceAdd, if_true, if_false, Bool.not_true, Bool.not_false, ite_true, ite_false, reduceIte, Bool.false_eq_true, reduceCtorEq, add_ii, sub_ii, gt_ii, ge_ii, lt_ii, le_ii, eq_ii]
  refine w_draw p (by omega) (by decide) (by decide) fun t h1 t0 t1 p1 => ?_
  rw [eq_ii, W_pure]
  generalize (decide (t = 1) != false) = b
  rw [w_cons]; simp only [W_bind, W_pure, W_bad, W_ite, w_nil, contW_nx, contW_rt, sAsg, sExpr, sRet, sIf, FT.e2, FT.e3, eVar, gN, gIx, eFn, aCons, aNil, eCall, eTup, eLst, eM1, eM0, eMS, W_asRef, eIsi, isi_bl, isi_int, isi_str, isi_tup, asB_bl, truD_bl, cVal, cNot, cAnd, cOr, eAnd, eOr, eNot, eIf, oSome, oNone, eSlice, List.getElem?_cons_succ, List.getElem?_cons_zero, List.set_cons_succ, List.set_cons_zero, List.length_cons, List.length_nil, Nat.reduceAdd, if_true, if_false, Bool.not_true, Bool.not_false, ite_true, ite_false, reduceIte, Bool.false_eq_true, reduceCtorEq, add_ii, sub_ii, gt_ii, ge_ii, lt_ii, le_ii, eq_ii]
  refine w_draw p1 (by omega) (by decide) (by decide) fun t' h2 t0' t1' p2 => ?_
  rw [eq_ii, W_pure]
  generalize (decide (t' = 0) != false) = sh
  rw [w_cons]; simp only [W_bind, W_pure, W_bad, W_ite, w_nil, contW_nx, contW_rt, sAsg, sExpr, sRet, sIf, FT.e2, FT.e3, eVar, gN, gIx, eFn, aCons, aNil, eCall, eTup, eLst, eM1, eM0, eMS, W_asRef, eIsi, isi_bl, isi_int, isi_str, isi_tup, asB_bl, truD_bl, cVal, cNot, cAnd, cOr, eAnd, eOr, eNot, eIf, oSome, oNone, eSlice, List.getElem?_cons_succ, List.getElem?_cons_zero, List.set_cons_succ, List.set_cons_zero, List.length_cons, List.length_nil, Nat.reduceAdd, if_true, if_false, Bool.not_true, Bool.not_false, ite_true, ite_false, reduceIte, Bool.false_eq_true, reduceCtorEq, add_ii, sub_ii, gt_ii, ge_ii, lt_ii, le_ii, eq_ii]
  refine w_draw p2 (by omega) (by decide) (by decide) fun a h3 a0 a1 p3 => ?_
  obtain ⟨a, rfl⟩ := Int.eq_ofNat_of_zero_le a0
  rw [add_ii, W_pure, show (1 : Int) + (a : Nat) = ((1 + a : Nat) : Int) by omega]
  rw [w_cons]; simp only [W_bind, W_pure, W_bad, W_ite, w_nil, contW_nx, contW_rt, sAsg, sExpr, sRet, sIf, FT.e2, FT.e3, eVar, gN, gIx, eFn, aCons, aNil, eCall, eTup, eLst, eM1, eM0, eMS, W_asRef, eIsi, isi_bl, isi_int, isi_str, isi_tup, asB_bl, truD_bl, cVal, cNot, cAnd, cOr, eAnd, eOr, eNot, eIf, oSome, oNone, eSlice, List.getElem?_cons_succ, List.getElem?_cons_zero, List.set_cons_succ, List.set_cons_zero, List.length_cons, List.length_nil, Nat.reduceAdd, if_true, if_false, Bool.not_true, Bool.not_false, ite_true, ite_false, reduceIte, Bool.false_eq_true, reduceCtorEq, add_ii, sub_ii, gt_ii, ge_ii, lt_ii, le_ii, eq_ii]
  refine w_draw p3 (by omega) (by omega) (by omega) fun n h4 n0 n1 p4 => ?_
  obtain ⟨n, rfl⟩ := Int.eq_ofNat_of_zero_le n0
  rw [w_cons]; simp only [W_bind, W_pure, W_bad, W_ite, w_nil, contW_nx, contW_rt, sAsg, sExpr, sRet, sIf, FT.e2, FT.e3, eVar, gN, gIx, eFn, aCons, aNil, eCall, eTup, eLst, eM1, eM0, eMS, W_asRef, eIsi, isi_bl, isi_int, isi_str, isi_tup, asB_bl, truD_bl, cVal, cNot, cAnd, cOr, eAnd, eOr, eNot, eIf, oSome, oNone, eSlice, List.getElem?_cons_succ, List.getElem?_cons_zero, List.set_cons_succ, List.set_cons_zero, List.length_cons, List.length_nil, Nat.reduceAdd, if_true, if_false, Bool.not_true, Bool.not_false, ite_true, ite_false, reduceIte, Bool.false_eq_true, reduceCtorEq, add_ii, sub_ii, gt_ii, ge_ii, lt_ii, le_ii, eq_ii]
  refine w_draw p4 (by omega) (by omega) (by omega) fun m h5 m0 m1 p5 => ?_
  obtain ⟨m, rfl⟩ := Int.eq_ofNat_of_zero_le m0
  rw [w_cons]; simp only [W_bind, W_pure, W_bad, W_ite, w_nil, contW_nx, contW_rt, sAsg, sExpr, sRet, sIf, FT.e2, FT.e3, eVar, gN, gIx, eFn, aCons, aNil, eCall, eTup, eLst, eM1, eM0, eMS, W_asRef, eIsi, isi_bl, isi_int, isi_str, isi_tup, asB_bl, truD_bl, cVal, cNot, cAnd, cOr, eAnd, eOr, eNot, eIf, oSome, oNone, eSlice, List.getElem?_cons_succ, List.getElem?_cons_zero, List.set_cons_succ, List.set_cons_zero, List.length_cons, List.length_nil, Nat.reduceAdd, if_true, if_false, Bool.not_true, Bool.not_false, ite_true, ite_false, reduceIte, Bool.false_eq_true, reduceCtorEq, add_ii, sub_ii, gt_ii, ge_ii, lt_ii, le_ii, eq_ii]
  refine (law_names (n := 8) p5 (by omega) (by omega)).mono fun d h6 ⟨ci, called, r6, ed, p6, e6, l6, g6, k6, _⟩ => ?_
  subst ed
  rw [w_cons]; simp only [W_bind, W_pure, W_bad, W_ite, w_nil, contW_nx, contW_rt, sAsg, sExpr, sRet, sIf, FT.e2, FT.e3, eVar, gN, gIx, eFn, aCons, aNil, eCall, eTup, eLst, eM1, eM0, eMS, W_asRef, eIsi, isi_bl, isi_int, isi_str, isi_tup, asB_bl, truD_bl, cVal, cNot, cAnd, cOr, eAnd, eOr, eNot, eIf, oSome, oNone, eSlice, List.getElem?_cons_succ, List.getElem?_cons_zero, List.set_cons_succ, List.set_cons_zero, List.length_cons, List.length_nil, Nat.reduceAdd, if_true, if_false, Bool.not_true, Bool.not_false, ite_true, ite_false, reduceIte, Bool.false_eq_true, reduceCtorEq, add_ii, sub_ii, gt_ii, ge_ii, lt_ii, le_ii, eq_ii]
  rw [sl_ref, W_bind]
  refine w_getL p6 e6 ?_
  rw [cut_to (by omega)]
  refine w_newL p6 (by simp; omega) fun h7 p7 => ?_
  rw [w_cons]; simp only [W_bind, W_pure, W_bad, W_ite, w_nil, contW_nx, contW_rt, sAsg, sExpr, sRet, sIf, FT.e2, FT.e3, eVar, gN, gIx, eFn, aCons, aNil, eCall, eTup, eLst, eM1, eM0, eMS, W_asRef, eIsi, isi_bl, isi_int, isi_str, isi_tup, asB_bl, truD_bl, cVal, cNot, cAnd, cOr, eAnd, eOr, eNot, eIf, oSome, oNone, eSlice, List.getElem?_cons_succ, List.getElem?_cons_zero, List.set_cons_succ, List.set_cons_zero, List.length_cons, List.length_nil, Nat.reduceAdd, if_true, if_false, Bool.not_true, Bool.not_false, ite_true, ite_false, reduceIte, Bool.false_eq_true, reduceCtorEq, add_ii, sub_ii, gt_ii, ge_ii, lt_ii, le_ii, eq_ii, eRev, eNeg]
  rw [rv_ref, W_bind]
  refine w_getL p7 (at_app e6) ?_
  rw [← List.map_reverse]
  refine w_newL p7 (by simp; omega) fun h8 p8 => ?_
  rw [sl_ref, W_bind]
  refine w_getL p8 at_new ?_
  rw [cut_to (by simp; omega)]
  refine w_newL p8 (by simp; omega) fun h9 p9 => ?_
  refine w_seq (fun γ h => ∃ (ni wi : Nat) (ns ws : List Str) (r' : AH), γ = [some (.ref 2), some (.int room), some (.int n), some (.int m), some (.bl b), some (.bl sh), some (.int ((1 + a : Nat) : Int)), some (.ref (ci + 3)), some (.ref (ni + 3)), some (.ref (wi + 3)), none, none] ∧ PS h (k + 150) r' ∧
    r'[ci]? = some (.lst (called.map .str)) ∧ r'[ni]? = some (.lst (ns.map .str)) ∧ r'[wi]? = some (.lst (ws.map .str)) ∧ ns.length = 1 + a ∧ NS ns ∧ ws.length ≤ 8 ∧ NS ws) ?_ ?_
  · simp only [W_bind, W_pure, W_bad, W_ite, w_nil, contW_nx, contW_rt, sAsg, sExpr, sRet, sIf, FT.e2, FT.e3, eVar, gN, gIx, eFn, aCons, aNil, eCall, eTup, eLst, eM1, eM0, eMS, W_asRef, eIsi, isi_bl, isi_int, isi_str, isi_tup, asB_bl, truD_bl, cVal, cNot, cAnd, cOr, eAnd, eOr, eNot, eIf, oSome, oNone, eSlice, List.getElem?_cons_succ, List.getElem?_cons_zero, List.set_cons_succ, List.set_cons_zero, List.length_cons, List.length_nil, Nat.reduceAdd, if_true, if_false, Bool.not_true, Bool.not_false, ite_true, ite_false, reduceIte, Bool.false_eq_true, reduceCtorEq, add_ii, sub_ii, gt_ii, ge_ii, lt_ii, le_ii, eq_ii]
    cases sh with
    | true =>
      simp only [W_bind, W_pure, W_bad, W_ite, w_nil, contW_nx, contW_rt, sAsg, sExpr, sRet, sIf, FT.e2, FT.e3, eVar, gN, gIx, eFn, aCons, aNil, eCall, eTup, eLst, eM1, eM0, eMS, W_asRef, eIsi, isi_bl, isi_int, isi_str, isi_tup, asB_bl, truD_bl, cVal, cNot, cAnd, cOr, eAnd, eOr, eNot, eIf, oSome, oNone, eSlice, List.getElem?_cons_succ, List.getElem?_cons_zero, List.set_cons_succ, List.set_cons_zero, List.length_cons, List.length_nil, Nat.reduceAdd, if_true, if_false, Bool.not_true, Bool.not_false, ite_true, ite_false, reduceIte, Bool.false_eq_true, reduceCtorEq, add_ii, sub_ii, gt_ii, ge_ii, lt_ii, le_ii, eq_ii]
      exact ⟨_, _, called.take (1 + a), (called.reverse).take m, _, rfl, p9.up (by omega), at_app (at_app (at_app e6)), at_app (at_app at_new), at_new, by simp; omega, g6.take _, by simp; omega, (g6.rev).take _⟩
    | false =>
      simp only [W_bind, W_pure, W_bad, W_ite, w_nil, contW_nx, contW_rt, sAsg, sExpr, sRet, sIf, FT.e2, FT.e3, eVar, gN, gIx, eFn, aCons, aNil, eCall, eTup, eLst, eM1, eM0, eMS, W_asRef, eIsi, isi_bl, isi_int, isi_str, isi_tup, asB_bl, truD_bl, cVal, cNot, cAnd, cOr, eAnd, eOr, eNot, eIf, oSome, oNone, eSlice, List.getElem?_cons_succ, List.getElem?_cons_zero, List.set_cons_succ, List.set_cons_zero, List.length_cons, List.length_nil, Nat.reduceAdd, if_true, if_false, Bool.not_true, Bool.not_false, ite_true, ite_false, reduceIte, Bool.false_eq_true, reduceCtorEq, add_ii, sub_ii, gt_ii, ge_ii, lt_ii, le_ii, eq_ii]
      rw [w_cons]; simp only [W_bind, W_pure, W_bad, W_ite, w_nil, contW_nx, contW_rt, sAsg, sExpr, sRet, sIf, FT.e2, FT.e3, eVar, gN, gIx, eFn, aCons, aNil, eCall, eTup, eLst, eM1, eM0, eMS, W_asRef, eIsi, isi_bl, isi_int, isi_str, isi_tup, asB_bl, truD_bl, cVal, cNot, cAnd, cOr, eAnd, eOr, eNot, eIf, oSome, oNone, eSlice, List.getElem?_cons_succ, List.getElem?_cons_zero, List.set_cons_succ, List.set_cons_zero, List.length_cons, List.length_nil, Nat.reduceAdd, if_true, if_false, Bool.not_true, Bool.not_false, ite_true, ite_false, reduceIte, Bool.false_eq_true, reduceCtorEq, add_ii, sub_ii, gt_ii, ge_ii, lt_ii, le_ii, eq_ii]
      refine (law_names (n := 1 + a) p9 (by omega) (by omega)).mono fun d ha ⟨ni, ns, ra, ed, pa, ea, la, ga, ka, _⟩ => ?_
      subst ed
      rw [w_cons]; simp only [W_bind, W_pure, W_bad, W_ite, w_nil, contW_nx, contW_rt, sAsg, sExpr, sRet, sIf, FT.e2, FT.e3, eVar, gN, gIx, eFn, aCons, aNil, eCall, eTup, eLst, eM1, eM0, eMS, W_asRef, eIsi, isi_bl, isi_int, isi_str, isi_tup, asB_bl, truD_bl, cVal, cNot, cAnd, cOr, eAnd, eOr, eNot, eIf, oSome, oNone, eSlice, List.getElem?_cons_succ, List.getElem?_cons_zero, List.set_cons_succ, List.set_cons_zero, List.length_cons, List.length_nil, Nat.reduceAdd, if_true, if_false, Bool.not_true, Bool.not_false, ite_true, ite_false, reduceIte, Bool.false_eq_true, reduceCtorEq, add_ii, sub_ii, gt_ii, ge_ii, lt_ii, le_ii, eq_ii]
      refine (law_names (n := m) pa (by omega) (by omega)).mono fun d hb ⟨wi, ws, rb, ed, pb, eb, lb, gb, kb, _⟩ => ?_
      subst ed
      exact ⟨ni, wi, ns, ws, rb, rfl, pb.up (by omega), kb _ _ (ka _ _ (at_app (at_app (at_app e6)))), kb _ _ ea, eb, la, ga, by omega, gb⟩
  rintro γ ha ⟨ni, wi, ns, ws, ra, rfl, pa, ec, en, ew, ln, gn, lw, gw⟩
  rw [w_cons]; simp only [W_bind, W_pure, W_bad, W_ite, w_nil, contW_nx, contW_rt, sAsg, sExpr, sRet, sIf, FT.e2, FT.e3, eVar, gN, gIx, eFn, aCons, aNil, eCall, eTup, eLst, eM1, eM0, eMS, W_asRef, eIsi, isi_bl, isi_int, isi_str, isi_tup, asB_bl, truD_bl, cVal, cNot, cAnd, cOr, eAnd, eOr, eNot, eIf, oSome, oNone, eSlice, List.getElem?_cons_succ, List.getElem?_cons_zero, List.set_cons_succ, List.set_cons_zero, List.length_cons, List.length_nil, Nat.reduceAdd, if_true, if_false, Bool.not_true, Bool.not_false, ite_true, ite_false, reduceIte, Bool.false_eq_true, reduceCtorEq, add_ii, sub_ii, gt_ii, ge_ii, lt_ii, le_ii, eq_ii]
  rw [sl_ref, W_bind]
  refine w_getL pa ec ?_
  rw [cut_to (by omega)]
  refine w_newL pa (by simp; omega) fun hb pb => ?_
  have kb : Kp ra (ra ++ [O.lst ((called.take n).map D.str)]) := Kp.app _ _
  have eb := at_new (r := ra) (o := .lst ((called.take n).map D.str))
  generalize ra ++ [O.lst ((called.take n).map D.str)] = rb at pb kb eb
  have gc := g6.take n
  have lc : (called.take n).length = n := by simp; omega
  generalize called.take n = cs at eb gc lc
  refine w_seq (fun γ h => ∃ room : Int, 1 ≤ room ∧ room ≤ 10000 ∧ γ = [some (.ref 2), some (.int room), some (.int n), some (.int m), some (.bl b), some (.bl sh), some (.int ((1 + a : Nat) : Int)), some (.ref (ra.length + 3)), some (.ref (ni + 3)), some (.ref (wi + 3)), none, none] ∧ PS h (k + 150) rb) ?_ ?_
  · simp only [W_bind, W_pure, W_bad, W_ite, w_nil, contW_nx, contW_rt, sAsg, sExpr, sRet, sIf, FT.e2, FT.e3, eVar, gN, gIx, eFn, aCons, aNil, eCall, eTup, eLst, eM1, eM0, eMS, W_asRef, eIsi, isi_bl, isi_int, isi_str, isi_tup, asB_bl, truD_bl, cVal, cNot, cAnd, cOr, eAnd, eOr, eNot, eIf, oSome, oNone, eSlice, List.getElem?_cons_succ, List.getElem?_cons_zero, List.set_cons_succ, List.set_cons_zero, List.length_cons, List.length_nil, Nat.reduceAdd, if_true, if_false, Bool.not_true, Bool.not_false, ite_true, ite_false, reduceIte, Bool.false_eq_true, reduceCtorEq, add_ii, sub_ii, gt_ii, ge_ii, lt_ii, le_ii, eq_ii]
    cases b with
    | true =>
      simp only [W_bind, W_pure, W_bad, W_ite, w_nil, contW_nx, contW_rt, sAsg, sExpr, sRet, sIf, FT.e2, FT.e3, eVar, gN, gIx, eFn, aCons, aNil, eCall, eTup, eLst, eM1, eM0, eMS, W_asRef, eIsi, isi_bl, isi_int, isi_str, isi_tup, asB_bl, truD_bl, cVal, cNot, cAnd, cOr, eAnd, eOr, eNot, eIf, oSome, oNone, eSlice, List.getElem?_cons_succ, List.getElem?_cons_zero, List.set_cons_succ, List.set_cons_zero, List.length_cons, List.length_nil, Nat.reduceAdd, if_true, if_false, Bool.not_true, Bool.not_false, ite_true, ite_false, reduceIte, Bool.false_eq_true, reduceCtorEq, add_ii, sub_ii, gt_ii, ge_ii, lt_ii, le_ii, eq_ii]
      rw [w_cons]; simp only [W_bind, W_pure, W_bad, W_ite, w_nil, contW_nx, contW_rt, sAsg, sExpr, sRet, sIf, FT.e2, FT.e3, eVar, gN, gIx, eFn, aCons, aNil, eCall, eTup, eLst, eM1, eM0, eMS, W_asRef, eIsi, isi_bl, isi_int, isi_str, isi_tup, asB_bl, truD_bl, cVal, cNot, cAnd, cOr, eAnd, eOr, eNot, eIf, oSome, oNone, eSlice, List.getElem?_cons_succ, List.getElem?_cons_zero, List.set_cons_succ, List.set_cons_zero, List.length_cons, List.length_nil, Nat.reduceAdd, if_true, if_false, Bool.not_true, Bool.not_false, ite_true, ite_false, reduceIte, Bool.false_eq_true, reduceCtorEq, add_ii, sub_ii, gt_ii, ge_ii, lt_ii, le_ii, eq_ii]
      rw [div_ii (by omega) (by omega), W_pure]
      refine ⟨room / (1 + n), Int.le_ediv_of_mul_le (by omega) (by omega), Int.le_trans (Int.ediv_le_self _ (by omega)) r2, rfl, pb⟩
    | false =>
      simp only [W_bind, W_pure, W_bad, W_ite, w_nil, contW_nx, contW_rt, sAsg, sExpr, sRet, sIf, FT.e2, FT.e3, eVar, gN, gIx, eFn, aCons, aNil, eCall, eTup, eLst, eM1, eM0, eMS, W_asRef, eIsi, isi_bl, isi_int, isi_str, isi_tup, asB_bl, truD_bl, cVal, cNot, cAnd, cOr, eAnd, eOr, eNot, eIf, oSome, oNone, eSlice, List.getElem?_cons_succ, List.getElem?_cons_zero, List.set_cons_succ, List.set_cons_zero, List.length_cons, List.length_nil, Nat.reduceAdd, if_true, if_false, Bool.not_true, Bool.not_false, ite_true, ite_false, reduceIte, Bool.false_eq_true, reduceCtorEq, add_ii, sub_ii, gt_ii, ge_ii, lt_ii, le_ii, eq_ii]
      exact ⟨room, by omega, r2, rfl, pb⟩
  rintro γ hb ⟨room, q1, q2, rfl, pb⟩
  rw [w_cons]; simp only [W_bind, W_pure, W_bad, W_ite, w_nil, contW_nx, contW_rt, sAsg, sExpr, sRet, sIf, FT.e2, FT.e3, eVar, gN, gIx, eFn, aCons, aNil, eCall, eTup, eLst, eM1, eM0, eMS, W_asRef, eIsi, isi_bl, isi_int, isi_str, isi_tup, asB_bl, truD_bl, cVal, cNot, cAnd, cOr, eAnd, eOr, eNot, eIf, oSome, oNone, eSlice, List.getElem?_cons_succ, List.getElem?_cons_zero, List.set_cons_succ, List.set_cons_zero, List.length_cons, List.length_nil, Nat.reduceAdd, if_true, if_false, Bool.not_true, Bool.not_false, ite_true, ite_false, reduceIte, Bool.false_eq_true, reduceCtorEq, add_ii, sub_ii, gt_ii, ge_ii, lt_ii, le_ii, eq_ii]
  refine (cells_w pb (by omega) (kb _ _ en) (by omega) gn q1 q2).mono fun d hc ⟨cells, rc, ed, nc, oc, pc, kc⟩ => ?_
  subst ed
  rw [w_cons]; simp only [W_bind, W_pure, W_bad, W_ite, w_nil, contW_nx, contW_rt, sAsg, sExpr, sRet, sIf, FT.e2, FT.e3, eVar, gN, gIx, eFn, aCons, aNil, eCall, eTup, eLst, eM1, eM0, eMS, W_asRef, eIsi, isi_bl, isi_int, isi_str, isi_tup, asB_bl, truD_bl, cVal, cNot, cAnd, cOr, eAnd, eOr, eNot, eIf, oSome, oNone, eSlice, List.getElem?_cons_succ, List.getElem?_cons_zero, List.set_cons_succ, List.set_cons_zero, List.length_cons, List.length_nil, Nat.reduceAdd, if_true, if_false, Bool.not_true, Bool.not_false, ite_true, ite_false, reduceIte, Bool.false_eq_true, reduceCtorEq, add_ii, sub_ii, gt_ii, ge_ii, lt_ii, le_ii, eq_ii]
  refine comp_ps ?_
  unfold iSeqL
  simp only [W_bind, W_pure, W_bad, W_ite, w_nil, contW_nx, contW_rt, sAsg, sExpr, sRet, sIf, FT.e2, FT.e3, eVar, gN, gIx, eFn, aCons, aNil, eCall, eTup, eLst, eM1, eM0, eMS, W_asRef, eIsi, isi_bl, isi_int, isi_str, isi_tup, asB_bl, truD_bl, cVal, cNot, cAnd, cOr, eAnd, eOr, eNot, eIf, oSome, oNone, eSlice, List.getElem?_cons_succ, List.getElem?_cons_zero, List.set_cons_succ, List.set_cons_zero, List.length_cons, List.length_nil, Nat.reduceAdd, if_true, if_false, Bool.not_true, Bool.not_false, ite_true, ite_false, reduceIte, Bool.false_eq_true, reduceCtorEq, add_ii, sub_ii, gt_ii, ge_ii, lt_ii, le_ii, eq_ii]
  refine w_getL pc (kc _ _ eb) ?_
  have lv : (Src.lst (ra.length + 3) (cs.map D.str)).items.length = cs.length := by simp [Src.items]
  refine ⟨_, 50, rc, fun c acc => acc.length = c ∧ acc.map nameS = cs.take c ∧ ∀ d ∈ acc, CmdOK ns d, pc, fun h' k' r' kp ps => ?_, ⟨rfl, by simp, by simp⟩, by omega, fun c acc q => Nat.le_of_eq q.1, ?_, ?_⟩
  · show h'[ra.length + 3]? = _
    rw [ps.get]
    exact kp _ _ (kc _ _ eb)
  · rintro c d acc hd rd hi ⟨l5, n5, o5⟩ k5 p5'
    simp only [Src.items, List.getElem?_map] at hi
    obtain ⟨y, hy, rfl⟩ := Option.map_eq_some_iff.mp hi
    have hcl := (List.getElem?_eq_some_iff.mp hy).1
    simp only [W_bind, W_pure, W_bad, W_ite, w_nil, contW_nx, contW_rt, sAsg, sExpr, sRet, sIf, FT.e2, FT.e3, eVar, gN, gIx, eFn, aCons, aNil, eCall, eTup, eLst, eM1, eM0, eMS, W_asRef, eIsi, isi_bl, isi_int, isi_str, isi_tup, asB_bl, truD_bl, cVal, cNot, cAnd, cOr, eAnd, eOr, eNot, eIf, oSome, oNone, eSlice, List.getElem?_cons_succ, List.getElem?_cons_zero, List.set_cons_succ, List.set_cons_zero, List.length_cons, List.length_nil, Nat.reduceAdd, if_true, if_false, Bool.not_true, Bool.not_false, ite_true, ite_false, reduceIte, Bool.false_eq_true, reduceCtorEq, add_ii, sub_ii, gt_ii, ge_ii, lt_ii, le_ii, eq_ii, capG_s, capG_n, capG_e, join_ss]
    refine (command_w p5' (by omega) (k5 _ _ (kc _ _ (kb _ _ en))) (by omega) (by omega) gn.1 (gc.2 y (List.mem_of_getElem? hy))).mono fun d he ⟨re, ok, nm, pe, ke⟩ => ?_
    refine ⟨re, ⟨by simp [l5], ?_, fun z hz => ?_⟩, ke, pe.up (by omega)⟩
    · rw [List.map_append, n5, List.take_succ, hy]
      simp [nm]
    · rcases List.mem_append.mp hz with q | q
      · exact o5 z q
      · simp at q; subst q; exact ok
  rintro cmds hd rd ⟨ld, nd, od⟩ kd pd e5
  rw [lv] at ld nd pd
  rw [List.take_length] at nd
  rw [ft_ref, W_bind]
  refine w_getL pd e5 ?_
  rw [W_pure]
  have up : Kp ra rd := (kb.trans kc).trans kd
  rw [w_cons]; simp only [W_bind, W_pure, W_bad, W_ite, w_nil, contW_nx, contW_rt, sAsg, sExpr, sRet, sIf, FT.e2, FT.e3, eVar, gN, gIx, eFn, aCons, aNil, eCall, eTup, eLst, eM1, eM0, eMS, W_asRef, eIsi, isi_bl, isi_int, isi_str, isi_tup, asB_bl, truD_bl, cVal, cNot, cAnd, cOr, eAnd, eOr, eNot, eIf, oSome, oNone, eSlice, List.getElem?_cons_succ, List.getElem?_cons_zero, List.set_cons_succ, List.set_cons_zero, List.length_cons, List.length_nil, Nat.reduceAdd, if_true, if_false, Bool.not_true, Bool.not_false, ite_true, ite_false, reduceIte, Bool.false_eq_true, reduceCtorEq, add_ii, sub_ii, gt_ii, ge_ii, lt_ii, le_ii, eq_ii]
  refine (marks_w pd (by omega) (up _ _ ew) lw gw (up _ _ en) (by omega) (by omega) (kd _ _ (kc _ _ eb)) (by omega)).mono fun d he ⟨marks, re, ed, nm, om, pe, ke⟩ => ?_
  subst ed
  rw [if_pos (by decide)]
  have cl : cells.length = ns.length := by rw [← nc, List.length_map]
  have ml : marks.length = ws.length := by rw [← nm, List.length_map]
  refine ⟨cells, cmds, marks, b, re, rfl, ⟨by omega, by omega, oc, by rw [nc]; exact gn.1, by omega, by rw [nc]; exact od, by rw [nd]; exact gc.1, by omega, by rw [nc, nd]; exact om, by rw [nm]; exact gw.1⟩, pe.up (by omega)⟩
theorem is_tn : fIs true (.bl true) (.bl true) = pure (.bl false) := rfl
theorem is_ty : fIs false (.bl true) (.bl true) = pure (.bl true) := rfl
theorem math0 {ns : List Int} (hn : ns.length ≤ 63) : W (m_law [.fl (ns.map .int)]) [] (fun d _ => d = .bl true) := by
  refine w_run ?_
  show W (b_law [some (.fl (ns.map .int)), none, none, none, none]) [] _
  unfold b_law
  rw [w_cons]; simp only [W_bind, W_pure, W_bad, W_ite, w_nil, contW_nx, contW_rt, sAsg, sExpr, sRet, sIf, FT.e2, FT.e3, eVar, gN, gIx, eFn, aCons, aNil, eCall, eTup, eLst, eM1, eM0, eMS, W_asRef, eIsi, isi_bl, isi_int, isi_str, isi_tup, asB_bl, truD_bl, cVal, cNot, cAnd, cOr, eAnd, eOr, eNot, eIf, oSome, oNone, eSlice, List.getElem?_cons_succ, List.getElem?_cons_zero, List.set_cons_succ, List.set_cons_zero, List.length_cons, List.length_nil, Nat.reduceAdd, if_true, if_false, Bool.not_true, Bool.not_false, ite_true, ite_false, reduceIte, Bool.false_eq_true, reduceCtorEq, add_ii, sub_ii, gt_ii, ge_ii, lt_ii, le_ii, eq_ii]
  refine (law_pool hn).mono fun d h1 ⟨ed, p1⟩ => ?_
  subst ed
  rw [w_cons]; simp only [W_bind, W_pure, W_bad, W_ite, w_nil, contW_nx, contW_rt, sAsg, sExpr, sRet, sIf, FT.e2, FT.e3, eVar, gN, gIx, eFn, aCons, aNil, eCall, eTup, eLst, eM1, eM0, eMS, W_asRef, eIsi, isi_bl, isi_int, isi_str, isi_tup, asB_bl, truD_bl, cVal, cNot, cAnd, cOr, eAnd, eOr, eNot, eIf, oSome, oNone, eSlice, List.getElem?_cons_succ, List.getElem?_cons_zero, List.set_cons_succ, List.set_cons_zero, List.length_cons, List.length_nil, Nat.reduceAdd, if_true, if_false, Bool.not_true, Bool.not_false, ite_true, ite_false, reduceIte, Bool.false_eq_true, reduceCtorEq, add_ii, sub_ii, gt_ii, ge_ii, lt_ii, le_ii, eq_ii]
  refine (program_w (room := 6561) (cm := 8) (mk := 8) p1 (by decide) (by decide) (by decide) (by decide) (by decide) (by decide) (by decide)).mono fun d h2 ⟨cells, cmds, marks, b, r2, ed, o2, p2⟩ => ?_
  subst ed
  rw [w_cons]; simp only [W_bind, W_pure, W_bad, W_ite, w_nil, contW_nx, contW_rt, sAsg, sExpr, sRet, sIf, FT.e2, FT.e3, eVar, gN, gIx, eFn, aCons, aNil, eCall, eTup, eLst, eM1, eM0, eMS, W_asRef, eIsi, isi_bl, isi_int, isi_str, isi_tup, asB_bl, truD_bl, cVal, cNot, cAnd, cOr, eAnd, eOr, eNot, eIf, oSome, oNone, eSlice, List.getElem?_cons_succ, List.getElem?_cons_zero, List.set_cons_succ, List.set_cons_zero, List.length_cons, List.length_nil, Nat.reduceAdd, if_true, if_false, Bool.not_true, Bool.not_false, ite_true, ite_false, reduceIte, Bool.false_eq_true, reduceCtorEq, add_ii, sub_ii, gt_ii, ge_ii, lt_ii, le_ii, eq_ii]
  refine (program_w (room := 9) (cm := 2) (mk := 1) p2 (by decide) (by decide) (by decide) (by decide) (by decide) (by decide) (by decide)).mono fun d h3 ⟨cells', cmds', marks', b', r3, ed, o3, p3⟩ => ?_
  subst ed
  have x0 : fIx (prD cells cmds marks b) (.int 0) = pure (.tup cells) := ix_tup rfl
  have x1 : fIx (prD cells cmds marks b) (.int 1) = pure (.tup cmds) := ix_tup rfl
  have x3 : fIx (prD cells cmds marks b) (.int 3) = pure (.bl b) := ix_tup rfl
  rw [w_cons]; simp only [W_bind, W_pure, W_bad, W_ite, w_nil, contW_nx, contW_rt, sAsg, sExpr, sRet, sIf, FT.e2, FT.e3, eVar, gN, gIx, eFn, aCons, aNil, eCall, eTup, eLst, eM1, eM0, eMS, W_asRef, eIsi, isi_bl, isi_int, isi_str, isi_tup, asB_bl, truD_bl, cVal, cNot, cAnd, cOr, eAnd, eOr, eNot, eIf, oSome, oNone, eSlice, List.getElem?_cons_succ, List.getElem?_cons_zero, List.set_cons_succ, List.set_cons_zero, List.length_cons, List.length_nil, Nat.reduceAdd, if_true, if_false, Bool.not_true, Bool.not_false, ite_true, ite_false, reduceIte, Bool.false_eq_true, reduceCtorEq, add_ii, sub_ii, gt_ii, ge_ii, lt_ii, le_ii, eq_ii, x0, x1, x3]
  rw [if_pos (by decide), if_pos (by decide)]
  rw [show D.tup [.tup cells, .tup cmds, .tup [], .bl (!b)] = prD cells cmds [] (!b) from rfl]
  rw [w_cons]; simp only [W_bind, W_pure, W_bad, W_ite, w_nil, contW_nx, contW_rt, sAsg, sExpr, sRet, sIf, FT.e2, FT.e3, eVar, gN, gIx, eFn, aCons, aNil, eCall, eTup, eLst, eM1, eM0, eMS, W_asRef, eIsi, isi_bl, isi_int, isi_str, isi_tup, asB_bl, truD_bl, cVal, cNot, cAnd, cOr, eAnd, eOr, eNot, eIf, oSome, oNone, eSlice, List.getElem?_cons_succ, List.getElem?_cons_zero, List.set_cons_succ, List.set_cons_zero, List.length_cons, List.length_nil, Nat.reduceAdd, if_true, if_false, Bool.not_true, Bool.not_false, ite_true, ite_false, reduceIte, Bool.false_eq_true, reduceCtorEq, add_ii, sub_ii, gt_ii, ge_ii, lt_ii, le_ii, eq_ii]
  refine W.pu (check_pu o2) fun j4 => ?_
  rw [is_tn, W_pure, asB_bl, W_pure]
  simp only [W_bind, W_pure, W_bad, W_ite, w_nil, contW_nx, contW_rt, sAsg, sExpr, sRet, sIf, FT.e2, FT.e3, eVar, gN, gIx, eFn, aCons, aNil, eCall, eTup, eLst, eM1, eM0, eMS, W_asRef, eIsi, isi_bl, isi_int, isi_str, isi_tup, asB_bl, truD_bl, cVal, cNot, cAnd, cOr, eAnd, eOr, eNot, eIf, oSome, oNone, eSlice, List.getElem?_cons_succ, List.getElem?_cons_zero, List.set_cons_succ, List.set_cons_zero, List.length_cons, List.length_nil, Nat.reduceAdd, if_true, if_false, Bool.not_true, Bool.not_false, ite_true, ite_false, reduceIte, Bool.false_eq_true, reduceCtorEq, add_ii, sub_ii, gt_ii, ge_ii, lt_ii, le_ii, eq_ii]
  refine W.pu (check_pu o3) fun j5 => ?_
  rw [is_tn, W_pure, asB_bl, W_pure]
  simp only [W_bind, W_pure, W_bad, W_ite, w_nil, contW_nx, contW_rt, sAsg, sExpr, sRet, sIf, FT.e2, FT.e3, eVar, gN, gIx, eFn, aCons, aNil, eCall, eTup, eLst, eM1, eM0, eMS, W_asRef, eIsi, isi_bl, isi_int, isi_str, isi_tup, asB_bl, truD_bl, cVal, cNot, cAnd, cOr, eAnd, eOr, eNot, eIf, oSome, oNone, eSlice, List.getElem?_cons_succ, List.getElem?_cons_zero, List.set_cons_succ, List.set_cons_zero, List.length_cons, List.length_nil, Nat.reduceAdd, if_true, if_false, Bool.not_true, Bool.not_false, ite_true, ite_false, reduceIte, Bool.false_eq_true, reduceCtorEq, add_ii, sub_ii, gt_ii, ge_ii, lt_ii, le_ii, eq_ii]
  refine W.pu (check_pu o2.about) fun j6 => ?_
  rw [is_tn, W_pure, asB_bl, W_pure]
  simp only [W_bind, W_pure, W_bad, W_ite, w_nil, contW_nx, contW_rt, sAsg, sExpr, sRet, sIf, FT.e2, FT.e3, eVar, gN, gIx, eFn, aCons, aNil, eCall, eTup, eLst, eM1, eM0, eMS, W_asRef, eIsi, isi_bl, isi_int, isi_str, isi_tup, asB_bl, truD_bl, cVal, cNot, cAnd, cOr, eAnd, eOr, eNot, eIf, oSome, oNone, eSlice, List.getElem?_cons_succ, List.getElem?_cons_zero, List.set_cons_succ, List.set_cons_zero, List.length_cons, List.length_nil, Nat.reduceAdd, if_true, if_false, Bool.not_true, Bool.not_false, ite_true, ite_false, reduceIte, Bool.false_eq_true, reduceCtorEq, add_ii, sub_ii, gt_ii, ge_ii, lt_ii, le_ii, eq_ii]
  rw [w_cons]; simp only [W_bind, W_pure, W_bad, W_ite, w_nil, contW_nx, contW_rt, sAsg, sExpr, sRet, sIf, FT.e2, FT.e3, eVar, gN, gIx, eFn, aCons, aNil, eCall, eTup, eLst, eM1, eM0, eMS, W_asRef, eIsi, isi_bl, isi_int, isi_str, isi_tup, asB_bl, truD_bl, cVal, cNot, cAnd, cOr, eAnd, eOr, eNot, eIf, oSome, oNone, eSlice, List.getElem?_cons_succ, List.getElem?_cons_zero, List.set_cons_succ, List.set_cons_zero, List.length_cons, List.length_nil, Nat.reduceAdd, if_true, if_false, Bool.not_true, Bool.not_false, ite_true, ite_false, reduceIte, Bool.false_eq_true, reduceCtorEq, add_ii, sub_ii, gt_ii, ge_ii, lt_ii, le_ii, eq_ii]
  refine W.pu (check_pu o2) fun j7 => ?_
  rw [is_ty, W_pure]
  rfl
theorem math : ∀ ns : List Int, ns.length ≤ 63 → ∃ h', m_law [.fl (ns.map .int)] [] = .ok (.bl true) h' := fun ns hn => by
  obtain ⟨d, h', e, ed⟩ := math0 hn
  exact ⟨h', by rw [e, ed]⟩
end FT
set_option Elab.async false
set_option linter.all false
set_option maxRecDepth 100000
set_option maxHeartbeats 4000000
namespace FT
open PySem PySem.Spec PyProof.Rows L2
theorem okL_law {P : Program} {w : World} {K : PySem.W.Frag} {mg : Str → Option Value} {base : Heap} {f : Addr} {fd : FuncData} (F : Fun K "law" "law" (top 42) f fd) (F__law_pool : Fn P w K mg base 1 "_law_pool" 1 m__law_pool) (F__law_program : Fn P w K mg base 6 "_law_program" 4 m__law_program) (F_check : Fn P w K mg base 8 "check" 1 m_check) : FnOk P w K mg base CX0 9 f fd ["_law_script"] (spB K m_law 1) :=
  fn_ok F sc_law rfl fun cdv A outer s H E hr => (show SB (cxOf CX0 P w K mg base ["_law_script", "_law_pool_here", "_law_one", "_law_other", "_law_turned_about"] "law" (defScope (top 42)) f cdv A outer s H E).nox EX0 (defBody (top 42)) b_law from
    have nd : (["_law_script", "_law_pool_here", "_law_one", "_law_other", "_law_turned_about"] : List Str).Nodup := sc_law.nd
    (sb_cons (s_set 1 nd (se_call F__law_pool (hr.mono (by decide)) rfl (sa_cons (se_var 0) sa_nil))) (sb_cons (s_set 2 nd (se_call F__law_program (hr.mono (by decide)) rfl (sa_cons (se_var 1) (sa_cons se_int (sa_cons se_int (sa_cons se_int sa_nil)))))) (sb_cons (s_set 3 nd (se_call F__law_program (hr.mono (by decide)) rfl (sa_cons (se_var 1) (sa_cons se_int (sa_cons se_int (sa_cons se_int sa_nil)))))) (sb_cons (s_set 4 nd (se_tup (sa_cons (se_ix (se_var 2) se_int) (sa_cons (se_ix (se_var 2) se_int) (sa_cons (se_tup sa_nil) (sa_cons (se_bnot (se_ix (se_var 2) se_int)) sa_nil)))))) (sb_cons (s_if (SW.sc (sw_or (sc_c co_isnot (se_call F_check (hr.mono (by decide)) rfl (sa_cons (se_var 2) sa_nil)) se_bl) (sw_or (sc_c co_isnot (se_call F_check (hr.mono (by decide)) rfl (sa_cons (se_var 3) sa_nil)) se_bl) (sw_or1 (sc_c co_isnot (se_call F_check (hr.mono (by decide)) rfl (sa_cons (se_var 4) sa_nil)) se_bl))))) (sb_cons (s_ret se_bl) sb_nil) sb_nil) (sb_cons (s_ret (se_c co_is (se_call F_check (hr.mono (by decide)) rfl (sa_cons (se_var 2) sa_nil)) se_bl)) sb_nil)))))))
end FT
open PySem PySem.W PyProof.Rows
set_option maxRecDepth 100000 in
set_option maxHeartbeats 0 in
theorem PySem.Challenge.cw_fairtrees_k05_programs_taken_holds : PySem.Challenge.rw_fairtrees_k05_programs_taken.Holds := by
  w_on; o_law; k_head; (case hw => w_witness2)
  k_fill
  refine FT.law_walk (l := PySem.Challenge.rw_fairtrees_k05_programs_taken) (lev := 9) (p := "_law_script") (m := FT.m_law) rfl rfl ⟨rfl, by decide, by decide⟩ (fun w h Y => PySem.W.kIn_of Y) ?F FT.math
  case F =>
    intro w mg fa h KX G hmg
    have T_is_number : FT.DefAt (L2.KOf KX) "is_number" (FT.top 6) := by
      dsimp only [L2.KOf]
      refine' FT.defAt_mk ?a ?l ?c ?k
      (case a => k_is); (case l => k_is); (case c => k_is); (case k => k_is)
    have T_is_number_from : FT.DefAt (L2.KOf KX) "is_number_from" (FT.top 7) := by
      dsimp only [L2.KOf]
      refine' FT.defAt_mk ?a ?l ?c ?k
      (case a => k_is); (case l => k_is); (case c => k_is); (case k => k_is)
    have T_is_truth : FT.DefAt (L2.KOf KX) "is_truth" (FT.top 8) := by
      dsimp only [L2.KOf]
      refine' FT.defAt_mk ?a ?l ?c ?k
      (case a => k_is); (case l => k_is); (case c => k_is); (case k => k_is)
    have T_is_text : FT.DefAt (L2.KOf KX) "is_text" (FT.top 9) := by
      dsimp only [L2.KOf]
      refine' FT.defAt_mk ?a ?l ?c ?k
      (case a => k_is); (case l => k_is); (case c => k_is); (case k => k_is)
    have T_is_text_of : FT.DefAt (L2.KOf KX) "is_text_of" (FT.top 10) := by
      dsimp only [L2.KOf]
      refine' FT.defAt_mk ?a ?l ?c ?k
      (case a => k_is); (case l => k_is); (case c => k_is); (case k => k_is)
    have T_is_name : FT.DefAt (L2.KOf KX) "is_name" (FT.top 11) := by
      dsimp only [L2.KOf]
      refine' FT.defAt_mk ?a ?l ?c ?k
      (case a => k_is); (case l => k_is); (case c => k_is); (case k => k_is)
    have T_is_tuple : FT.DefAt (L2.KOf KX) "is_tuple" (FT.top 12) := by
      dsimp only [L2.KOf]
      refine' FT.defAt_mk ?a ?l ?c ?k
      (case a => k_is); (case l => k_is); (case c => k_is); (case k => k_is)
    have T_is_tuple_of : FT.DefAt (L2.KOf KX) "is_tuple_of" (FT.top 13) := by
      dsimp only [L2.KOf]
      refine' FT.defAt_mk ?a ?l ?c ?k
      (case a => k_is); (case l => k_is); (case c => k_is); (case k => k_is)
    have T_names_of : FT.DefAt (L2.KOf KX) "names_of" (FT.top 18) := by
      dsimp only [L2.KOf]
      refine' FT.defAt_mk ?a ?l ?c ?k
      (case a => k_is); (case l => k_is); (case c => k_is); (case k => k_is)
    have T_are_unlike : FT.DefAt (L2.KOf KX) "are_unlike" (FT.top 19) := by
      dsimp only [L2.KOf]
      refine' FT.defAt_mk ?a ?l ?c ?k
      (case a => k_is); (case l => k_is); (case c => k_is); (case k => k_is)
    have T_is_worth : FT.DefAt (L2.KOf KX) "is_worth" (FT.top 26) := by
      dsimp only [L2.KOf]
      refine' FT.defAt_mk ?a ?l ?c ?k
      (case a => k_is); (case l => k_is); (case c => k_is); (case k => k_is)
    have T_is_test : FT.DefAt (L2.KOf KX) "is_test" (FT.top 24) := by
      dsimp only [L2.KOf]
      refine' FT.defAt_mk ?a ?l ?c ?k
      (case a => k_is); (case l => k_is); (case c => k_is); (case k => k_is)
    have T_is_asking : FT.DefAt (L2.KOf KX) "is_asking" (FT.top 29) := by
      dsimp only [L2.KOf]
      refine' FT.defAt_mk ?a ?l ?c ?k
      (case a => k_is); (case l => k_is); (case c => k_is); (case k => k_is)
    have T_is_mark : FT.DefAt (L2.KOf KX) "is_mark" (FT.top 28) := by
      dsimp only [L2.KOf]
      refine' FT.defAt_mk ?a ?l ?c ?k
      (case a => k_is); (case l => k_is); (case c => k_is); (case k => k_is)
    have T_are_marks : FT.DefAt (L2.KOf KX) "are_marks" (FT.top 27) := by
      dsimp only [L2.KOf]
      refine' FT.defAt_mk ?a ?l ?c ?k
      (case a => k_is); (case l => k_is); (case c => k_is); (case k => k_is)
    have T_is_put : FT.DefAt (L2.KOf KX) "is_put" (FT.top 25) := by
      dsimp only [L2.KOf]
      refine' FT.defAt_mk ?a ?l ?c ?k
      (case a => k_is); (case l => k_is); (case c => k_is); (case k => k_is)
    have T_is_command : FT.DefAt (L2.KOf KX) "is_command" (FT.top 23) := by
      dsimp only [L2.KOf]
      refine' FT.defAt_mk ?a ?l ?c ?k
      (case a => k_is); (case l => k_is); (case c => k_is); (case k => k_is)
    have T_are_commands : FT.DefAt (L2.KOf KX) "are_commands" (FT.top 22) := by
      dsimp only [L2.KOf]
      refine' FT.defAt_mk ?a ?l ?c ?k
      (case a => k_is); (case l => k_is); (case c => k_is); (case k => k_is)
    have T_is_cell : FT.DefAt (L2.KOf KX) "is_cell" (FT.top 21) := by
      dsimp only [L2.KOf]
      refine' FT.defAt_mk ?a ?l ?c ?k
      (case a => k_is); (case l => k_is); (case c => k_is); (case k => k_is)
    have T_are_cells : FT.DefAt (L2.KOf KX) "are_cells" (FT.top 20) := by
      dsimp only [L2.KOf]
      refine' FT.defAt_mk ?a ?l ?c ?k
      (case a => k_is); (case l => k_is); (case c => k_is); (case k => k_is)
    have T_is_program : FT.DefAt (L2.KOf KX) "is_program" (FT.top 17) := by
      dsimp only [L2.KOf]
      refine' FT.defAt_mk ?a ?l ?c ?k
      (case a => k_is); (case l => k_is); (case c => k_is); (case k => k_is)
    have T_check : FT.DefAt (L2.KOf KX) "check" (FT.top 16) := by
      dsimp only [L2.KOf]
      refine' FT.defAt_mk ?a ?l ?c ?k
      (case a => k_is); (case l => k_is); (case c => k_is); (case k => k_is)
    have T__law_pool : FT.DefAt (L2.KOf KX) "_law_pool" (FT.top 31) := by
      dsimp only [L2.KOf]
      refine' FT.defAt_mk ?a ?l ?c ?k
      (case a => k_is); (case l => k_is); (case c => k_is); (case k => k_is)
    have T__law_draw : FT.DefAt (L2.KOf KX) "_law_draw" (FT.top 32) := by
      dsimp only [L2.KOf]
      refine' FT.defAt_mk ?a ?l ?c ?k
      (case a => k_is); (case l => k_is); (case c => k_is); (case k => k_is)
    have T__law_name : FT.DefAt (L2.KOf KX) "_law_name" (FT.top 33) := by
      dsimp only [L2.KOf]
      refine' FT.defAt_mk ?a ?l ?c ?k
      (case a => k_is); (case l => k_is); (case c => k_is); (case k => k_is)
    have T__law_names : FT.DefAt (L2.KOf KX) "_law_names" (FT.top 34) := by
      dsimp only [L2.KOf]
      refine' FT.defAt_mk ?a ?l ?c ?k
      (case a => k_is); (case l => k_is); (case c => k_is); (case k => k_is)
    have T__law_worth : FT.DefAt (L2.KOf KX) "_law_worth" (FT.top 35) := by
      dsimp only [L2.KOf]
      refine' FT.defAt_mk ?a ?l ?c ?k
      (case a => k_is); (case l => k_is); (case c => k_is); (case k => k_is)
    have T__law_test : FT.DefAt (L2.KOf KX) "_law_test" (FT.top 36) := by
      dsimp only [L2.KOf]
      refine' FT.defAt_mk ?a ?l ?c ?k
      (case a => k_is); (case l => k_is); (case c => k_is); (case k => k_is)
    have T__law_cells : FT.DefAt (L2.KOf KX) "_law_cells" (FT.top 37) := by
      dsimp only [L2.KOf]
      refine' FT.defAt_mk ?a ?l ?c ?k
      (case a => k_is); (case l => k_is); (case c => k_is); (case k => k_is)
    have T__law_command : FT.DefAt (L2.KOf KX) "_law_command" (FT.top 38) := by
      dsimp only [L2.KOf]
      refine' FT.defAt_mk ?a ?l ?c ?k
      (case a => k_is); (case l => k_is); (case c => k_is); (case k => k_is)
    have T__law_ask : FT.DefAt (L2.KOf KX) "_law_ask" (FT.top 39) := by
      dsimp only [L2.KOf]
      refine' FT.defAt_mk ?a ?l ?c ?k
      (case a => k_is); (case l => k_is); (case c => k_is); (case k => k_is)
    have T__law_marks : FT.DefAt (L2.KOf KX) "_law_marks" (FT.top 40) := by
      dsimp only [L2.KOf]
      refine' FT.defAt_mk ?a ?l ?c ?k
      (case a => k_is); (case l => k_is); (case c => k_is); (case k => k_is)
    have T__law_program : FT.DefAt (L2.KOf KX) "_law_program" (FT.top 41) := by
      dsimp only [L2.KOf]
      refine' FT.defAt_mk ?a ?l ?c ?k
      (case a => k_is); (case l => k_is); (case c => k_is); (case k => k_is)
    have T_law : FT.DefAt (L2.KOf KX) "law" (FT.top 42) := by
      dsimp only [L2.KOf]
      refine' FT.defAt_mk ?a ?l ?c ?k
      (case a => k_is); (case l => k_is); (case c => k_is); (case k => k_is)
    have z_bool : mg "bool" = none := PySem.W.mg_none_of KX G (by k_is)
    have z_int : mg "int" = none := PySem.W.mg_none_of KX G (by k_is)
    have z_isinstance : mg "isinstance" = none := PySem.W.mg_none_of KX G (by k_is)
    have z_str : mg "str" = none := PySem.W.mg_none_of KX G (by k_is)
    have z_all : mg "all" = none := PySem.W.mg_none_of KX G (by k_is)
    have z_len : mg "len" = none := PySem.W.mg_none_of KX G (by k_is)
    have z_tuple : mg "tuple" = none := PySem.W.mg_none_of KX G (by k_is)
    have z_set : mg "set" = none := PySem.W.mg_none_of KX G (by k_is)
    have z_range : mg "range" = none := PySem.W.mg_none_of KX G (by k_is)
    have z_min : mg "min" = none := PySem.W.mg_none_of KX G (by k_is)
    have C_KEPT : FT.Cst (L2.KOf KX) mg "KEPT" FT.c_KEPT := by
      dsimp only [L2.KOf]
      refine' FT.cst_tup (PySem.W.mg_of KX G ?a) ?l ?r ?z
      (case a => k_is); (case l => k_is); (case r => first | rfl | decide +kernel); (case z => decide +kernel)
    have C_LONGEST : FT.Cst (L2.KOf KX) mg "LONGEST" FT.c_LONGEST := by
      dsimp only [L2.KOf]
      refine' FT.cst_int (PySem.W.mg_of KX G ?a)
      (case a => k_is)
    have C_TESTED : FT.Cst (L2.KOf KX) mg "TESTED" FT.c_TESTED := by
      dsimp only [L2.KOf]
      refine' FT.cst_tup (PySem.W.mg_of KX G ?a) ?l ?r ?z
      (case a => k_is); (case l => k_is); (case r => first | rfl | decide +kernel); (case z => decide +kernel)
    obtain ⟨f, fd, hf, F⟩ := T_law
    have e := hmg.symm.trans (PySem.W.mg_of KX G hf)
    cases e
    refine ⟨fd, FT.bindsTo1 F (fun _ _ _ _ _ _ _ => rfl), fun base _ _ => ?_⟩
    have F_is_number := FT.ok_is_number (P := PySem.Challenge.rw_fairtrees_k05_programs_taken.prog) (w := w) (base := base) T_is_number (fun v e => PySem.W.mg_of KX G e) z_bool z_int z_isinstance
    have F_is_number_from := FT.ok_is_number_from (P := PySem.Challenge.rw_fairtrees_k05_programs_taken.prog) (w := w) (base := base) T_is_number_from (fun v e => PySem.W.mg_of KX G e) F_is_number
    have F_is_truth := FT.ok_is_truth (P := PySem.Challenge.rw_fairtrees_k05_programs_taken.prog) (w := w) (base := base) T_is_truth (fun v e => PySem.W.mg_of KX G e)
    have F_is_text := FT.ok_is_text (P := PySem.Challenge.rw_fairtrees_k05_programs_taken.prog) (w := w) (base := base) T_is_text (fun v e => PySem.W.mg_of KX G e) z_isinstance z_str
    have F_is_text_of := FT.ok_is_text_of (P := PySem.Challenge.rw_fairtrees_k05_programs_taken.prog) (w := w) (base := base) T_is_text_of (fun v e => PySem.W.mg_of KX G e) F_is_text
    have F_is_name := FT.ok_is_name (P := PySem.Challenge.rw_fairtrees_k05_programs_taken.prog) (w := w) (base := base) T_is_name (fun v e => PySem.W.mg_of KX G e) C_KEPT C_LONGEST z_all z_len F_is_text
    have F_is_tuple := FT.ok_is_tuple (P := PySem.Challenge.rw_fairtrees_k05_programs_taken.prog) (w := w) (base := base) T_is_tuple (fun v e => PySem.W.mg_of KX G e) z_isinstance z_tuple
    have F_is_tuple_of := FT.ok_is_tuple_of (P := PySem.Challenge.rw_fairtrees_k05_programs_taken.prog) (w := w) (base := base) T_is_tuple_of (fun v e => PySem.W.mg_of KX G e) z_len F_is_tuple
    have F_names_of := FT.ok_names_of (P := PySem.Challenge.rw_fairtrees_k05_programs_taken.prog) (w := w) (base := base) T_names_of (fun v e => PySem.W.mg_of KX G e) z_tuple
    have F_are_unlike := FT.ok_are_unlike (P := PySem.Challenge.rw_fairtrees_k05_programs_taken.prog) (w := w) (base := base) T_are_unlike (fun v e => PySem.W.mg_of KX G e) z_len z_set
    have F_is_worth := FT.ok_is_worth (P := PySem.Challenge.rw_fairtrees_k05_programs_taken.prog) (w := w) (base := base) T_is_worth (fun v e => PySem.W.mg_of KX G e) F_is_number_from F_is_text_of F_is_tuple_of
    have F_is_test := FT.ok_is_test (P := PySem.Challenge.rw_fairtrees_k05_programs_taken.prog) (w := w) (base := base) T_is_test (fun v e => PySem.W.mg_of KX G e) C_TESTED F_is_text_of F_is_tuple_of F_is_worth
    have F_is_asking := FT.ok_is_asking (P := PySem.Challenge.rw_fairtrees_k05_programs_taken.prog) (w := w) (base := base) T_is_asking (fun v e => PySem.W.mg_of KX G e) F_is_text_of F_is_tuple_of
    have F_is_mark := FT.ok_is_mark (P := PySem.Challenge.rw_fairtrees_k05_programs_taken.prog) (w := w) (base := base) T_is_mark (fun v e => PySem.W.mg_of KX G e) z_all F_is_asking F_is_name F_is_test F_is_tuple_of
    have F_are_marks := FT.ok_are_marks (P := PySem.Challenge.rw_fairtrees_k05_programs_taken.prog) (w := w) (base := base) T_are_marks (fun v e => PySem.W.mg_of KX G e) z_all F_are_unlike F_is_mark F_is_tuple_of F_names_of
    have F_is_put := FT.ok_is_put (P := PySem.Challenge.rw_fairtrees_k05_programs_taken.prog) (w := w) (base := base) T_is_put (fun v e => PySem.W.mg_of KX G e) F_is_text_of F_is_tuple_of F_is_worth
    have F_is_command := FT.ok_is_command (P := PySem.Challenge.rw_fairtrees_k05_programs_taken.prog) (w := w) (base := base) T_is_command (fun v e => PySem.W.mg_of KX G e) z_all F_are_unlike F_is_name F_is_put F_is_test F_is_tuple_of F_names_of
    have F_are_commands := FT.ok_are_commands (P := PySem.Challenge.rw_fairtrees_k05_programs_taken.prog) (w := w) (base := base) T_are_commands (fun v e => PySem.W.mg_of KX G e) z_all F_are_unlike F_is_command F_is_tuple_of F_names_of
    have F_is_cell := FT.ok_is_cell (P := PySem.Challenge.rw_fairtrees_k05_programs_taken.prog) (w := w) (base := base) T_is_cell (fun v e => PySem.W.mg_of KX G e) F_is_name F_is_number_from F_is_tuple_of
    have F_are_cells := FT.ok_are_cells (P := PySem.Challenge.rw_fairtrees_k05_programs_taken.prog) (w := w) (base := base) T_are_cells (fun v e => PySem.W.mg_of KX G e) z_all F_are_unlike F_is_cell F_is_tuple_of F_names_of
    have F_is_program := FT.ok_is_program (P := PySem.Challenge.rw_fairtrees_k05_programs_taken.prog) (w := w) (base := base) T_is_program (fun v e => PySem.W.mg_of KX G e) F_are_cells F_are_commands F_are_marks F_is_truth F_is_tuple_of F_names_of
    have F_check := FT.ok_check (P := PySem.Challenge.rw_fairtrees_k05_programs_taken.prog) (w := w) (base := base) T_check (fun v e => PySem.W.mg_of KX G e) F_is_program
    have F__law_pool := FT.ok__law_pool (P := PySem.Challenge.rw_fairtrees_k05_programs_taken.prog) (w := w) (base := base) T__law_pool (fun v e => PySem.W.mg_of KX G e)
    have F__law_draw := FT.ok__law_draw (P := PySem.Challenge.rw_fairtrees_k05_programs_taken.prog) (w := w) (base := base) T__law_draw (fun v e => PySem.W.mg_of KX G e) z_len
    have F__law_name := FT.ok__law_name (P := PySem.Challenge.rw_fairtrees_k05_programs_taken.prog) (w := w) (base := base) T__law_name (fun v e => PySem.W.mg_of KX G e) z_range F__law_draw
    have F__law_names := FT.ok__law_names (P := PySem.Challenge.rw_fairtrees_k05_programs_taken.prog) (w := w) (base := base) T__law_names (fun v e => PySem.W.mg_of KX G e) z_range F__law_draw F__law_name
    have F__law_worth := FT.ok__law_worth (P := PySem.Challenge.rw_fairtrees_k05_programs_taken.prog) (w := w) (base := base) T__law_worth (fun v e => PySem.W.mg_of KX G e) z_len F__law_draw
    have F__law_test := FT.ok__law_test (P := PySem.Challenge.rw_fairtrees_k05_programs_taken.prog) (w := w) (base := base) T__law_test (fun v e => PySem.W.mg_of KX G e) z_len F__law_draw F__law_worth
    have F__law_cells := FT.ok__law_cells (P := PySem.Challenge.rw_fairtrees_k05_programs_taken.prog) (w := w) (base := base) T__law_cells (fun v e => PySem.W.mg_of KX G e) z_min z_tuple F__law_draw
    have F__law_command := FT.ok__law_command (P := PySem.Challenge.rw_fairtrees_k05_programs_taken.prog) (w := w) (base := base) T__law_command (fun v e => PySem.W.mg_of KX G e) z_len z_range z_tuple F__law_draw F__law_test F__law_worth
    have F__law_ask := FT.ok__law_ask (P := PySem.Challenge.rw_fairtrees_k05_programs_taken.prog) (w := w) (base := base) T__law_ask (fun v e => PySem.W.mg_of KX G e) z_int z_len F__law_draw F__law_test
    have F__law_marks := FT.ok__law_marks (P := PySem.Challenge.rw_fairtrees_k05_programs_taken.prog) (w := w) (base := base) T__law_marks (fun v e => PySem.W.mg_of KX G e) z_range z_tuple F__law_ask F__law_draw
    have F__law_program := FT.ok__law_program (P := PySem.Challenge.rw_fairtrees_k05_programs_taken.prog) (w := w) (base := base) T__law_program (fun v e => PySem.W.mg_of KX G e) z_tuple F__law_cells F__law_command F__law_draw F__law_marks F__law_names
    exact FT.okL_law F F__law_pool F__law_program F_check
