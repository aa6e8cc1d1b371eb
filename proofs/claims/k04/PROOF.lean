import PyProof.Rows.All
import Wide.All
import OpenK.AllK
import Wide.FinOn
import Lean
import PyProof.EqAt
import PyProof.EqKinds
import PyProof.TupleCall
import PyProof.NeKinds
import PySem.Challenge.RW_fairtrees_k04_whole_reached_and_behind
-- CHANGE: your row's module here, as the last of these rows
set_option Elab.async false
set_option linter.all false
set_option maxRecDepth 100000
/-! THE HAND LAYER, for ints, bools, texts, own classes, LISTS and tuples (index, slices, in, append, pop ..), calls, loops. Paste it whole ahead of your own text; what your proof does not reach may be deleted. -/
namespace L2
open PySem PySem.Spec PyProof.Rows

/-- a key: an int or a str -/
abbrev Key := Sum Int Str
def keyIs : Key → Value → Bool
  | .inl k, v => Value.isInt k v
  | .inr x, v => Value.isStrOf x v
def keyH (w : World) : Key → Int
  | .inl k => hashInt k
  | .inr x => hashStr w x
theorem keyIs_shape : ∀ {k : Key} {v : Value}, keyIs k v = true → (∃ i t, k = Sum.inl i ∧ v = Value.int i t) ∨ (∃ x t, k = Sum.inr x ∧ v = Value.str x t)
  | .inl i, v, h => by
    obtain ⟨t, e⟩ := Value.isInt_shape (k := i) (v := v) h
    exact .inl ⟨i, t, rfl, e⟩
  | .inr x, v, h => by
    obtain ⟨t, e⟩ := Value.isStrOf_shape (x := x) (v := v) h
    exact .inr ⟨x, t, rfl, e⟩
theorem keyIs_int (i : Int) (t : Tok) : keyIs (.inl i) (.int i t) = true := by simp [keyIs, Value.isInt]
theorem keyIs_str (x : Str) (t : Tok) : keyIs (.inr x) (.str x t) = true := by simp [keyIs, Value.isStrOf]
theorem key_ll (a b : Int) : decide ((Sum.inl a : Key) = Sum.inl b) = (a == b) := by
  by_cases e : a = b
  · subst e; simp
  · have h : ¬ (Sum.inl a : Key) = Sum.inl b := fun q => e (Sum.inl.inj q)
    rw [decide_eq_false h]
    exact (beq_eq_false_iff_ne.mpr e).symm
theorem key_rr (a b : Str) : decide ((Sum.inr a : Key) = Sum.inr b) = decide (a = b) := by
  by_cases e : a = b
  · subst e; simp
  · have h : ¬ (Sum.inr a : Key) = Sum.inr b := fun q => e (Sum.inr.inj q)
    rw [decide_eq_false h, decide_eq_false e]
theorem key_lr (a : Int) (b : Str) : decide ((Sum.inl a : Key) = Sum.inr b) = false := decide_eq_false (fun q => nomatch q)
theorem key_rl (a : Str) (b : Int) : decide ((Sum.inr a : Key) = Sum.inl b) = false := decide_eq_false (fun q => nomatch q)

def mixKind (prog : Program) (w : World) : PySem.KeyKind prog w Key where
  is := keyIs
  hash := keyH w
  inj := fun v a b ha hb => by
    rcases keyIs_shape ha with ⟨i, t, rfl, rfl⟩ | ⟨x, t, rfl, rfl⟩
    · rcases keyIs_shape hb with ⟨j, u, rfl, e⟩ | ⟨y, u, rfl, e⟩
      · injection e with e1 _; rw [e1]
      · exact nomatch e
    · rcases keyIs_shape hb with ⟨j, u, rfl, e⟩ | ⟨y, u, rfl, e⟩
      · exact nomatch e
      · injection e with e1 _; rw [e1]
  byValue := fun k v h => by
    rcases keyIs_shape h with ⟨i, t, rfl, rfl⟩ | ⟨x, t, rfl, rfl⟩ <;> rfl
  pyHash := fun hv h => by
    rcases keyIs_shape hv with ⟨i, t, rfl, rfl⟩ | ⟨x, t, rfl, rfl⟩
    · exact wpAny_pyHash_int h
    · exact wpAny_pyHash_str h
  eqBool := fun hu hv h => by
    rcases keyIs_shape hu with ⟨i, t, rfl, rfl⟩ | ⟨x, t, rfl, rfl⟩
    · rcases keyIs_shape hv with ⟨j, u, rfl, rfl⟩ | ⟨y, u, rfl, rfl⟩
      · rw [key_ll] at h; exact wpAny_eqBool_int h
      · rw [key_lr] at h; exact SeqAt.EqAt.int_str i t y u _ _ _ _ h
    · rcases keyIs_shape hv with ⟨j, u, rfl, rfl⟩ | ⟨y, u, rfl, rfl⟩
      · rw [key_rl] at h; exact SeqAt.EqAt.str_int x t j u _ _ _ _ h
      · rw [key_rr] at h; exact wpAny_eqBool_str h
  «strs» := fun k x t v h => by
    rcases keyIs_shape h with ⟨i, u, rfl, e⟩ | ⟨y, u, rfl, e⟩
    · exact nomatch e
    · injection e with e1 _
      subst e1
      cases v <;> rfl

theorem mixKind_is (prog : Program) (w : World) (k : Key) (v : Value) : (mixKind prog w).is k v = keyIs k v := rfl
theorem mixKind_int (prog : Program) (w : World) (i : Int) (t : Tok) : (mixKind prog w).is (.inl i) (.int i t) = true := keyIs_int i t
theorem mixKind_str (prog : Program) (w : World) (x : Str) (t : Tok) : (mixKind prog w).is (.inr x) (.str x t) = true := keyIs_str x t
end L2
namespace FT
open PySem PySem.Spec PyProof.Rows L2
abbrev Rise (xs : Array Nat) : Prop := xs.toList.Pairwise (· < ·)
instance keyMem (k : Key) (ks : List Key) : Decidable (k ∈ ks) := @List.instDecidableMemOfLawfulBEq Key instBEqOfDecidableEq inferInstance k ks
section
variable (w : World)
def KE (k : Key) (e : Int × Value) : Prop := keyIs k e.2 = true ∧ e.1 = keyH w k
def SetAt (h : Heap) (a : Addr) (ks : List Key) : Prop :=
  ∃ o es ep t ks', h.get? a = some o ∧ o.ExactSet ∧ o.data = .set es ep t ∧ Paired (KE w) ks' es.toList ∧ ks'.Perm ks ∧ ks.Nodup ∧ es.size < scanBound ∧ t.fits es.size = true ∧ Rise t.place ∧
    (t.led = true ∨ w.params.followText "set-order" = true)
end
end FT

namespace L2
open PySem PySem.Spec PyProof.Rows

/-- a value, without the heap -/
inductive V where
  | non | bl (b : Bool) | int (i : Int) | str (x : Str) | byt (b : Array UInt8) | flt (b : UInt64) | ref (a : Addr) | ty (n : String)
  deriving DecidableEq

def RelV : V → Value → Prop
  | .non, u => u = Value.none
  | .bl b, u => u = Value.bool b
  | .int i, u => ∃ t, u = Value.int i t
  | .str x, u => ∃ t, u = Value.str x t
  | .byt b, u => ∃ t, u = Value.bytes b t
  | .flt b, u => ∃ t, u = Value.float b t
  | .ref a, u => u = Value.ref a
  | .ty n, u => u = Value.type n

abbrev Vals : List V → List Value → Prop := Paired RelV
theorem Vals.length {xs : List V} {us : List Value} (r : Vals xs us) : xs.length = us.length := Paired.length r
theorem Vals.get : ∀ {xs : List V} {us : List Value} {i : Nat} {x : V}, Vals xs us → xs[i]? = some x → ∃ u, us[i]? = some u ∧ RelV x u
  | _, _, _, _, .nil, e => by simp at e
  | _, _, 0, _, .cons r _, e => by simp at e; subst e; exact ⟨_, rfl, r⟩
  | _, _, i + 1, x, .cons _ t, e => by
    obtain ⟨u, h1, h2⟩ := Vals.get (i := i) (x := x) t (by simpa using e)
    exact ⟨u, by simpa using h1, h2⟩
theorem Vals.set {x : V} {u : Value} (r : RelV x u) : ∀ {xs : List V} {us : List Value} (i : Nat), Vals xs us → Vals (xs.set i x) (us.set i u)
  | _, _, _, .nil => .nil
  | _, _, 0, .cons _ t => .cons r t
  | _, _, i + 1, .cons q t => .cons q (Vals.set r i t)
theorem Vals.append : ∀ {xs ys : List V} {us ws : List Value}, Vals xs us → Vals ys ws → Vals (xs ++ ys) (us ++ ws)
  | _, _, _, _, .nil, s => s
  | _, _, _, _, .cons r t, s => .cons r (Vals.append t s)
theorem Vals.take : ∀ {xs : List V} {us : List Value} (n : Nat), Vals xs us → Vals (xs.take n) (us.take n)
  | _, _, 0, _ => .nil
  | _, _, _ + 1, .nil => .nil
  | _, _, n + 1, .cons r t => .cons r (Vals.take n t)
theorem Vals.drop : ∀ {xs : List V} {us : List Value} (n : Nat), Vals xs us → Vals (xs.drop n) (us.drop n)
  | _, _, 0, r => r
  | _, _, _ + 1, .nil => .nil
  | _, _, n + 1, .cons _ t => Vals.drop n t
theorem Vals.none_of : ∀ {xs : List V} {us : List Value} {i : Nat}, Vals xs us → xs[i]? = none → us[i]? = none := fun {xs us i} r e => by
  have h1 := r.length
  have h2 : xs.length ≤ i := List.getElem?_eq_none_iff.mp e
  exact List.getElem?_eq_none_iff.mpr (by omega)

def RelO : Option V → Option Value → Prop
  | some v, some u => RelV v u
  | none, none => True
  | _, _ => False
def KV {κ : Type} : List (κ × V) → List (κ × Value) → Prop := Paired fun (p : κ × V) (q : κ × Value) => p.1 = q.1 ∧ RelV p.2 q.2

/-- a key of a dict (00_mix): an int or a text -/
def kV : Key → V
  | .inl i => .int i
  | .inr x => .str x

/-- what stands at a tracked address -/
inductive HO where
  /-- a list -/
  | lst (xs : List V)
  /-- a tuple (never changes) -/
  | tup (xs : List V)
  /-- a dict whose keys are ints and texts; one whose keys are tuples of ints and texts (the empty one is both) -/
  | dK (kvs : List (Key × V)) | dT (kvs : List (List Key × V))
  /-- a set: its keys -/
  | set (ks : List Key)
  /-- an instance of the class at C, its dict at dx, its attributes -/
  | ins (C dx : Addr) (fs : List (Str × V))
  /-- the dict of the instance at x -/
  | own (x : Addr)
  /-- the dict of an exception -/
  | xd (fs : List (Str × V))
  /-- a bound method, f of x -/
  | met (f x : Addr)
  /-- a range object lo, lo + 1, .. below hi -/
  | rng (lo hi : Int)
  /-- a thing that is known to the object (the script; a dict while a loop walks it): read, never written while it is so -/
  | frz (o : Obj) (u : HO)
  /-- a code object's table -/
  | tbl (ps : Array Value)
  /-- any other thing, by what is true of its one object (a def of one's own: SetO a S n := HO.ext fun h => ..) -/
  | ext (φ : Heap → Prop)

abbrev Hp := Addr → Option HO
def upd (H : Hp) (a : Addr) (o : HO) : Hp := fun b => if b = a then some o else H b
theorem upd_same {H : Hp} {a : Addr} {o : HO} : upd H a o a = some o := by unfold upd; rw [if_pos rfl]
theorem upd_ne {H : Hp} {a b : Addr} {o : HO} (h : b ≠ a) : upd H a o b = H b := by unfold upd; rw [if_neg h]
theorem upd_upd {H : Hp} {a : Addr} {o u : HO} : upd (upd H a o) a u = upd H a u := by
  funext b; unfold upd; split <;> rfl
/-- two objects of different content stand apart -/
theorem ne_of {H : Hp} {a b : Addr} {o u : HO} (h : H a = some o) (h' : H b = some u) (d : o ≠ u) : a ≠ b := by
  intro e; subst e; rw [h] at h'; exact d (Option.some.inj h')
theorem ne_of_none {H : Hp} {a b : Addr} {o : HO} (h : H a = some o) (h' : H b = none) : a ≠ b := by
  intro e; subst e; rw [h] at h'; cases h'

section
variable (P : Program) (w : World)
def ObjOk (H : Hp) (h : Heap) (a : Addr) : HO → Prop
  | .lst xs => xs.length ≤ sizeLine ∧ ∃ (its : List Value) (n : Nat), Vals xs its ∧ h.get? a = some { cls := .type "list", data := .seq its.toArray n }
  | .tup xs => xs.length ≤ sizeLine ∧ ∃ its : List Value, Vals xs its ∧ IsTup h a its.toArray
  | .dK kvs => kvs.length ≤ sizeLine ∧ (a == sysModules) = false ∧ ∃ vs, KV kvs vs ∧ h.DictOf (mixKind P w) a vs
  | .dT kvs => kvs.length ≤ sizeLine ∧ (a == sysModules) = false ∧ ∃ xs : List (List Key × Addr × Value),
      Paired (fun (p : List Key × V) (q : List Key × Addr × Value) => p.1 = q.1 ∧ H q.2.1 = some (.tup (p.1.map kV)) ∧ RelV p.2 q.2.2) kvs xs ∧
      ∃ o es ep, h.get? a = some o ∧ o.ExactDict ∧ o.data = .dict es ep ∧ es.toList = xs.map (entryOfKey (tupleKind (mixKind P w))) ∧ (xs.map (·.1)).Nodup
  | .set ks => FT.SetAt w h a ks
  | .ins C dx fs => H dx = some (.own a) ∧ fs.length ≤ 1000 ∧ dx ≠ a ∧ h.get? a = some (PySem.W.instObj C dx) ∧
      ∃ mA, h.Ns1 dx mA ∧ (∀ f, RelO (fs.lookup f) (mA f)) ∧ PySem.Within mA (fs.map (·.1))
  | .own _ => ∃ o, h.get? a = some o
  | .xd fs => ∃ mA, h.Ns1 a mA ∧ ∀ f, RelO (fs.lookup f) (mA f)
  | .rng lo hi => ∃ t u v, h.get? a = some { cls := .type "range", data := .fields #[.int lo t, .int hi u, .int 1 v] }
  | .frz o u => h.get? a = some o ∧ ObjOk H h a u
  | .tbl ps => h.get? a = some { cls := .none, data := .fields ps }
  | .met f x => h.get? a = some (PySem.W.methodObj (.ref f) (.ref x))
  | .ext φ => φ h ∧ (∃ o, h.get? a = some o) ∧ ∀ h1 h2 : Heap, φ h1 → (∀ o, h1.get? a = some o → h2.get? a = some o) → φ h2
/-- the abstract heap is held -/
def HOk (H : Hp) (h : Heap) : Prop := ∀ a o, H a = some o → ObjOk P w H h a o
end

section
variable {P : Program} {w : World} {H H' : Hp} {h h' : Heap} {a : Addr} {o : HO}
theorem ObjOk.lt (x : ObjOk P w H h a o) : a < h.objs.size := by
  cases o with
  | lst xs => obtain ⟨_, _, _, _, e⟩ := x; exact Heap.lt_size e
  | tup xs => obtain ⟨_, _, _, p⟩ := x; exact p.lt
  | dK kvs => obtain ⟨_, _, _, _, o, _, _, e, _⟩ := x; exact Heap.lt_size e
  | dT kvs => obtain ⟨_, _, _, _, o, _, _, e, _⟩ := x; exact Heap.lt_size e
  | set ks => obtain ⟨o, _, _, _, _, e, _⟩ := x; exact Heap.lt_size e
  | ins C dx fs => obtain ⟨_, _, _, e, _⟩ := x; exact Heap.lt_size e
  | own y => obtain ⟨_, e⟩ := x; exact Heap.lt_size e
  | xd fs => obtain ⟨_, ⟨_, _, _, e, _⟩, _⟩ := x; exact Heap.lt_size e
  | rng lo hi => obtain ⟨_, _, _, e⟩ := x; exact Heap.lt_size e
  | frz ob u => obtain ⟨e, _⟩ := x; exact Heap.lt_size e
  | tbl ps => exact Heap.lt_size (show h.get? a = some _ from x)
  | met f y => exact Heap.lt_size (show h.get? a = some _ from x)
  | ext φ => obtain ⟨_, ⟨_, e⟩, _⟩ := x; exact Heap.lt_size e
theorem Paired.mapP {α β : Type} {F G : α → β → Prop} : ∀ {l₁ : List α} {l₂ : List β}, Paired F l₁ l₂ → (∀ a b, F a b → G a b) → Paired G l₁ l₂
  | _, _, .nil, _ => .nil
  | _, _, .cons r t, f => .cons (f _ _ r) (Paired.mapP t f)
theorem Paired.imp' {α β : Type} {F G : α → β → Prop} (f : ∀ a b, F a b → G a b) {l₁ : List α} {l₂ : List β} (r : Paired F l₁ l₂) : Paired G l₁ l₂ := Paired.mapP r f
/-- what an object's description leans on: its own object, its own dict, the tuples -/
theorem ObjOk.stay (x : ObjOk P w H h a o) (k : ∀ b u, (b = a ∨ H b = some (.own a)) → h.get? b = some u → h'.get? b = some u)
    (ho : ∀ b, H b = some (.own a) → H' b = some (.own a)) (ht : ∀ b xs, H b = some (.tup xs) → H' b = some (.tup xs)) : ObjOk P w H' h' a o := by
  induction o with
  | lst xs => obtain ⟨z, its, n, r, e⟩ := x; exact ⟨z, its, n, r, k _ _ (.inl rfl) e⟩
  | tup xs => obtain ⟨z, its, r, ob, e, c⟩ := x; exact ⟨z, its, r, ob, k _ _ (.inl rfl) e, c⟩
  | dK kvs => obtain ⟨z, y, vs, r, ob, es, ep, e, c⟩ := x; exact ⟨z, y, vs, r, ob, es, ep, k _ _ (.inl rfl) e, c⟩
  | dT kvs =>
    obtain ⟨z, y, xs, r, ob, es, ep, e, c⟩ := x
    exact ⟨z, y, xs, Paired.mapP r fun p q z => ⟨z.1, ht _ _ z.2.1, z.2.2⟩, ob, es, ep, k _ _ (.inl rfl) e, c⟩
  | set ks => obtain ⟨ob, es, ep, t, k', e, c⟩ := x; exact ⟨ob, es, ep, t, k', k _ _ (.inl rfl) e, c⟩
  | ins C dx fs =>
    obtain ⟨d, z, ne, e, mA, ⟨od, es, ep, e2, c⟩, r⟩ := x
    exact ⟨ho _ d, z, ne, k _ _ (.inl rfl) e, mA, ⟨od, es, ep, k _ _ (.inr d) e2, c⟩, r⟩
  | own y => obtain ⟨ob, e⟩ := x; exact ⟨ob, k _ _ (.inl rfl) e⟩
  | xd fs => obtain ⟨mA, ⟨od, es, ep, e, c⟩, r⟩ := x; exact ⟨mA, ⟨od, es, ep, k _ _ (.inl rfl) e, c⟩, r⟩
  | rng lo hi => obtain ⟨t, u, v, e⟩ := x; exact ⟨t, u, v, k _ _ (.inl rfl) e⟩
  | frz ob u ih => obtain ⟨e, q⟩ := x; exact ⟨k _ _ (.inl rfl) e, ih q⟩
  | tbl ps =>
    have e : h.get? a = some { cls := .none, data := .fields ps } := x
    show h'.get? a = some { cls := .none, data := .fields ps }
    exact k a _ (.inl rfl) e
  | met f y =>
    have e : h.get? a = some (PySem.W.methodObj (.ref f) (.ref y)) := x
    show h'.get? a = some (PySem.W.methodObj (.ref f) (.ref y))
    exact k a _ (.inl rfl) e
  | ext φ => obtain ⟨p, ⟨o, e⟩, st⟩ := x; exact ⟨st _ _ p fun o q => k _ _ (.inl rfl) q, ⟨o, k _ _ (.inl rfl) e⟩, st⟩
theorem HOk.lt (x : HOk P w H h) (e : H a = some o) : a < h.objs.size := (x a o e).lt
theorem HOk.fresh (x : HOk P w H h) (e : h.objs.size ≤ a) : H a = none := by
  cases q : H a with
  | none => rfl
  | some u => exact absurd (Nat.lt_of_lt_of_le (x.lt q) e) (Nat.lt_irrefl _)
/-- every object of the heap is kept -/
theorem HOk.kept (x : HOk P w H h) (k : ∀ b u, h.get? b = some u → h'.get? b = some u) : HOk P w H h' := fun a o e =>
  (x a o e).stay (fun b u _ q => k b u q) (fun _ q => q) fun _ _ q => q
/-- a new object is laid and tracked -/
theorem HOk.laid (x : HOk P w H h) (k : ∀ b u, h.get? b = some u → h'.get? b = some u) (hp : h.objs.size ≤ a) (new : ObjOk P w (upd H a o) h' a o) : HOk P w (upd H a o) h' := fun b u e => by
  have hn := x.fresh hp
  by_cases hb : b = a
  · subst hb; rw [upd_same] at e; cases e; exact new
  · rw [upd_ne hb] at e
    exact (x b u e).stay (fun c v _ q => k c v q) (fun c q => by rw [upd_ne (ne_of_none q hn)]; exact q) fun c xs q => by rw [upd_ne (ne_of_none q hn)]; exact q
end

/-- what may be read as u: it is u, or a known u -/
def Rd (H : Hp) (a : Addr) (u : HO) : Prop := H a = some u ∨ ∃ o, H a = some (.frz o u)
theorem Rd.of {H : Hp} {a : Addr} {u : HO} (h : H a = some u) : Rd H a u := .inl h
theorem Rd.ok {P : Program} {w : World} {H : Hp} {h : Heap} {a : Addr} {u : HO} (r : Rd H a u) (x : HOk P w H h) : ObjOk P w H h a u := by
  rcases r with r | ⟨o, r⟩
  · exact x a u r
  · obtain ⟨_, q⟩ := x a _ r
    exact q
/-- what may be written -/
def Mut : Option HO → Prop
  | some (.lst _) => True
  | some (.dK _) => True
  | some (.dT _) => True
  | some (.set _) => True
  | some (.ins _ _ _) => True
  | some (.ext _) => True
  | _ => False
section
variable {P : Program} {w : World} {H : Hp} {h h' : Heap} {x e : Addr} {o' : HO}
/-- the object at e is changed: x itself, or the dict of the instance x -/
theorem HOk.write (ok : HOk P w H h) (mu : Mut (H x)) (he : e = x ∨ H e = some (.own x)) (k : ∀ b u, b ≠ e → h.get? b = some u → h'.get? b = some u) (heo : ∃ u, h'.get? e = some u)
    (new : ObjOk P w (upd H x o') h' x o') : HOk P w (upd H x o') h' := fun b u q => by
  have nown : ∀ c y, H c = some (.own y) → c ≠ x := fun c y r z => by subst z; rw [r] at mu; exact mu
  have ntup : ∀ c xs, H c = some (.tup xs) → c ≠ x := fun c xs r z => by subst z; rw [r] at mu; exact mu
  by_cases hb : b = x
  · subst hb; rw [upd_same] at q; cases q; exact new
  · rw [upd_ne hb] at q
    by_cases hbe : b = e
    · have q' : H b = some (.own x) := by
        rcases he with z | z
        · exact absurd (hbe.trans z) hb
        · rw [hbe]; exact z
      rw [q] at q'; cases q'
      obtain ⟨v, hv⟩ := heo
      exact ⟨v, by rw [hbe]; exact hv⟩
    · refine (ok b u q).stay (fun c v hc r => k c v ?_ r) (fun c r => by rw [upd_ne (nown c b r)]; exact r) fun c xs r => by rw [upd_ne (ntup c xs r)]; exact r
      rcases hc with rfl | hc
      · exact hbe
      · rintro rfl
        rcases he with z | z
        · exact nown c b hc z
        · rw [hc] at z; cases z; exact hb rfl
end

/-! ### kept unless tracked; of the frames at fs (the callers') the slots may change (an exception that passes writes there); of the records at ex (iterators) nothing is said -/
structure Un (fs ex : List Addr) (H H' : Hp) (h h' : Heap) : Prop where
  keep : ∀ b o, h.get? b = some o → H b = none → b ∉ fs → b ∉ ex → h'.get? b = some o
  slot : ∀ b o, h.get? b = some o → H b = none → b ∈ fs → b ∉ ex → ∃ sl, h'.get? b = some { o with slots := sl }
  free : ∀ b o, h.get? b = some o → H b = none → b ∉ ex → H' b = none
  there : ∀ b o, h.get? b = some o → b ∉ ex → ∃ o', h'.get? b = some o'
  tups : ∀ b xs, H b = some (.tup xs) → H' b = some (.tup xs)
  frzs : ∀ b o u, H b = some (.frz o u) → H' b = some (.frz o u)
  tbls : ∀ b ps, H b = some (.tbl ps) → ∃ more, H' b = some (.tbl (ps ++ more))
section
variable {fs fs' ex ex' : List Addr} {H H1 H2 : Hp} {h h1 h2 h' : Heap} {a x e : Addr} {o : HO}
theorem Un.any (u : Un fs ex H H1 h h1) {b : Addr} {ob : Obj} (q : h.get? b = some ob) (n : H b = none) (hx : b ∉ ex) : ∃ sl, h1.get? b = some { ob with slots := sl } := by
  by_cases hb : b ∈ fs
  · exact u.slot b ob q n hb hx
  · exact ⟨ob.slots, u.keep b ob q n hb hx⟩
theorem Un.trans (a : Un fs ex H H1 h h1) (b : Un fs ex H1 H2 h1 h2) : Un fs ex H H2 h h2 where
  keep := fun c ob q n hc hx => b.keep c ob (a.keep c ob q n hc hx) (a.free c ob q n hx) hc hx
  slot := fun c ob q n hc hx => by
    obtain ⟨sl, e1⟩ := a.slot c ob q n hc hx
    obtain ⟨sl', e2⟩ := b.slot c _ e1 (a.free c ob q n hx) hc hx
    exact ⟨sl', e2⟩
  free := fun c ob q n hx => by
    obtain ⟨o', e1⟩ := a.there c ob q hx
    exact b.free c o' e1 (a.free c ob q n hx) hx
  there := fun c ob q hx => by
    obtain ⟨o', e1⟩ := a.there c ob q hx
    exact b.there c o' e1 hx
  tups := fun c xs q => b.tups c xs (a.tups c xs q)
  frzs := fun c ob xs q => b.frzs c ob xs (a.frzs c ob xs q)
  tbls := fun c ps q => by
    obtain ⟨m1, e1⟩ := a.tbls c ps q
    obtain ⟨m2, e2⟩ := b.tbls c _ e1
    exact ⟨m1 ++ m2, by rw [e2, Array.append_assoc]⟩
theorem Un.kept (k : ∀ b u, h.get? b = some u → h'.get? b = some u) : Un fs ex H H h h' :=
  ⟨fun b ob q _ _ _ => k b ob q, fun b ob q _ _ _ => ⟨ob.slots, k b ob q⟩, fun _ _ _ n _ => n, fun b ob q _ => ⟨ob, k b ob q⟩, fun _ _ q => q, fun _ _ _ q => q, fun _ ps q => ⟨#[], by rw [q]; simp⟩⟩
theorem Un.refl : Un fs ex H H h h := Un.kept fun _ _ q => q
theorem Un.laid (k : ∀ b u, h.get? b = some u → h'.get? b = some u) (hp : h.objs.size ≤ a) (hn : H a = none) : Un fs ex H (upd H a o) h h' where
  keep := fun b u q _ _ _ => k b u q
  slot := fun b u q _ _ _ => ⟨u.slots, k b u q⟩
  free := fun b u q n _ => by rw [upd_ne (Nat.ne_of_lt (Nat.lt_of_lt_of_le (Heap.lt_size q) hp))]; exact n
  there := fun b u q _ => ⟨u, k b u q⟩
  tups := fun b xs q => by rw [upd_ne (ne_of_none q hn)]; exact q
  frzs := fun b u xs q => by rw [upd_ne (ne_of_none q hn)]; exact q
  tbls := fun b ps q => ⟨#[], by rw [upd_ne (ne_of_none q hn), q]; simp⟩
theorem Un.write (mu : Mut (H x)) (he : e = x ∨ H e = some (.own x)) (k : ∀ b u, b ≠ e → h.get? b = some u → h'.get? b = some u) (heo : ∃ u, h'.get? e = some u) : Un fs ex H (upd H x o) h h' := by
  have hx : ∀ b, H b = none → b ≠ x := fun b n z => by subst z; rw [n] at mu; exact mu
  have hb : ∀ b, H b = none → b ≠ e := fun b n z => by
    subst z
    rcases he with r | r
    · exact hx b n r
    · rw [n] at r; cases r
  have hm : ∀ b u, H b = some u → ¬ Mut (some u) → b ≠ x := fun b u q nm z => by subst z; rw [q] at mu; exact nm mu
  refine ⟨fun b u q n _ _ => k b u (hb b n) q, fun b u q n _ _ => ⟨u.slots, k b u (hb b n) q⟩, fun b u q n _ => by rw [upd_ne (hx b n)]; exact n, fun b u q _ => ?_,
    fun b xs q => by rw [upd_ne (hm b _ q fun z => z)]; exact q, fun b u xs q => by rw [upd_ne (hm b _ q fun z => z)]; exact q, fun b ps q => ⟨#[], by rw [upd_ne (hm b _ q fun z => z), q]; simp⟩⟩
  by_cases hbe : b = e
  · subst hbe; exact heo
  · exact ⟨u, k b u hbe q⟩
theorem Un.mono (u : Un fs ex H H1 h h1) (hs : ∀ b ∈ fs, b ∈ fs') (hx : ∀ b ∈ ex, b ∈ ex') : Un fs' ex' H H1 h h1 :=
  ⟨fun b ob q n hb he => u.keep b ob q n (fun z => hb (hs b z)) fun z => he (hx b z), fun _ _ q n _ he => u.any q n fun z => he (hx _ z), fun b ob q n he => u.free b ob q n fun z => he (hx b z), fun b ob q he => u.there b ob q fun z => he (hx b z), u.tups, u.frzs, u.tbls⟩
end

/-! ### the heap without what is tracked -/
def trk (h : Heap) (H : Hp) : List Addr := (List.range h.objs.size).filter fun a => (H a).isSome
def hidT (h : Heap) (H : Hp) : Heap := PySem.W.hideAll h (trk h H)
theorem hidT_size (h : Heap) (H : Hp) : (hidT h H).objs.size = h.objs.size := PySem.W.hideAll_size _ _
theorem hidT_get {h : Heap} {H : Hp} {b : Addr} {o : Obj} (e : h.get? b = some o) (n : H b = none) : (hidT h H).get? b = some o :=
  PySem.W.hideAll_get _ e fun hm => by
    have q : (H b).isSome = true := (List.mem_filter.mp hm).2
    rw [n] at q; simp at q
theorem of_hidT {h : Heap} {H : Hp} {b : Addr} {o : Obj} (e : (hidT h H).get? b = some o) : h.get? b = some o ∧ H b = none := by
  have e' : h.get? b = some o := PySem.W.of_hideAll (trk h H) e
  refine ⟨e', ?_⟩
  cases q : H b with
  | none => rfl
  | some x =>
    have hm : b ∈ trk h H := List.mem_filter.mpr ⟨List.mem_range.mpr (Heap.lt_size e'), by simp [q]⟩
    have z : (hidT h H).get? b = none := PySem.W.hideAll_none (trk h H) hm
    rw [z] at e; cases e

/-! ### OpenK's ledger, filled with every new object but one -/
def allNews (g h : Heap) (L : Addr) : List (Addr × Obj) := (List.range h.objs.size).filterMap fun a => if a = L ∨ (g.get? a).isSome = true then none else (h.get? a).map fun o => (a, o)
theorem mem_allNews {g h : Heap} {L a : Addr} {o : Obj} (h1 : a ≠ L) (h2 : g.get? a = none) (h3 : h.get? a = some o) : (a, o) ∈ allNews g h L :=
  List.mem_filterMap.mpr ⟨a, List.mem_range.mpr (Heap.lt_size h3), by simp [h1, h2, h3]⟩
theorem of_mem_allNews {g h : Heap} {L : Addr} {p : Addr × Obj} (hp : p ∈ allNews g h L) : p.1 ≠ L ∧ g.get? p.1 = none ∧ h.get? p.1 = some p.2 := by
  obtain ⟨b, _, e⟩ := List.mem_filterMap.mp hp
  split at e
  · cases e
  · rename_i hn
    cases q : h.get? b with
    | none => rw [q] at e; simp at e
    | some u =>
      rw [q] at e
      simp only [Option.map_some, Option.some.injEq] at e
      subst e
      refine ⟨fun z => hn (.inl z), ?_, q⟩
      show g.get? b = none
      cases r : g.get? b with
      | none => rfl
      | some v => exact (hn (.inr (by simp [r]))).elim
def rest (g h : Heap) (L d : Addr) : List (Addr × Obj) := (allNews g h L).filter fun p => decide (p.1 ≠ d)
theorem rest_ne {g h : Heap} {L d : Addr} : ∀ p ∈ rest g h L d, p.1 ≠ d := fun p hp => of_decide_eq_true (List.mem_filter.mp hp).2
theorem mem_rest {g h : Heap} {L d a : Addr} {o : Obj} (h1 : a ≠ L) (h2 : g.get? a = none) (h3 : h.get? a = some o) (h4 : a ≠ d) : (a, o) ∈ rest g h L d :=
  List.mem_filter.mpr ⟨mem_allNews h1 h2 h3, decide_eq_true h4⟩
theorem news_all {g h : Heap} {L : Addr} : News g L h (allNews g h L) := fun p hp => let ⟨a, b, c⟩ := of_mem_allNews hp; ⟨c, a, b⟩
theorem news_at {g h : Heap} {L d : Addr} {o : Obj} (h1 : d ≠ L) (h2 : g.get? d = none) (h3 : h.get? d = some o) : News g L h ((d, o) :: rest g h L d) := fun p hp => by
  rcases List.mem_cons.mp hp with rfl | hp
  · exact ⟨h3, h1, h2⟩
  · exact news_all p (List.mem_filter.mp hp).1
/-- behind a rule that changed d alone: all else but the frame is kept -/
theorem kept_of_news {g h h' : Heap} {L d : Addr} {m : Str → Option Value} (k : ∀ b o, g.get? b = some o → h.get? b = some o) (F : Fr g L h' m) (N : News g L h' (rest g h L d)) :
    ∀ b o, b ≠ L → b ≠ d → h.get? b = some o → h'.get? b = some o := fun b o h1 h2 e => by
  cases q : g.get? b with
  | some u =>
    have := k b u q
    rw [e] at this; cases this
    exact F.keep b _ q
  | none => exact (N (b, o) (mem_rest h1 q e h2)).1
end L2

namespace L2
open PySem PySem.Spec PyProof.Rows

/-- the module's facts, over the base: the heap at the law's entry without what is tracked there -/
structure Mod (K : PySem.W.Frag) (mg : Str → Option Value) (base : Heap) : Prop where
  kin : K.In base
  glob : base.Ns mainGlobals mg
  blt : ∃ mb, base.Ns builtinsNs mb ∧ ∀ x : Str, x ≠ "__name__" → mb x = bootBuiltins x
  nolimit : base.NoLimit

/-- the context: a def's body (or a comprehension's block) running. base: fixed through the whole law; s₀, H₀: the entry; outer: the frames whose slots others may change (a def's callers); stack: all frames that run;
   ex: iterators that were made ahead of the entry and are walked here (a comprehension's); fn: the names whose cells were made at the entry (a def: all; a comprehension's block: its own); calm: not within an except suite; pn: pins that every state bears; xe: what is wanted of an exception that leaves the code -/
structure Cx where
  prog : Program
  w : World
  K : PySem.W.Frag
  mg : Str → Option Value
  base : Heap
  A : Around
  N : List Str
  s₀ : Shared
  H₀ : Hp
  env : Env
  outer : List Env
  stack : List Env
  ex : List Addr
  fn : Str → Bool
  calm : Bool
  pn : List (Addr × Obj)
  xe : Value → Shared → Prop
/-- the callers' frames -/
def frs (l : List Env) : List Addr := l.filterMap (·.frame)
abbrev Cx.fs (X : Cx) : List Addr := frs X.outer

def Vis (sc : Scope) (x : Str) : Prop := sc.names.lookup x = some .local ∨ sc.names.lookup x = some .cell ∨ sc.names.lookup x = some .free
def Loc (sc : Scope) (x : Str) : Prop := sc.names.lookup x = some .local ∨ sc.names.lookup x = some .cell
def Look (env : Env) (h : Heap) (m : Str → Option Value) (x : Str) (u : Value) : Prop :=
  (env.kindOf x = some .local ∧ m x = some u) ∨ ((env.kindOf x = some .cell ∨ env.kindOf x = some .free) ∧ ∃ c, env.cells.lookup x = some c ∧ h.IsCell c (some u))

structure Cx.Ok (X : Cx) : Prop where
  mod : Mod X.K X.mg X.base
  kind : X.env.scope.kind = .function
  glob : X.env.globals = mainGlobals
  blt : X.env.builtins = builtinsNs
  above : X.s₀.heap.objs.size ≤ X.env.locals
  inj : ∀ x y c, X.env.cells.lookup x = some c → X.env.cells.lookup y = some c → x = y
  has : ∀ x, (X.env.kindOf x = some .cell ∨ X.env.kindOf x = some .free) → ∃ c, X.env.cells.lookup x = some c
  cab : ∀ x c, X.fn x = true → X.env.cells.lookup x = some c → X.s₀.heap.objs.size ≤ c
  hd : X.calm = true → X.A.handled = none
  frames : X.A.frames = some X.stack
  stk : X.stack = X.outer ∨ (X.stack = X.env :: X.outer ∧ X.env.frame = some X.env.locals)
  exf : ∀ b ∈ X.ex, b ≠ X.env.locals ∧ ∀ x c, X.env.cells.lookup x = some c → c ≠ b
  bs : ∀ b o, X.base.get? b = some o → X.s₀.heap.get? b = some o ∧ X.H₀ b = none
  bsz : X.base.objs.size ≤ X.s₀.heap.objs.size
  noex : ∀ b o, X.base.get? b = some o → b ∉ X.ex
  exfs : ∀ b ∈ X.ex, b ∉ X.fs
  funs : X.s₀.heap.FunFrames X.base X.outer
  frf : ∀ b ∈ X.fs, X.H₀ b = none

structure Inv (X : Cx) (pins : List (Addr × Obj)) (σ : List (Option V)) (H : Hp) (s : Shared) : Prop where
  ok : X.Ok
  os : s.os = X.s₀.os
  bare : AllBare s.gens
  base : Un X.fs X.ex X.H₀ H X.s₀.heap s.heap
  loc : ∃ m, s.heap.Ns X.env.locals m ∧ ∀ (i : Nat) (x : Str) (v : V), X.N[i]? = some x → σ[i]? = some (some v) → Vis X.env.scope x → ∃ u, RelV v u ∧ Look X.env s.heap m x u
  cell : ∀ x c, X.env.cells.lookup x = some c → ∃ v, s.heap.IsCell c v
  free : H X.env.locals = none
  freeC : ∀ x c, X.env.cells.lookup x = some c → H c = none
  pin : ∀ p ∈ X.pn ++ pins, s.heap.get? p.1 = some p.2 ∧ H p.1 = none ∧ p.1 ≠ X.env.locals ∧ p.1 ∉ X.fs ∧ ∀ v, p.2.data ≠ .cell v
  hok : HOk X.prog X.w H s.heap
  len : σ.length = X.N.length

section
variable {X : Cx} {pins : List (Addr × Obj)} {σ : List (Option V)} {H H' : Hp} {s : Shared} {h' : Heap}

theorem Cx.Ok.nofr (ok : X.Ok) {b : Addr} {o : Obj} (e : X.base.get? b = some o) : b ∉ X.fs := fun hb => by
  have := (ok.funs.mem hb).1
  rw [e] at this; cases this
theorem Inv.bs (I : Inv X pins σ H s) : ∀ b o, X.base.get? b = some o → s.heap.get? b = some o ∧ H b = none := fun b o e =>
  ⟨I.base.keep b o (I.ok.bs b o e).1 (I.ok.bs b o e).2 (I.ok.nofr e) (I.ok.noex b o e), I.base.free b o (I.ok.bs b o e).1 (I.ok.bs b o e).2 (I.ok.noex b o e)⟩
theorem Inv.bk (I : Inv X pins σ H s) : ∀ b o, X.base.get? b = some o → s.heap.get? b = some o := fun b o e => (I.bs b o e).1
theorem Inv.mod (I : Inv X pins σ H s) : Mod X.K X.mg X.base := I.ok.mod
theorem Inv.kIn (I : Inv X pins σ H s) : X.K.In s.heap := I.ok.mod.kin.keeps I.bk
theorem Inv.nolimit (I : Inv X pins σ H s) : s.heap.NoLimit := I.ok.mod.nolimit.keeps I.bk
/-- the frame over the base: for OpenK's rules (K.In X.base is I.mod.kin) -/
theorem Inv.fr (I : Inv X pins σ H s) : ∃ m, Fr X.base X.env.locals s.heap m :=
  let ⟨m, hn, _⟩ := I.loc
  ⟨m, hn, I.bk, Nat.le_trans I.ok.bsz I.ok.above⟩
theorem Inv.lt (I : Inv X pins σ H s) : X.env.locals < s.heap.objs.size := let ⟨_, hn, _⟩ := I.loc; hn.lt
theorem Inv.sz (I : Inv X pins σ H s) : X.s₀.heap.objs.size ≤ s.heap.objs.size := Nat.le_trans I.ok.above (Nat.le_of_lt I.lt)
theorem Inv.nofs (I : Inv X pins σ H s) {a : Addr} (h : s.heap.objs.size ≤ a) : a ∉ X.fs := fun hb => by
  obtain ⟨_, o, ho, _⟩ := I.ok.funs.mem hb
  exact absurd (Nat.lt_of_lt_of_le (Heap.lt_size ho) (Nat.le_trans I.sz h)) (Nat.lt_irrefl _)
theorem Inv.cne (I : Inv X pins σ H s) : ∀ x c, X.env.cells.lookup x = some c → c ≠ X.env.locals := fun x c e z => by
  obtain ⟨v, o, ho, hd⟩ := I.cell x c e
  obtain ⟨m, ⟨o', es, ep, ho', hd', _⟩, _⟩ := I.loc
  rw [z, ho'] at ho; cases ho; rw [hd'] at hd; cases hd
theorem Inv.funs (I : Inv X pins σ H s) : s.heap.FunFrames X.base X.outer := by
  have all : ∀ (l : List Env), (∀ b ∈ frs l, b ∈ X.fs) → X.s₀.heap.FunFrames X.base l → s.heap.FunFrames X.base l := by
    intro l
    induction l with
    | nil => intro _ _; trivial
    | cons env r ih =>
      intro hs hl
      obtain ⟨hk, ⟨L, o, hf, hn, ho, hd⟩, hr⟩ := hl
      have hL : L ∈ X.fs := hs L (by unfold frs; rw [List.filterMap_cons, hf]; exact List.mem_cons_self)
      obtain ⟨sl, e⟩ := I.base.slot L o ho (I.ok.frf L hL) hL fun z => I.ok.exfs L z hL
      exact ⟨hk, ⟨L, _, hf, hn, e, hd⟩, ih (fun b hb => hs b (by unfold frs; rw [List.filterMap_cons, hf]; exact List.mem_cons_of_mem _ hb)) hr⟩
  exact all X.outer (fun _ hb => hb) I.ok.funs

/-- the frames that run, for a call -/
theorem Inv.stack (I : Inv X pins σ H s) : s.heap.FunFrames X.base X.stack := by
  rcases I.ok.stk with e | ⟨e, hf⟩
  · rw [e]; exact I.funs
  · rw [e]
    obtain ⟨m, hn, _⟩ := I.loc
    refine .cons (by rw [I.ok.kind]; decide) hf hn ?_ I.funs
    exact Heap.get?_none_of_le (Nat.le_trans I.ok.bsz I.ok.above)
theorem Inv.stkSub (I : Inv X pins σ H s) : ∀ b ∈ frs X.stack, b ∈ X.env.locals :: X.fs := fun b hb => by
  rcases I.ok.stk with e | ⟨e, hf⟩
  · rw [e] at hb; exact List.mem_cons_of_mem _ hb
  · rw [e] at hb
    unfold frs at hb
    rw [List.filterMap_cons, hf] at hb
    exact hb
theorem Inv.stkFree (I : Inv X pins σ H s) : ∀ b ∈ frs X.stack, H b = none := fun b hb => by
  rcases List.mem_cons.mp (I.stkSub b hb) with e | hb
  · rw [e]; exact I.free
  · obtain ⟨_, o, ho, _⟩ := I.ok.funs.mem hb
    exact I.base.free b o ho (I.ok.frf b hb) fun z => I.ok.exfs b z hb

/-- THE STEP: the untracked objects but the frame and the records at ch are kept (the callers' frames up to slots), the frame's map is kept, the new abstract heap is held -/
theorem Inv.step {g' : Array GenState} {t' : Nat} {d' : Drawn} {ch : List Addr} (I : Inv X pins σ H s)
    (hch : ∀ b ∈ ch, (b ∈ X.ex ∨ X.s₀.heap.objs.size ≤ b) ∧ b ≠ X.env.locals ∧ (∀ x c, X.env.cells.lookup x = some c → c ≠ b) ∧ ∀ p ∈ X.pn ++ pins, p.1 ≠ b)
    (keep : ∀ b o, b ≠ X.env.locals → b ∉ X.fs → b ∉ ch → s.heap.get? b = some o → H b = none → h'.get? b = some o)
    (slot : ∀ b o, b ≠ X.env.locals → b ∈ X.fs → b ∉ ch → s.heap.get? b = some o → H b = none → ∃ sl, h'.get? b = some { o with slots := sl }) (free : ∀ b o, b ∉ ch → s.heap.get? b = some o → H b = none → H' b = none)
    (there : ∀ b o, b ∉ ch → s.heap.get? b = some o → ∃ o', h'.get? b = some o')
    (tups : ∀ b xs, H b = some (.tup xs) → H' b = some (.tup xs)) (frzs : ∀ b o u, H b = some (.frz o u) → H' b = some (.frz o u)) (tbls : ∀ b ps, H b = some (.tbl ps) → ∃ more, H' b = some (.tbl (ps ++ more)))
    (ns : ∀ m, s.heap.Ns X.env.locals m → h'.Ns X.env.locals m) (hok : HOk X.prog X.w H' h') (hg : AllBare g') :
    Inv X pins σ H' { s with heap := h', gens := g', drawn := d', toks := t' } := by
  have neL : ∀ b o, X.s₀.heap.get? b = some o → b ≠ X.env.locals := fun b o e => Nat.ne_of_lt (Nat.lt_of_lt_of_le (Heap.lt_size e) I.ok.above)
  have neC : ∀ b o, X.s₀.heap.get? b = some o → b ∉ X.ex → b ∉ ch := fun b o e hx hb => by
    rcases (hch b hb).1 with z | z
    · exact hx z
    · exact absurd (Nat.lt_of_lt_of_le (Heap.lt_size e) z) (Nat.lt_irrefl _)
  have cellK : ∀ x c, X.env.cells.lookup x = some c → ∀ v, s.heap.IsCell c v → h'.IsCell c v := fun x c e v ⟨o, ho, hd⟩ => by
    have nch : c ∉ ch := fun z => (hch c z).2.2.1 x c e rfl
    by_cases hc : c ∈ X.fs
    · obtain ⟨sl, q⟩ := slot c o (I.cne x c e) hc nch ho (I.freeC x c e)
      exact ⟨_, q, hd⟩
    · exact ⟨o, keep c o (I.cne x c e) hc nch ho (I.freeC x c e), hd⟩
  refine ⟨I.ok, I.os, hg, ⟨fun b o e n hb hx => ?_, fun b o e n hb hx => ?_, fun b o e n hx => ?_, fun b o e hx => ?_, fun b xs e => tups b xs (I.base.tups b xs e), fun b o xs e => frzs b o xs (I.base.frzs b o xs e), fun b ps e => ?_⟩, ?_, fun x c e => ?_, ?_, fun x c e => ?_, fun p hp => ?_, hok, I.len⟩
  · exact keep b o (neL b o e) hb (neC b o e hx) (I.base.keep b o e n hb hx) (I.base.free b o e n hx)
  · obtain ⟨sl, e1⟩ := I.base.slot b o e n hb hx
    obtain ⟨sl', e2⟩ := slot b _ (neL b o e) hb (neC b o e hx) e1 (I.base.free b o e n hx)
    exact ⟨sl', e2⟩
  · obtain ⟨o', e1⟩ := I.base.there b o e hx
    exact free b o' (neC b o e hx) e1 (I.base.free b o e n hx)
  · obtain ⟨o', e1⟩ := I.base.there b o e hx
    exact there b o' (neC b o e hx) e1
  · obtain ⟨m1, e1⟩ := I.base.tbls b ps e
    obtain ⟨m2, e2⟩ := tbls b _ e1
    exact ⟨m1 ++ m2, by rw [e2, Array.append_assoc]⟩
  · obtain ⟨m, hn, hl⟩ := I.loc
    refine ⟨m, ns m hn, fun i x v e1 e2 e3 => ?_⟩
    obtain ⟨u, r, l⟩ := hl i x v e1 e2 e3
    refine ⟨u, r, ?_⟩
    rcases l with l | ⟨k, c, e, z⟩
    · exact .inl l
    · exact .inr ⟨k, c, e, cellK x c e _ z⟩
  · obtain ⟨v, z⟩ := I.cell x c e
    exact ⟨v, cellK x c e v z⟩
  · obtain ⟨m, ⟨o, _, _, ho, _⟩, _⟩ := I.loc
    exact free _ o (fun z => (hch _ z).2.1 rfl) ho I.free
  · obtain ⟨v, o, ho, hd⟩ := I.cell x c e
    exact free c o (fun z => (hch c z).2.2.1 x c e rfl) ho (I.freeC x c e)
  · obtain ⟨e, n, ne, nf, d⟩ := I.pin p hp
    have nch : p.1 ∉ ch := fun z => (hch p.1 z).2.2.2 p hp rfl
    exact ⟨keep p.1 p.2 ne nf nch e n, free p.1 p.2 nch e n, ne, nf, d⟩
/-- .. where the frame's own object is kept too -/
theorem Inv.un {t' : Nat} (I : Inv X pins σ H s) (u : Un X.fs [] H H' s.heap h') (hok : HOk X.prog X.w H' h') : Inv X pins σ H' { s with heap := h', toks := t' } := by
  obtain ⟨m, ⟨o, es, ep, ho, r⟩, _⟩ := id I.loc
  obtain ⟨sl, hL⟩ := u.any ho I.free (by simp)
  exact I.step (g' := s.gens) (d' := s.drawn) (ch := []) (fun _ z => nomatch z) (fun b o _ hb _ e n => u.keep b o e n hb (by simp)) (fun b o _ hb _ e n => u.slot b o e n hb (by simp)) (fun b o _ e n => u.free b o e n (by simp)) (fun b o _ e => u.there b o e (by simp)) u.tups u.frzs u.tbls (fun m' hm => by
    obtain ⟨o', es', ep', ho', r'⟩ := hm
    rw [ho] at ho'; cases ho'
    exact ⟨_, es', ep', hL, r'⟩) hok I.bare
/-- behind a call (or a comprehension's block): the slots of this frame may have changed too, the records at ch may have turned -/
theorem Inv.call {g' : Array GenState} {t' : Nat} {d' : Drawn} {ch : List Addr} (I : Inv X pins σ H s) (u : Un (frs X.stack) ch H H' s.heap h') (hok : HOk X.prog X.w H' h') (hg : AllBare g')
    (hch : ∀ b ∈ ch, (b ∈ X.ex ∨ X.s₀.heap.objs.size ≤ b) ∧ b ≠ X.env.locals ∧ (∀ x c, X.env.cells.lookup x = some c → c ≠ b) ∧ ∀ p ∈ X.pn ++ pins, p.1 ≠ b) :
    Inv X pins σ H' { s with heap := h', gens := g', drawn := d', toks := t' } := by
  obtain ⟨m, ⟨o, es, ep, ho, r⟩, _⟩ := id I.loc
  obtain ⟨sl, hL⟩ := u.any ho I.free fun z => (hch _ z).2.1 rfl
  exact I.step (ch := ch) hch (fun b o hL hb hc e n => u.keep b o e n (fun z => (List.mem_cons.mp (I.stkSub b z)).elim hL hb) hc) (fun b o _ _ hc e n => u.any e n hc) (fun b o hc e n => u.free b o e n hc) (fun b o hc e => u.there b o e hc) u.tups u.frzs u.tbls (fun m' hm => by
    obtain ⟨o', es', ep', ho', r'⟩ := hm
    rw [ho] at ho'; cases ho'
    exact ⟨_, es', ep', hL, r'⟩) hok hg
/-- an untracked record of ours (an iterator) has turned -/
theorem Inv.turned {t' : Nat} {it : Addr} (I : Inv X pins σ H s) (k : ∀ b o, b ≠ it → s.heap.get? b = some o → h'.get? b = some o) (hn : H it = none) (hL : it ≠ X.env.locals)
    (h1 : it ∈ X.ex ∨ X.s₀.heap.objs.size ≤ it) (h2 : ∀ x c, X.env.cells.lookup x = some c → c ≠ it) (h3 : ∀ p ∈ X.pn ++ pins, p.1 ≠ it) : Inv X pins σ H { s with heap := h', toks := t' } := by
  have nit : ∀ b u, H b = some u → b ≠ it := fun b u e z => by rw [z, hn] at e; cases e
  refine I.step (g' := s.gens) (d' := s.drawn) (ch := [it]) (fun b hb => ?_) (fun b o _ _ hc e _ => k b o (fun z => hc (by simp [z])) e) (fun b o _ _ hc e _ => ⟨o.slots, k b o (fun z => hc (by simp [z])) e⟩) (fun _ _ _ _ n => n)
    (fun b o hc e => ⟨o, k b o (fun z => hc (by simp [z])) e⟩) (fun _ _ e => e) (fun _ _ _ e => e) (fun b ps e => ⟨#[], by rw [e]; simp⟩) (fun m hm => ?_) (fun b u e => ?_) I.bare
  · have e : b = it := by simpa using hb
    subst e
    exact ⟨h1, hL, h2, h3⟩
  · obtain ⟨o, es, ep, ho, r⟩ := hm
    exact ⟨o, es, ep, k _ o (Ne.symm hL) ho, r⟩
  · refine (I.hok b u e).stay (fun c v hc q => k c v ?_ q) (fun _ q => q) fun _ _ q => q
    rcases hc with z | z
    · rw [z]; exact nit b u e
    · exact nit c _ z
theorem Inv.tok (I : Inv X pins σ H s) (t : Nat) : Inv X pins σ H { s with toks := t } := I.un (h' := s.heap) (t' := t) Un.refl I.hok
/-- all objects kept -/
theorem Inv.kept {t' : Nat} (I : Inv X pins σ H s) (k : ∀ b u, s.heap.get? b = some u → h'.get? b = some u) : Inv X pins σ H { s with heap := h', toks := t' } := I.un (Un.kept k) (I.hok.kept k)
/-- a new object laid and tracked -/
theorem Inv.laid {a : Addr} {o : HO} {t' : Nat} (I : Inv X pins σ H s) (k : ∀ b u, s.heap.get? b = some u → h'.get? b = some u) (hp : s.heap.objs.size ≤ a) (new : ObjOk X.prog X.w (upd H a o) h' a o) :
    Inv X pins σ (upd H a o) { s with heap := h', toks := t' } := I.un (Un.laid k hp (I.hok.fresh hp)) (I.hok.laid k hp new)
/-- an object written -/
theorem Inv.write {x e : Addr} {o : HO} {t' : Nat} (I : Inv X pins σ H s) (mu : Mut (H x)) (he : e = x ∨ H e = some (.own x)) (k : ∀ b u, b ≠ e → s.heap.get? b = some u → h'.get? b = some u) (heo : ∃ u, h'.get? e = some u)
    (new : ObjOk X.prog X.w (upd H x o) h' x o) : Inv X pins σ (upd H x o) { s with heap := h', toks := t' } := I.un (Un.write mu he k heo) (I.hok.write mu he k heo new)
/-- forgetting slots, pins -/
theorem Inv.weak {σ' : List (Option V)} (I : Inv X pins σ H s) (hl : σ'.length = σ.length) (w : ∀ (i : Nat) v, σ'[i]? = some (some v) → σ[i]? = some (some v)) : Inv X pins σ' H s :=
  ⟨I.ok, I.os, I.bare, I.base, let ⟨m, hn, hl'⟩ := I.loc; ⟨m, hn, fun i x v e1 e2 e3 => hl' i x v e1 (w i v e2) e3⟩, I.cell, I.free, I.freeC, I.pin, I.hok, hl.trans I.len⟩
theorem Inv.pins_of {pins' : List (Addr × Obj)} (I : Inv X pins σ H s) (h : ∀ p ∈ pins', s.heap.get? p.1 = some p.2 ∧ H p.1 = none ∧ p.1 ≠ X.env.locals ∧ p.1 ∉ X.fs ∧ ∀ v, p.2.data ≠ .cell v) : Inv X pins' σ H s :=
  ⟨I.ok, I.os, I.bare, I.base, I.loc, I.cell, I.free, I.freeC, fun p hp => (List.mem_append.mp hp).elim (fun z => I.pin p (List.mem_append_left _ z)) (h p), I.hok, I.len⟩

theorem nodup_ix {N : List Str} (hN : N.Nodup) {i j : Nat} {x : Str} (a : N[i]? = some x) (b : N[j]? = some x) : i = j := by
  obtain ⟨h1, e1⟩ := List.getElem?_eq_some_iff.mp a
  obtain ⟨h2, e2⟩ := List.getElem?_eq_some_iff.mp b
  exact (List.getElem_inj hN).mp (e1.trans e2.symm)

/-- a name is stored; what changed -/
theorem store_ok2 {M : Model} {A : Around} {E : Value → Shared → Prop} {i : Nat} {x : Str} {v : V} {u : Value} {Q : Unit → Shared → Prop} (I : Inv X pins σ H s) (hN : X.N.Nodup) (hi : X.N[i]? = some x) (hx : Loc X.env.scope x) (r : RelV v u)
    (h : ∀ s', Inv X pins (σ.set i (some v)) H s' → (∃ a, Heap.SameBut a s.heap s'.heap ∧ (a = X.env.locals ∨ X.env.cells.lookup x = some a)) → Q () s') (hf : X.fn x = true ∨ X.env.scope.names.lookup x = some .local := by first | exact .inl rfl | exact .inr rfl | assumption) : wpAny M A (storeName X.env x u) Q E s := by
  obtain ⟨m, hn, hl⟩ := id I.loc
  have hcls : (X.env.scope.kind == .class || (X.env.scope.kind == .module && X.env.locals != X.env.globals)) = false := by rw [I.ok.kind]; rfl
  have hiσ : i < σ.length := by rw [I.len]; exact (List.getElem?_eq_some_iff.mp hi).1
  have cne := I.cne
  have tracked : ∀ {a : Addr} {h' : Heap}, (∃ o, s.heap.get? a = some o ∧ H a = none) → Heap.SameBut a s.heap h' → HOk X.prog X.w H h' := fun {a h'} ha hs b ob e => by
    obtain ⟨_, _, hfree⟩ := ha
    refine (I.hok b ob e).stay (fun c w' hc q => (hs.2 c ?_).trans q) (fun _ q => q) fun _ _ q => q
    rintro rfl
    rcases hc with rfl | hc
    · rw [hfree] at e; cases e
    · rw [hfree] at hc; cases hc
  rcases hx with hk | hk
  · refine wpAny_storeName_local hk hn (fun h' hn' hs => ?_) hcls
    obtain ⟨oL, _, _, hoL, _⟩ := id hn
    refine h _ ⟨I.ok, I.os, I.bare, ⟨fun b o e n hb hx => ?_, fun b o e n hb hx => ?_, I.base.free, fun b o e hx => ?_, I.base.tups, I.base.frzs, I.base.tbls⟩, ⟨_, hn', fun j y v' e1 e2 e3 => ?_⟩, fun y c e => ?_, I.free, I.freeC, fun p hp => ?_, tracked ⟨oL, hoL, I.free⟩ hs, by simpa using I.len⟩ ⟨_, hs, .inl rfl⟩
    · exact (hs.2 b (Nat.ne_of_lt (Nat.lt_of_lt_of_le (Heap.lt_size e) I.ok.above))).trans (I.base.keep b o e n hb hx)
    · obtain ⟨sl, e1⟩ := I.base.slot b o e n hb hx
      exact ⟨sl, (hs.2 b (Nat.ne_of_lt (Nat.lt_of_lt_of_le (Heap.lt_size e) I.ok.above))).trans e1⟩
    · obtain ⟨o', e1⟩ := I.base.there b o e hx
      exact ⟨o', (hs.2 b (Nat.ne_of_lt (Nat.lt_of_lt_of_le (Heap.lt_size e) I.ok.above))).trans e1⟩
    · by_cases hj : j = i
      · subst hj
        rw [hi] at e1; cases e1
        rw [List.getElem?_set_self hiσ] at e2
        cases e2
        exact ⟨u, r, .inl ⟨hk, by simp⟩⟩
      · rw [List.getElem?_set_ne (Ne.symm hj)] at e2
        obtain ⟨u', r', q⟩ := hl j y v' e1 e2 e3
        refine ⟨u', r', ?_⟩
        rcases q with ⟨k, e⟩ | ⟨k, c, e, z⟩
        · refine .inl ⟨k, ?_⟩
          have : y ≠ x := fun e => hj (nodup_ix hN e1 (e ▸ hi))
          simp [this, e]
        · exact .inr ⟨k, c, e, z.sameBut hs (cne y c e)⟩
    · obtain ⟨w', z⟩ := I.cell y c e
      exact ⟨w', z.sameBut hs (cne y c e)⟩
    · obtain ⟨e, n, ne, nf, d⟩ := I.pin p hp
      exact ⟨(hs.2 p.1 ne).trans e, n, ne, nf, d⟩
  · have hfn : X.fn x = true := by
      rcases hf with z | z
      · exact z
      · rw [z] at hk; cases hk
    obtain ⟨c, hc⟩ := I.ok.has x (.inl hk)
    obtain ⟨w', z⟩ := I.cell x c hc
    refine wpAny_storeName_cell I.ok.kind hk hc z (fun h' hc' hs => ?_)
    obtain ⟨oc, hoc, hocd⟩ := id z
    refine h { s with heap := h' } ⟨I.ok, I.os, I.bare, ⟨fun b o e n hb hx => ?_, fun b o e n hb hx => ?_, I.base.free, fun b o e hx => ?_, I.base.tups, I.base.frzs, I.base.tbls⟩, ⟨m, hn.sameBut hs (Ne.symm (cne x c hc)), fun j y v' e1 e2 e3 => ?_⟩, fun y c' e => ?_, I.free, I.freeC, fun p hp => ?_, tracked ⟨oc, hoc, I.freeC x c hc⟩ hs, by simpa using I.len⟩ ⟨c, hs, .inr hc⟩
    · exact (hs.2 b (Nat.ne_of_lt (Nat.lt_of_lt_of_le (Heap.lt_size e) (I.ok.cab x c hfn hc)))).trans (I.base.keep b o e n hb hx)
    · obtain ⟨sl, e1⟩ := I.base.slot b o e n hb hx
      exact ⟨sl, (hs.2 b (Nat.ne_of_lt (Nat.lt_of_lt_of_le (Heap.lt_size e) (I.ok.cab x c hfn hc)))).trans e1⟩
    · obtain ⟨o', e1⟩ := I.base.there b o e hx
      exact ⟨o', (hs.2 b (Nat.ne_of_lt (Nat.lt_of_lt_of_le (Heap.lt_size e) (I.ok.cab x c hfn hc)))).trans e1⟩
    · by_cases hj : j = i
      · subst hj
        rw [hi] at e1; cases e1
        rw [List.getElem?_set_self hiσ] at e2
        cases e2
        exact ⟨u, r, .inr ⟨.inl hk, c, hc, hc'⟩⟩
      · rw [List.getElem?_set_ne (Ne.symm hj)] at e2
        obtain ⟨u', r', q⟩ := hl j y v' e1 e2 e3
        refine ⟨u', r', ?_⟩
        rcases q with q | ⟨k, c', e, z'⟩
        · exact .inl q
        · refine .inr ⟨k, c', e, z'.sameBut hs ?_⟩
          rintro rfl
          exact hj (nodup_ix hN e1 (I.ok.inj _ _ _ e hc ▸ hi))
    · by_cases hcc : c' = c
      · subst hcc; exact ⟨_, hc'⟩
      · obtain ⟨w2, z2⟩ := I.cell y c' e
        exact ⟨w2, z2.sameBut hs hcc⟩
    · obtain ⟨e, n, ne, nf, d⟩ := I.pin p hp
      refine ⟨(hs.2 p.1 ?_).trans e, n, ne, nf, d⟩
      intro q
      rw [q, hoc] at e
      have q' : oc = p.2 := Option.some.inj e
      exact d w' (by rw [← q']; exact hocd)
theorem store_ok {M : Model} {A : Around} {E : Value → Shared → Prop} {i : Nat} {x : Str} {v : V} {u : Value} {Q : Unit → Shared → Prop} (I : Inv X pins σ H s) (hN : X.N.Nodup) (hi : X.N[i]? = some x) (hx : Loc X.env.scope x) (r : RelV v u)
    (h : ∀ s', Inv X pins (σ.set i (some v)) H s' → Q () s') (hf : X.fn x = true ∨ X.env.scope.names.lookup x = some .local := by first | exact .inl rfl | exact .inr rfl | assumption) : wpAny M A (storeName X.env x u) Q E s :=
  store_ok2 I hN hi hx r (fun s' I' _ => h s' I') hf
/-- behind a call or a block, the state as it is -/
theorem Inv.call' {s' : Shared} {ch : List Addr} (I : Inv X pins σ H s) (ho : s'.os = s.os) (u : Un (frs X.stack) ch H H' s.heap s'.heap) (hok : HOk X.prog X.w H' s'.heap) (hg : AllBare s'.gens)
    (hch : ∀ b ∈ ch, (b ∈ X.ex ∨ X.s₀.heap.objs.size ≤ b) ∧ b ≠ X.env.locals ∧ (∀ x c, X.env.cells.lookup x = some c → c ≠ b) ∧ ∀ p ∈ X.pn ++ pins, p.1 ≠ b) : Inv X pins σ H' s' := by
  obtain ⟨h', g', d', t', o'⟩ := s'
  have e : o' = s.os := ho
  subst e
  exact I.call (g' := g') (t' := t') (d' := d') u hok hg hch
end

/-! ### the judgements -/
/-- an exception: its class, its own dict's address (where it has one), the abstract heap behind it -/
abbrev XK := Value → Option Addr → Hp → Prop
abbrev St := List (Option V)
abbrev VK := V → Hp → Prop
/-- an expression's reading; a test's; an argument list's -/
abbrev TE := St → Hp → VK → Prop
abbrev TT := St → Hp → (Bool → Hp → Prop) → Prop
abbrev TA := St → Hp → (List V → Hp → Prop) → Prop
/-- what is wanted behind a statement -/
structure Ends where
  nx : St → Hp → Prop
  rt : VK
  bk : St → Hp → Prop := fun _ _ => False
  ct : St → Hp → Prop := fun _ _ => False
abbrev TS := Ends → St → Hp → Prop

def EP (X : Cx) (pins : List (Addr × Obj)) (σ : St) (Q : VK) (u : Value) (s' : Shared) : Prop := ∃ v H', Inv X pins σ H' s' ∧ RelV v u ∧ Q v H'
def TP (X : Cx) (pins : List (Addr × Obj)) (σ : St) (Q : Bool → Hp → Prop) (b : Bool) (s' : Shared) : Prop := ∃ H', Inv X pins σ H' s' ∧ Q b H'
def AP (X : Cx) (pins : List (Addr × Obj)) (σ : St) (Q : List V → Hp → Prop) (us : List Value) (s' : Shared) : Prop := ∃ vs H', Inv X pins σ H' s' ∧ Vals vs us ∧ Q vs H'
def SP (X : Cx) (pins : List (Addr × Obj)) (D : Ends) (f : Flow) (s' : Shared) : Prop :=
  match f with
  | .next => ∃ σ' H', Inv X pins σ' H' s' ∧ D.nx σ' H'
  | .brk => ∃ σ' H', Inv X pins σ' H' s' ∧ D.bk σ' H'
  | .cont => ∃ σ' H', Inv X pins σ' H' s' ∧ D.ct σ' H'
  | .ret u => ∃ v σ' H', Inv X pins σ' H' s' ∧ RelV v u ∧ D.rt v H'

def PE (X : Cx) (e : Expr) (t : TE) : Prop :=
  ∀ (pins : List (Addr × Obj)) (s : Shared) (σ : St) (H : Hp) (Q : VK), Inv X pins σ H s → t σ H Q → wpAny (model X.prog X.w) X.A (eval e X.env) (EP X pins σ Q) X.xe s
def PT (X : Cx) (e : Expr) (t : TT) : Prop :=
  ∀ (pins : List (Addr × Obj)) (s : Shared) (σ : St) (H : Hp) (Q : Bool → Hp → Prop), Inv X pins σ H s → t σ H Q → wpAny (model X.prog X.w) X.A (isTrue e X.env (eval e X.env)) (TP X pins σ Q) X.xe s
/-- a test whatever its 'whole' is (and, or) -/
def PW (X : Cx) (e : Expr) (t : TT) : Prop :=
  ∀ (whole : Sem Value) (pins : List (Addr × Obj)) (s : Shared) (σ : St) (H : Hp) (Q : Bool → Hp → Prop), Inv X pins σ H s → t σ H Q → wpAny (model X.prog X.w) X.A (isTrue e X.env whole) (TP X pins σ Q) X.xe s
theorem PW.pt {X : Cx} {e : Expr} {t : TT} (h : PW X e t) : PT X e t := h _
/-- an argument list (no star), from the left -/
def PA (X : Cx) (es : List Expr) (t : TA) : Prop :=
  ∀ (pos : Pos) (pins : List (Addr × Obj)) (s : Shared) (σ : St) (H : Hp) (Q : List V → Hp → Prop), Inv X pins σ H s → t σ H Q → wpAny (model X.prog X.w) X.A (spliced (backTo pos (starEach es X.env))) (AP X pins σ Q) X.xe s
def PS (X : Cx) (st : Stmt) (t : TS) : Prop :=
  ∀ (pins : List (Addr × Obj)) (s : Shared) (σ : St) (H : Hp) (D : Ends), Inv X pins σ H s → t D σ H → wpAny (model X.prog X.w) X.A (exec st X.env) (SP X pins D) X.xe s
def PSs (X : Cx) (st : List Stmt) (t : TS) : Prop :=
  ∀ (pins : List (Addr × Obj)) (s : Shared) (σ : St) (H : Hp) (D : Ends), Inv X pins σ H s → t D σ H → wpAny (model X.prog X.w) X.A (execs st X.env) (SP X pins D) X.xe s
/-- weaken the end -/
theorem thn {α : Type} {t : Sem α} {Q Q' : α → Shared → Prop} {M : Model} {A : Around} {E : Value → Shared → Prop} {s : Shared} (h : wpAny M A t Q E s) (hQ : ∀ a s, Q a s → Q' a s) : wpAny M A t Q' E s := wpAny_mono h hQ fun _ _ x => x
end L2

namespace L2
open PySem PySem.Spec PyProof.Rows
section
variable {X : Cx}

/-- two expressions in a row -/
theorem bin {a b : Expr} {ta tb : TE} (ha : PE X a ta) (hb : PE X b tb) {pins : List (Addr × Obj)} {s : Shared} {σ : St} {H : Hp} {R : V → V → Hp → Prop} (I : Inv X pins σ H s) (h : ta σ H fun x H1 => tb σ H1 fun y H2 => R x y H2)
    {α : Type} {Q : α → Shared → Prop} {f : Value → Value → Sem α}
    (hf : ∀ v u s2 x y H2, Inv X pins σ H2 s2 → RelV x v → RelV y u → R x y H2 → wpAny (model X.prog X.w) X.A (f v u) Q X.xe s2) :
    wpAny (model X.prog X.w) X.A (eval a X.env) (fun v s₁ => wpAny (model X.prog X.w) X.A (eval b X.env) (fun u s₂ => wpAny (model X.prog X.w) X.A (f v u) Q X.xe s₂) X.xe s₁) X.xe s := by
  refine thn (ha pins s σ H _ I h) fun v s1 ⟨x, H1, I1, r1, q1⟩ => ?_
  refine thn (hb pins s1 σ H1 _ I1 q1) fun u s2 ⟨y, H2, I2, r2, q2⟩ => ?_
  exact hf v u s2 x y H2 I2 r1 r2 q2

/-! ### names and constants -/
def tVar (i : Nat) : TE := fun σ H Q => ∃ v, σ[i]? = some (some v) ∧ Q v H
def tC (v : V) : TE := fun _ H Q => Q v H
theorem pe_var {i : Nat} {x : Str} {pos : Pos} (hN : X.N[i]? = some x) (hv : Vis X.env.scope x) (hd : (x == ("__debug__" : Str)) = false := by decide) (hcd : (x == ("__classdict__" : Str)) = false := by decide) : PE X (.Name x pos) (tVar i) := by
  intro pins s σ H Q I h
  obtain ⟨v, e, h⟩ := h
  obtain ⟨m, hn, hl⟩ := I.loc
  obtain ⟨u, r, l⟩ := hl i x v hN e hv
  have fin : EP X pins σ Q u s := ⟨v, H, I, r, h⟩
  rcases l with ⟨hk, hm⟩ | ⟨hk, c, hc, hcell⟩
  · exact wpAny_Name (wpAny_loadName_local I.ok.kind hk hn hm fin) hd
  · rcases hk with hk | hk
    · exact wpAny_Name (wpAny_loadName_cell I.ok.kind hk hc hcell fin) hd
    · exact wpAny_Name (wpAny_loadName_free I.ok.kind hk hc hcell fin hcd) hd
theorem pe_int {i j pos} : PE X (.Constant (.int i) j pos) (tC (.int i)) := fun _ _ _ H _ I h => wpAny_Constant_int ⟨.int i, H, I.tok _, ⟨_, rfl⟩, h⟩
theorem pe_bl {b j pos} : PE X (.Constant (.bool b) j pos) (tC (.bl b)) := fun _ _ _ H _ I h => Constant_bool ⟨.bl b, H, I, rfl, h⟩
theorem pe_non {j pos} : PE X (.Constant .none j pos) (tC .non) := fun _ _ _ H _ I h => Constant_none ⟨.non, H, I, rfl, h⟩
theorem pe_str {x j pos} : PE X (.Constant (.str x) j pos) (tC (.str x)) := fun _ _ _ H _ I h => Calls.Constant_str ⟨.str x, H, I.tok _, ⟨_, rfl⟩, h⟩

/-- a global name of the def -/
def Gl (X : Cx) (x : Str) : Prop := X.env.kindOf x = some .globalImplicit
theorem ld_glob {E : Value → Shared → Prop} {pins : List (Addr × Obj)} {s : Shared} {σ : St} {H : Hp} {x : Str} {u : Value} {pos : Pos} {Q : Value → Shared → Prop} (I : Inv X pins σ H s) (hg : Gl X x) (hm : X.mg x = some u) (h : Q u s)
    (hd : (x == ("__debug__" : Str)) = false := by decide) : wpAny (model X.prog X.w) X.A (eval (.Name x pos) X.env) Q E s :=
  Calls.Name_function_global I.ok.kind hg (Calls.loadGlobal_global (by rw [I.ok.glob]; exact I.mod.glob.keeps I.bk) hm h) hd
theorem ld_blt {E : Value → Shared → Prop} {pins : List (Addr × Obj)} {s : Shared} {σ : St} {H : Hp} {x : Str} {u : Value} {pos : Pos} {Q : Value → Shared → Prop} (I : Inv X pins σ H s) (hg : Gl X x) (hm : X.mg x = none) (hv : bootBuiltins x = some u) (h : Q u s)
    (hn : x ≠ "__name__" := by decide) (hd : (x == ("__debug__" : Str)) = false := by decide) : wpAny (model X.prog X.w) X.A (eval (.Name x pos) X.env) Q E s := by
  obtain ⟨mb, h1, h2⟩ := I.mod.blt
  exact Calls.Name_function_global I.ok.kind hg (Calls.loadGlobal_builtin (by rw [I.ok.glob]; exact I.mod.glob.keeps I.bk) hm (by rw [I.ok.blt]; exact h1.keeps I.bk) ((h2 x hn).trans hv) h) hd
/-- a module's constant, a class, a function, as a value -/
theorem pe_glob {x : Str} {v : V} {u : Value} {pos : Pos} (hg : Gl X x) (hm : X.mg x = some u) (r : RelV v u) (hd : (x == ("__debug__" : Str)) = false := by decide) : PE X (.Name x pos) (tC v) :=
  fun _ _ _ H _ I h => ld_glob I hg hm ⟨v, H, I, r, h⟩ hd
theorem pe_bltn {x : Str} {v : V} {u : Value} {pos : Pos} (hg : Gl X x) (hm : X.mg x = none) (hv : bootBuiltins x = some u) (r : RelV v u) (hn : x ≠ "__name__" := by decide) (hd : (x == ("__debug__" : Str)) = false := by decide) : PE X (.Name x pos) (tC v) :=
  fun _ _ _ H _ I h => ld_blt I hg hm hv ⟨v, H, I, r, h⟩ hn hd

/-! ### arithmetic -/
/-- two ints -/
def t2I (ta tb : TE) (k : Int → Int → Hp → Prop) : St → Hp → Prop := fun σ H => ta σ H fun x H1 => tb σ H1 fun y H2 => ∃ i j, x = .int i ∧ y = .int j ∧ k i j H2
def tAdd (ta tb : TE) : TE := fun σ H Q => t2I ta tb (fun i j H2 => Q (.int (i + j)) H2) σ H
def tSub (ta tb : TE) : TE := fun σ H Q => t2I ta tb (fun i j H2 => Q (.int (i - j)) H2) σ H
/-- the left factor below 2^64 -/
def tMul (ta tb : TE) : TE := fun σ H Q => t2I ta tb (fun i j H2 => (-(2 ^ 64) < i ∧ i < 2 ^ 64) ∧ Q (.int (i * j)) H2) σ H
variable {a b : Expr} {ta tb : TE} {pos : Pos}
theorem pe_add (ha : PE X a ta) (hb : PE X b tb) : PE X (.BinOp a .Add b pos) (tAdd ta tb) := by
  intro pins s σ H Q I h
  refine wpAny_BinOp (bin ha hb I h fun v u s2 x y H2 I2 rx ry q => ?_)
  obtain ⟨i, j, rfl, rfl, q⟩ := q
  obtain ⟨t, rfl⟩ := rx
  obtain ⟨t', rfl⟩ := ry
  exact add_int ⟨.int _, H2, I2.tok _, ⟨_, rfl⟩, q⟩
theorem pe_sub (ha : PE X a ta) (hb : PE X b tb) : PE X (.BinOp a .Sub b pos) (tSub ta tb) := by
  intro pins s σ H Q I h
  refine wpAny_BinOp (bin ha hb I h fun v u s2 x y H2 I2 rx ry q => ?_)
  obtain ⟨i, j, rfl, rfl, q⟩ := q
  obtain ⟨t, rfl⟩ := rx
  obtain ⟨t', rfl⟩ := ry
  exact sub_int ⟨.int _, H2, I2.tok _, ⟨_, rfl⟩, q⟩
theorem pe_mul (ha : PE X a ta) (hb : PE X b tb) : PE X (.BinOp a .Mult b pos) (tMul ta tb) := by
  intro pins s σ H Q I h
  refine wpAny_BinOp (bin ha hb I h fun v u s2 x y H2 I2 rx ry q => ?_)
  obtain ⟨i, j, rfl, rfl, ⟨q1, q2⟩, q⟩ := q
  obtain ⟨t, rfl⟩ := rx
  obtain ⟨t', rfl⟩ := ry
  exact mul_int ⟨.int _, H2, I2.tok _, ⟨_, rfl⟩, q⟩ (.of_left (intBits_le_64 q1 q2))

/-! ### comparisons -/
def PC (X : Cx) (op : CmpOp) (a b : Expr) (t : TE) : Prop :=
  ∀ (pins : List (Addr × Obj)) (s : Shared) (σ : St) (H : Hp) (Q : VK), Inv X pins σ H s → t σ H Q →
    wpAny (model X.prog X.w) X.A (eval a X.env) (fun v s₁ => wpAny (model X.prog X.w) X.A (eval b X.env) (fun u s₂ => wpAny (model X.prog X.w) X.A (compareOp op v u) (EP X pins σ Q) X.xe s₂) X.xe s₁) X.xe s
theorem nobehind (b : Expr) {op : CmpOp} (h : op ≠ .In) (h2 : op ≠ .NotIn) : behindInMarks op b = false := by
  have e1 : (op == CmpOp.In) = false := by cases op <;> first | rfl | exact absurd rfl h
  have e2 : (op == CmpOp.NotIn) = false := by cases op <;> first | rfl | exact absurd rfl h2
  cases b <;> simp [behindInMarks, e1, e2]
def tCmp (p : Int → Int → Bool) (ta tb : TE) : TE := fun σ H Q => t2I ta tb (fun i j H2 => Q (.bl (p i j)) H2) σ H
abbrev tLt : TE → TE → TE := tCmp fun i j => decide (i < j)
abbrev tLe : TE → TE → TE := tCmp fun i j => decide (i ≤ j)
abbrev tGt : TE → TE → TE := tCmp fun i j => decide (j < i)
abbrev tGe : TE → TE → TE := tCmp fun i j => decide (j ≤ i)
abbrev tEqI : TE → TE → TE := tCmp fun i j => decide (i = j)
abbrev tNeI : TE → TE → TE := tCmp fun i j => !decide (i = j)
/-- a comparison of two ints, by its rule -/
theorem pc_int {op : CmpOp} {p : Int → Int → Bool} (ha : PE X a ta) (hb : PE X b tb)
    (rule : ∀ (i j : Int) (t u : Tok) (Q : Value → Shared → Prop) (s : Shared), Q (.bool (p i j)) s → wpAny (model X.prog X.w) X.A (compareOp op (.int i t) (.int j u)) Q X.xe s) : PC X op a b (tCmp p ta tb) := by
  intro pins s σ H Q I h
  refine bin ha hb I h fun v u s2 x y H2 I2 rx ry q => ?_
  obtain ⟨i, j, rfl, rfl, q⟩ := q
  obtain ⟨t, rfl⟩ := rx
  obtain ⟨t', rfl⟩ := ry
  exact rule i j t t' _ s2 ⟨.bl _, H2, I2, rfl, q⟩
theorem pc_lt (ha : PE X a ta) (hb : PE X b tb) : PC X .Lt a b (tLt ta tb) := pc_int ha hb fun _ _ _ _ _ _ h => lt_int h
theorem pc_le (ha : PE X a ta) (hb : PE X b tb) : PC X .LtE a b (tLe ta tb) := pc_int ha hb fun _ _ _ _ _ _ h => le_int h
theorem pc_gt (ha : PE X a ta) (hb : PE X b tb) : PC X .Gt a b (tGt ta tb) := pc_int ha hb fun _ _ _ _ _ _ h => gt_int h
theorem pc_ge (ha : PE X a ta) (hb : PE X b tb) : PC X .GtE a b (tGe ta tb) := pc_int ha hb fun _ _ _ _ _ _ h => ge_int h
theorem pc_eqI (ha : PE X a ta) (hb : PE X b tb) : PC X .Eq a b (tEqI ta tb) := pc_int ha hb fun _ _ _ _ _ _ h => eq_int (by rw [Bool.beq_eq_decide_eq]; exact h)
theorem pc_neI (ha : PE X a ta) (hb : PE X b tb) : PC X .NotEq a b (tNeI ta tb) := pc_int ha hb fun _ _ _ _ _ _ h => ne_int (by rw [bne, Bool.beq_eq_decide_eq]; exact h)
/-- is None -/
def tIsN (ta : TE) : TE := fun σ H Q => ta σ H fun x H1 => Q (.bl (decide (x = .non))) H1
def tNotN (ta : TE) : TE := fun σ H Q => ta σ H fun x H1 => Q (.bl (!decide (x = .non))) H1
theorem RelV.none_iff {x : V} {v : Value} (r : RelV x v) : (v == Value.none) = decide (x = .non) := by
  cases x with
  | non => cases r; rfl
  | bl _ => cases r; rfl
  | int _ => obtain ⟨t, rfl⟩ := r; rfl
  | str _ => obtain ⟨t, rfl⟩ := r; rfl
  | byt _ => obtain ⟨t, rfl⟩ := r; rfl
  | flt _ => obtain ⟨t, rfl⟩ := r; rfl
  | ref _ => cases r; rfl
  | ty _ => cases r; rfl
theorem pc_isN {j pos'} (ha : PE X a ta) : PC X .Is a (.Constant .none j pos') (tIsN ta) := by
  intro pins s σ H Q I h
  refine thn (ha pins s σ H _ I h) fun v s1 ⟨x, H1, I1, r1, q1⟩ => ?_
  exact Constant_none (is_none_gen ⟨.bl _, H1, I1, by rw [r1.none_iff]; rfl, q1⟩)
theorem pc_notN {j pos'} (ha : PE X a ta) : PC X .IsNot a (.Constant .none j pos') (tNotN ta) := by
  intro pins s σ H Q I h
  refine thn (ha pins s σ H _ I h) fun v s1 ⟨x, H1, I1, r1, q1⟩ => ?_
  exact Constant_none (isnot_none_gen ⟨.bl _, H1, I1, by rw [r1.none_iff]; rfl, q1⟩)
/-- a comparison as a value, as a test -/
def tB (t : TE) : TT := fun σ H Q => t σ H fun x H1 => ∃ c, x = .bl c ∧ Q c H1
theorem pe_cmp {op : CmpOp} {t : TE} (h : PC X op a b t) (h1 : behindInMarks op b = false := by first | exact nobehind _ (by decide) (by decide) | rfl) : PE X (.Compare a [op] [b] pos) t := fun pins s σ H Q I hw => wpAny_Compare1 (h pins s σ H Q I hw) h1
theorem pt_cmp {op : CmpOp} {t : TE} (h : PC X op a b t) (h1 : behindInMarks op b = false := by first | exact nobehind _ (by decide) (by decide) | rfl) : PT X (.Compare a [op] [b] pos) (tB t) := by
  intro pins s σ H Q I hw
  refine wpAny_isTrue_Compare1 (thn (h pins s σ H _ I hw) fun v s1 h1 => thn h1 fun u s2 h2 => thn h2 fun c s3 ⟨x, H1, I1, r1, q1⟩ => ?_) h1
  obtain ⟨d, rfl, q⟩ := q1
  cases r1
  exact wpAny_truthy_bool ⟨H1, I1, q⟩
/-- an expression whose value is a bool, as a test -/
theorem pt_val {e : Expr} {t : TE} (h : PE X e t) (he : ∀ whole, isTrue e X.env whole = (do let v ← whole; standAt e.pos; holding [v] (truthy v)) := by intro _; rfl) : PT X e (tB t) := by
  intro pins s σ H Q I hw
  refine isTrue_plain (thn (h pins s σ H _ I hw) fun v s1 ⟨x, H1, I1, r1, q1⟩ => ?_) (he _)
  obtain ⟨d, rfl, q⟩ := q1
  cases r1
  exact wpAny_truthy_bool ⟨H1, I1, q⟩

/-! ### and, or, not -/
variable {tA tB' : TT} {rest : List Expr}
def tAnd (t u : TT) : TT := fun σ H Q => t σ H fun c H1 => if c = true then u σ H1 Q else Q false H1
def tOr (t u : TT) : TT := fun σ H Q => t σ H fun c H1 => if c = true then Q true H1 else u σ H1 Q
def tNot (t : TT) : TT := fun σ H Q => t σ H fun c H1 => Q (!c) H1
theorem pw_and1 (ha : PT X a tA) : PW X (.BoolOp .And [a] pos) tA := by
  intro wh pins s σ H Q I h
  refine isTrue_and (thn (ha pins s σ H Q I h) fun c s1 e => ?_)
  cases c with
  | true => exact isTrue_and_nil e
  | false => exact e
theorem pw_or1 (ha : PT X a tA) : PW X (.BoolOp .Or [a] pos) tA := by
  intro wh pins s σ H Q I h
  refine isTrue_or (thn (ha pins s σ H Q I h) fun c s1 e => ?_)
  cases c with
  | false => exact isTrue_or_nil e
  | true => exact e
theorem pw_and (ha : PT X a tA) (hb : PW X (.BoolOp .And (b :: rest) pos) tB') : PW X (.BoolOp .And (a :: b :: rest) pos) (tAnd tA tB') := by
  intro wh pins s σ H Q I h
  refine isTrue_and (thn (ha pins s σ H _ I h) fun c s1 ⟨H1, I1, q1⟩ => ?_)
  cases c with
  | true => exact hb wh pins s1 σ H1 Q I1 q1
  | false => exact ⟨H1, I1, q1⟩
theorem pw_or (ha : PT X a tA) (hb : PW X (.BoolOp .Or (b :: rest) pos) tB') : PW X (.BoolOp .Or (a :: b :: rest) pos) (tOr tA tB') := by
  intro wh pins s σ H Q I h
  refine isTrue_or (thn (ha pins s σ H _ I h) fun c s1 ⟨H1, I1, q1⟩ => ?_)
  cases c with
  | true => exact ⟨H1, I1, q1⟩
  | false => exact hb wh pins s1 σ H1 Q I1 q1
theorem pt_not (ha : PT X a tA) : PT X (.UnaryOp .Not a pos) (tNot tA) := by
  intro pins s σ H Q I h
  exact isTrue_not (ha pins s σ H (fun c H1 => Q (!c) H1) I h)
/-- .. as values (bools) -/
def tAndV (ta tb : TE) : TE := fun σ H Q => ta σ H fun x H1 => ∃ c, x = .bl c ∧ if c = true then tb σ H1 Q else Q (.bl false) H1
def tOrV (ta tb : TE) : TE := fun σ H Q => ta σ H fun x H1 => ∃ c, x = .bl c ∧ if c = true then Q (.bl true) H1 else tb σ H1 Q
def tNotV (ta : TE) : TE := fun σ H Q => ta σ H fun x H1 => ∃ c, x = .bl c ∧ Q (.bl (!c)) H1
theorem pe_one {op} {t : TE} (h : PE X a t) : PE X (.BoolOp op [a] pos) t := fun pins s σ H Q I hw => BoolOp_one (h pins s σ H Q I hw)
theorem pe_and (ha : PE X a ta) (hb : PE X (.BoolOp .And (b :: rest) pos) tb) : PE X (.BoolOp .And (a :: b :: rest) pos) (tAndV ta tb) := by
  intro pins s σ H Q I h
  refine BoolOp_and (thn (ha pins s σ H _ I h) fun v s1 ⟨x, H1, I1, r1, q1⟩ => ?_)
  obtain ⟨c, rfl, q1⟩ := q1
  cases r1
  refine wpAny_truthy_bool ?_
  cases c with
  | true => exact hb pins s1 σ H1 Q I1 q1
  | false => exact ⟨.bl false, H1, I1, rfl, q1⟩
theorem pe_or (ha : PE X a ta) (hb : PE X (.BoolOp .Or (b :: rest) pos) tb) : PE X (.BoolOp .Or (a :: b :: rest) pos) (tOrV ta tb) := by
  intro pins s σ H Q I h
  refine BoolOp_or (thn (ha pins s σ H _ I h) fun v s1 ⟨x, H1, I1, r1, q1⟩ => ?_)
  obtain ⟨c, rfl, q1⟩ := q1
  cases r1
  refine wpAny_truthy_bool ?_
  cases c with
  | false => exact hb pins s1 σ H1 Q I1 q1
  | true => exact ⟨.bl true, H1, I1, rfl, q1⟩
theorem pe_not (ha : PE X a ta) : PE X (.UnaryOp .Not a pos) (tNotV ta) := by
  intro pins s σ H Q I h
  refine UnaryOp_ (thn (ha pins s σ H _ I h) fun v s1 ⟨x, H1, I1, r1, q1⟩ => ?_)
  obtain ⟨c, rfl, q1⟩ := q1
  cases r1
  exact not_of (wpAny_truthy_bool ⟨.bl (!c), H1, I1, rfl, q1⟩)
/-- a if t else b -/
def tIf (t : TT) (ta tb : TE) : TE := fun σ H Q => t σ H fun c H1 => if c = true then ta σ H1 Q else tb σ H1 Q
theorem pe_ifExp {c : Expr} (hc : PT X c tA) (ha : PE X a ta) (hb : PE X b tb) : PE X (.IfExp c a b pos) (tIf tA ta tb) := by
  intro pins s σ H Q I h
  refine wpAny_IfExp (thn (hc pins s σ H _ I h) fun d s1 ⟨H1, I1, q1⟩ => ?_)
  cases d with
  | true => exact ha pins s1 σ H1 Q I1 q1
  | false => exact hb pins s1 σ H1 Q I1 q1
end
end L2

namespace L2
open PySem PySem.Spec PyProof.Rows

/-! ### a list, a tuple that is read: tracked, frozen, or an object of the module -/
def SqL (K : PySem.W.Frag) (H : Hp) (a : Addr) (xs : List V) : Prop :=
  Rd H a (.lst xs) ∨
    ∃ (o : Obj) (its : Array Value) (n : Nat), K.lookup a = some o ∧ o.cls = .type "list" ∧ o.dict = none ∧ o.data = .seq its n ∧ its.size ≤ sizeLine ∧ Vals xs its.toList
def SqT (K : PySem.W.Frag) (H : Hp) (a : Addr) (xs : List V) : Prop :=
  Rd H a (.tup xs) ∨
    ∃ (o : Obj) (its : Array Value) (n : Nat), K.lookup a = some o ∧ o.cls = .type "tuple" ∧ o.data = .seq its n ∧ its.size ≤ sizeLine ∧ Vals xs its.toList
def absV : Value → Option V
  | .none => some .non
  | .bool b => some (.bl b)
  | .int i _ => some (.int i)
  | .str x _ => some (.str x)
  | .bytes b _ => some (.byt b)
  | .float b _ => some (.flt b)
  | .ref a => some (.ref a)
  | .type n => some (.ty n)
  | _ => none
theorem RelV.abs {x : V} {u : Value} (r : RelV x u) : absV u = some x := by
  cases x with
  | non => cases r; rfl
  | bl _ => cases r; rfl
  | int _ => obtain ⟨t, rfl⟩ := r; rfl
  | str _ => obtain ⟨t, rfl⟩ := r; rfl
  | byt _ => obtain ⟨t, rfl⟩ := r; rfl
  | flt _ => obtain ⟨t, rfl⟩ := r; rfl
  | ref _ => cases r; rfl
  | ty _ => cases r; rfl
theorem RelV.inj {x y : V} {u : Value} (r : RelV x u) (q : RelV y u) : x = y := Option.some.inj (r.abs.symm.trans q.abs)
theorem Vals.inj : ∀ {xs ys : List V} {us : List Value}, Vals xs us → Vals ys us → xs = ys
  | _, _, _, .nil, .nil => rfl
  | _, _, _, .cons r t, .cons r' t' => by rw [r.inj r', Vals.inj t t']
section
variable {X : Cx} {pins : List (Addr × Obj)} {σ : St} {H : Hp} {s : Shared} {a : Addr} {xs ys : List V}
theorem SqL.of {K : PySem.W.Frag} (h : H a = some (.lst xs)) : SqL K H a xs := .inl (.inl h)
theorem SqT.of {K : PySem.W.Frag} (h : H a = some (.tup xs)) : SqT K H a xs := .inl (.inl h)
theorem Inv.list (I : Inv X pins σ H s) (h : SqL X.K H a xs) : ∃ its : List Value, Vals xs its ∧ PlainL s.heap a its.toArray ∧ xs.length ≤ sizeLine := by
  rcases h with h | ⟨o, its, n, hk, hc, hd, hs, hz, r⟩
  · obtain ⟨z, its, n, r, e⟩ := h.ok I.hok
    exact ⟨its, r, ⟨_, n, e, rfl, rfl, rfl⟩, z⟩
  · refine ⟨its.toList, r, ⟨o, n, I.kIn a o hk, hc, hd, by simpa using hs⟩, ?_⟩
    have e := r.length
    simp only [Array.length_toList] at e
    omega
theorem Inv.tuple (I : Inv X pins σ H s) (h : SqT X.K H a xs) : ∃ its : List Value, Vals xs its ∧ IsTup s.heap a its.toArray ∧ xs.length ≤ sizeLine := by
  rcases h with h | ⟨o, its, n, hk, hc, hs, hz, r⟩
  · obtain ⟨z, its, r, p⟩ := h.ok I.hok
    exact ⟨its, r, p, z⟩
  · refine ⟨its.toList, r, ⟨o, I.kIn a o hk, hc, n, by simpa using hs⟩, ?_⟩
    have e := r.length
    simp only [Array.length_toList] at e
    omega
theorem Inv.list_inj (I : Inv X pins σ H s) (h : SqL X.K H a xs) (h' : SqL X.K H a ys) : xs = ys := by
  obtain ⟨its, r, ⟨o, n, e, _, _, d⟩, _⟩ := I.list h
  obtain ⟨its', r', ⟨o', n', e', _, _, d'⟩, _⟩ := I.list h'
  rw [e] at e'; cases e'
  rw [d] at d'
  injection d' with d1 _
  have : its = its' := by simpa using congrArg Array.toList d1
  subst this
  exact r.inj r'
theorem Inv.tuple_inj (I : Inv X pins σ H s) (h : SqT X.K H a xs) (h' : SqT X.K H a ys) : xs = ys := by
  obtain ⟨its, r, ⟨o, e, _, n, d⟩, _⟩ := I.tuple h
  obtain ⟨its', r', ⟨o', e', _, n', d'⟩, _⟩ := I.tuple h'
  rw [e] at e'; cases e'
  rw [d] at d'
  injection d' with d1 _
  have : its = its' := by simpa using congrArg Array.toList d1
  subst this
  exact r.inj r'
end

/-! ### another wish about exceptions -/
abbrev Cx.wish (X : Cx) (E : Value → Shared → Prop) : Cx := { X with xe := E }
/-- no exception leaves -/
abbrev Cx.nox (X : Cx) : Cx := X.wish fun _ _ => False
theorem Cx.Ok.wish {X : Cx} (ok : X.Ok) (E : Value → Shared → Prop) : (X.wish E).Ok :=
  ⟨ok.mod, ok.kind, ok.glob, ok.blt, ok.above, ok.inj, ok.has, ok.cab, ok.hd, ok.frames, ok.stk, ok.exf, ok.bs, ok.bsz, ok.noex, ok.exfs, ok.funs, ok.frf⟩
theorem Cx.Ok.unwish {X : Cx} {E : Value → Shared → Prop} (ok : (X.wish E).Ok) : X.Ok :=
  ⟨ok.mod, ok.kind, ok.glob, ok.blt, ok.above, ok.inj, ok.has, ok.cab, ok.hd, ok.frames, ok.stk, ok.exf, ok.bs, ok.bsz, ok.noex, ok.exfs, ok.funs, ok.frf⟩
section
variable {X : Cx} {pins : List (Addr × Obj)} {σ : St} {H : Hp} {s : Shared} {E : Value → Shared → Prop}
theorem Inv.wish (I : Inv X pins σ H s) (E : Value → Shared → Prop) : Inv (X.wish E) pins σ H s := ⟨I.ok.wish E, I.os, I.bare, I.base, I.loc, I.cell, I.free, I.freeC, I.pin, I.hok, I.len⟩
theorem Inv.unwish (I : Inv (X.wish E) pins σ H s) : Inv X pins σ H s := ⟨I.ok.unwish, I.os, I.bare, I.base, I.loc, I.cell, I.free, I.freeC, I.pin, I.hok, I.len⟩
theorem SP.unwish {D : Ends} {f : Flow} {s' : Shared} (h : SP (X.wish E) pins D f s') : SP X pins D f s' := by
  cases f with
  | next => obtain ⟨σ', H', I, q⟩ := h; exact ⟨σ', H', I.unwish, q⟩
  | brk => obtain ⟨σ', H', I, q⟩ := h; exact ⟨σ', H', I.unwish, q⟩
  | cont => obtain ⟨σ', H', I, q⟩ := h; exact ⟨σ', H', I.unwish, q⟩
  | ret u => obtain ⟨v, σ', H', I, r, q⟩ := h; exact ⟨v, σ', H', I.unwish, r, q⟩
theorem PE.nox {e : Expr} {t : TE} (h : PE X.nox e t) : PE X e t := fun pins s σ H Q I hw =>
  wpAny_mono (h pins s σ H Q (I.wish _) hw) (fun _ _ ⟨v, H', I', r, q⟩ => ⟨v, H', I'.unwish, r, q⟩) fun _ _ z => False.elim z
theorem PT.nox {e : Expr} {t : TT} (h : PT X.nox e t) : PT X e t := fun pins s σ H Q I hw =>
  wpAny_mono (h pins s σ H Q (I.wish _) hw) (fun _ _ ⟨H', I', q⟩ => ⟨H', I'.unwish, q⟩) fun _ _ z => False.elim z
theorem PSs.nox {st : List Stmt} {t : TS} (h : PSs X.nox st t) : PSs X st t := fun pins s σ H D I hw =>
  wpAny_mono (h pins s σ H D (I.wish _) hw) (fun _ _ q => q.unwish) fun _ _ z => False.elim z
end

/-! ### blocks and small statements -/
section
variable {X : Cx} {st : Stmt} {rest : List Stmt} {t u : TS} {e : Expr} {te : TE} {pos : Pos}
def tNext : TS := fun D σ H => D.nx σ H
def tSeq (t u : TS) : TS := fun D σ H => t { D with nx := u D } σ H
theorem pss_nil : PSs X [] tNext := fun _ _ σ H _ I h => wpAny_execs_nil ⟨σ, H, I, h⟩
theorem pss_cons (h1 : PS X st t) (h2 : PSs X rest u) : PSs X (st :: rest) (tSeq t u) := by
  intro pins s σ H D I h
  refine wpAny_execs_cons (thn (h1 pins s σ H { D with nx := u D } I h) fun f s1 q => ?_)
  cases f with
  | next =>
    obtain ⟨σ', H', I', q⟩ := q
    exact h2 pins s1 σ' H' D I' q
  | ret v => exact q
  | brk => exact q
  | cont => exact q
theorem pss_one (h1 : PS X st t) : PSs X [st] t := by
  intro pins s σ H D I h
  refine wpAny_execs_cons (thn (h1 pins s σ H D I h) fun f s1 q => ?_)
  cases f with
  | next => exact wpAny_execs_nil q
  | ret v => exact q
  | brk => exact q
  | cont => exact q
def tBreak : TS := fun D σ H => D.bk σ H
def tCont : TS := fun D σ H => D.ct σ H
theorem ps_pass : PS X (.Pass pos) tNext := fun _ _ σ H _ I h => wpAny_Pass ⟨σ, H, I, h⟩
theorem ps_break : PS X (.Break pos) tBreak := fun _ _ σ H _ I h => wpAny_Break ⟨σ, H, I, h⟩
theorem ps_continue : PS X (.Continue pos) tCont := fun _ _ σ H _ I h => wpAny_Continue ⟨σ, H, I, h⟩
/-- in a def's body nothing is shown -/
theorem Inv.quiet {pins : List (Addr × Obj)} {σ : St} {H : Hp} {s : Shared} (I : Inv X pins σ H s) : interactive X.env = false := by simp [interactive, I.ok.kind]
/-- a docstring -/
theorem ps_doc {x j pos pos'} : PS X (.Expr (.Constant (.str x) j pos) pos') tNext := fun _ s σ H _ I h => wpAny_Expr (Calls.Constant_str (show SP X _ _ .next { s with toks := s.toks + 1 } from ⟨σ, H, I.tok _, h⟩)) I.quiet
/-- an expression whose value is dropped -/
def tDrop (te : TE) : TS := fun D σ H => te σ H fun _ H1 => D.nx σ H1
theorem ps_expr (he : PE X e te) (hs : swapsWith e none pos.line X.env = pure false := by rfl) : PS X (.Expr e pos) (tDrop te) := by
  intro pins s σ H D I h
  exact wpAny_Expr_any (thn (he pins s σ H _ I h) fun v s1 ⟨x, H1, I1, r1, q1⟩ => ⟨σ, H1, I1, q1⟩) I.quiet hs
def tRet (te : TE) : TS := fun D σ H => te σ H D.rt
theorem ps_ret (he : PE X e te) : PS X (.Return (some e) pos) (tRet te) := by
  intro pins s σ H D I h
  exact wpAny_Return_some (thn (he pins s σ H _ I h) fun v s1 ⟨x, H1, I1, r1, q1⟩ => ⟨x, σ, H1, I1, r1, q1⟩)
def tRetN : TS := fun D _ H => D.rt .non H
theorem ps_retN : PS X (.Return none pos) tRetN := fun _ _ σ H _ I h => wpAny_Return_none ⟨.non, σ, H, I, rfl, h⟩
def tIfS (c : TT) (t u : TS) : TS := fun D σ H => c σ H fun b H1 => if b = true then t D σ H1 else u D σ H1
theorem ps_if {c : Expr} {a b : List Stmt} {tc : TT} (hc : PT X c tc) (ha : PSs X a t) (hb : PSs X b u) : PS X (.If c a b pos) (tIfS tc t u) := by
  intro pins s σ H D I h
  refine wpAny_If (thn (hc pins s σ H _ I h) fun d s1 ⟨H1, I1, q1⟩ => ?_)
  cases d with
  | true => exact ha pins s1 σ H1 D I1 q1
  | false => exact hb pins s1 σ H1 D I1 q1
/-- code that the proof never comes to -/
def tNever : TS := fun _ _ _ => False
theorem ps_never : PS X st tNever := fun _ _ _ _ _ _ h => h.elim
theorem pss_never {sts : List Stmt} : PSs X sts tNever := fun _ _ _ _ _ _ h => h.elim
end

/-! ### targets -/
abbrev TG := V → St → Hp → (St → Hp → Prop) → Prop
abbrev TGs := List V → St → Hp → (St → Hp → Prop) → Prop
def PG (X : Cx) (target : Expr) (t : TG) : Prop :=
  ∀ (pins : List (Addr × Obj)) (s : Shared) (σ : St) (H : Hp) (v : V) (u : Value) (Q : St → Hp → Prop), Inv X pins σ H s → RelV v u → t v σ H Q →
    wpAny (model X.prog X.w) X.A (assign target X.env u) (fun _ s' => ∃ σ' H', Inv X pins σ' H' s' ∧ Q σ' H') X.xe s
/-- several targets, one after another -/
def PGs (X : Cx) (ts : List Expr) (t : TGs) : Prop :=
  ∀ (pins : List (Addr × Obj)) (s : Shared) (σ : St) (H : Hp) (vs : List V) (us : List Value) (Q : St → Hp → Prop), Inv X pins σ H s → Vals vs us → t vs σ H Q →
    wpAny (model X.prog X.w) X.A (assignInOrder ((assignEach ts X.env).map (·.2)) us) (fun _ s' => ∃ σ' H', Inv X pins σ' H' s' ∧ Q σ' H') X.xe s
/-- o[i] = v, by values -/
abbrev TSet := V → V → V → Hp → (Hp → Prop) → Prop
def PSet (X : Cx) (t : TSet) : Prop :=
  ∀ (pins : List (Addr × Obj)) (s : Shared) (σ : St) (H : Hp) (o i v : V) (ov iv u : Value) (Q : Hp → Prop), Inv X pins σ H s → RelV o ov → RelV i iv → RelV v u → t o i v H Q →
    wpAny (model X.prog X.w) X.A (setItem ov iv u) (fun _ s' => ∃ H', Inv X pins σ H' s' ∧ Q H') X.xe s
/-- a op= b, by values -/
abbrev TIp := V → V → Hp → VK → Prop
def PIp (X : Cx) (op : Operator) (t : TIp) : Prop :=
  ∀ (pins : List (Addr × Obj)) (s : Shared) (σ : St) (H : Hp) (x y : V) (v u : Value) (Q : VK), Inv X pins σ H s → RelV x v → RelV y u → t x y H Q →
    wpAny (model X.prog X.w) X.A (inplaceOp op v u) (EP X pins σ Q) X.xe s
section
variable {X : Cx} {pos : Pos}
def gName (i : Nat) : TG := fun v σ H Q => Q (σ.set i (some v)) H
theorem pg_name {i : Nat} {x : Str} (hN : X.N.Nodup) (hi : X.N[i]? = some x) (hx : Loc X.env.scope x) (hf : X.fn x = true ∨ X.env.scope.names.lookup x = some .local := by first | exact .inl rfl | exact .inr rfl | assumption) : PG X (.Name x pos) (gName i) := by
  intro pins s σ H v u Q I r h
  exact wpAny_assign_Name (store_ok I hN hi hx r (fun s' I' => ⟨_, H, I', h⟩) hf)
def gNil : TGs := fun vs σ H Q => vs = [] ∧ Q σ H
def gCons (t : TG) (u : TGs) : TGs := fun vs σ H Q => ∃ v r, vs = v :: r ∧ t v σ H fun σ' H' => u r σ' H' Q
theorem pgs_nil : PGs X [] gNil := by
  intro pins s σ H vs us Q I r h
  obtain ⟨e, h⟩ := h
  subst e
  cases r
  exact assignInOrder_nil ⟨σ, H, I, h⟩
theorem pgs_cons {e : Expr} {es : List Expr} {t : TG} {u : TGs} (h1 : PG X e t) (h2 : PGs X es u)
    (hs : (assignEach (e :: es) X.env).map (·.2) = assign e X.env :: (assignEach es X.env).map (·.2) := by rfl) : PGs X (e :: es) (gCons t u) := by
  intro pins s σ H vs us Q I r h
  obtain ⟨v, vr, e1, h⟩ := h
  subst e1
  cases r with
  | cons r rr =>
    rw [hs]
    refine assignInOrder_cons (thn (h1 pins s σ H _ _ _ I r h) fun _ s1 ⟨σ1, H1, I1, q1⟩ => ?_)
    exact h2 pins s1 σ1 H1 _ _ Q I1 rr q1
/-- (a, b, ..) = a tuple of that length -/
def gTup (K : PySem.W.Frag) (n : Nat) (t : TGs) : TG := fun v σ H Q => ∃ a xs, v = .ref a ∧ SqT K H a xs ∧ xs.length = n ∧ t xs σ H Q
theorem pg_tup {es : List Expr} {k : Nat} {t : TGs} {n : Nat} (hc : X.calm = true) (h : PGs X es t)
    (hn : (assignEach es X.env).length = n := by rfl) (hst : (assignEach es X.env).findIdx? (·.1) = none := by rfl) : PG X (.Tuple es k pos) (gTup X.K n t) := by
  intro pins s σ H v u Q I r hw
  obtain ⟨a, xs, e1, hq, hl, hw⟩ := hw
  subst e1
  cases r
  obtain ⟨its, rv, ht, hz⟩ := I.tuple hq
  refine assign_Tuple_tuple (I.ok.hd hc) ht (by simp [hn, ← hl, rv.length]) hst fun h' hx => ?_
  have I1 : Inv X pins σ H { s with heap := h' } := I.kept (t' := s.toks) fun b o e => hx b o (Nat.ne_of_lt (Heap.lt_size e)) e
  exact h pins _ σ H xs _ Q I1 (by simpa using rv) hw
/-- o[i] = .. -/
def gSub (to ti : TE) (t : TSet) : TG := fun v σ H Q => to σ H fun o H1 => ti σ H1 fun i H2 => t o i v H2 fun H3 => Q σ H3
theorem pg_sub {o i : Expr} {to ti : TE} {t : TSet} (ho : PE X o to) (hi : PE X i ti) (hs : PSet X t)
    (ha : ∀ v, assign (.Subscript o i pos) X.env v = (do
      let ov ← holding [v] (eval o X.env)
      let iv ← holding [v, ov] (eval i X.env)
      standAt pos
      holding [v, ov, iv] (setItem ov iv v)
      release [v, ov, iv] []) := by intro _; rfl) : PG X (.Subscript o i pos) (gSub to ti t) := by
  intro pins s σ H v u Q I r h
  rw [ha]
  refine wpAny_bind (wpAny_holding (thn (ho pins s σ H _ I h) fun ov s1 ⟨x, H1, I1, r1, q1⟩ => ?_))
  refine wpAny_bind (wpAny_holding (thn (hi pins s1 σ H1 _ I1 q1) fun iv s2 ⟨y, H2, I2, r2, q2⟩ => ?_))
  refine wpAny_bind (wpAny_standAt (wpAny_bind (wpAny_holding (thn (hs pins s2 σ H2 x y v ov iv u _ I2 r1 r2 r q2) fun _ s3 ⟨H3, I3, q3⟩ => ?_))))
  exact wpAny_release ⟨σ, H3, I3, q3⟩
/-- target = value -/
def tAsg (te : TE) (g : TG) : TS := fun D σ H => te σ H fun x H1 => g x σ H1 D.nx
theorem ps_asg {tg e : Expr} {te : TE} {g : TG} (he : PE X e te) (hg : PG X tg g) (hs : swapsWithSole [tg] e pos.line X.env = pure false := by rfl) (hw : swappedStores [tg] e X.env = pure none := by rfl)
    (h1 : (assignEach [tg] X.env).map (·.2) = [assign tg X.env] := by rfl) : PS X (.Assign [tg] e pos) (tAsg te g) := by
  intro pins s σ H D I h
  refine wpAny_Assign_stores (thn (he pins s σ H _ I h) fun v s1 ⟨x, H1, I1, r1, q1⟩ => ?_) hs hw
  rw [h1]
  exact thn (hg pins s1 σ H1 x v _ I1 r1 q1) fun _ s2 q => q
/-- name = value -/
theorem ps_set {i : Nat} {x : Str} {e : Expr} {te : TE} {pos' : Pos} (hN : X.N.Nodup) (hi : X.N[i]? = some x) (hx : Loc X.env.scope x) (he : PE X e te) (hs : swapsWith e (some (.Name x pos')) pos.line X.env = pure false := by rfl) (hf : X.fn x = true ∨ X.env.scope.names.lookup x = some .local := by first | exact .inl rfl | exact .inr rfl | assumption) :
    PS X (.Assign [.Name x pos'] e pos) (tAsg te (gName i)) := by
  intro pins s σ H D I h
  refine wpAny_Assign_Name (thn (he pins s σ H _ I h) fun v s1 ⟨y, H1, I1, r1, q1⟩ => ?_) hs
  exact store_ok I1 hN hi hx r1 (fun s2 I2 => ⟨_, H1, I2, q1⟩) hf
/-- a, b = x, y with plain local names: stored from the right; the pair itself is not tracked (the opening rows as in PyProof/Rows/TupAssign.lean:23) -/
def tPar (i j : Nat) (ta : TA) : TS := fun D σ H => ta σ H fun vs H1 => ∃ v w, vs = [v, w] ∧ D.nx ((σ.set i (some v)).set j (some w)) H1
theorem ps_par {i j : Nat} {x y : Str} {a b : Expr} {ta : TA} {px py pt : Pos} {kt k2 pt2} (hc : X.calm = true) (hN : X.N.Nodup) (hi : X.N[i]? = some x) (hj : X.N[j]? = some y) (hij : i ≠ j)
    (hx : X.env.scope.names.lookup x = some .local) (hy : X.env.scope.names.lookup y = some .local) (ha : PA X [a, b] ta)
    (hw : swappedStores [.Tuple [.Name x px, .Name y py] kt pt] (.Tuple [a, b] k2 pt2) X.env = pure (some [x, y]))
    (hs : swapsWithSole [.Tuple [.Name x px, .Name y py] kt pt] (.Tuple [a, b] k2 pt2) pos.line X.env = pure false := by rfl) :
    PS X (.Assign [.Tuple [.Name x px, .Name y py] kt pt] (.Tuple [a, b] k2 pt2) pos) (tPar i j ta) := by
  intro pins s σ H D I h
  rw [exec_Assign_arm]
  refine wpAny_bind (wpAny_standAt ?_)
  rw [hs]
  refine wpAny_bind (wpAny_pure ?_)
  rw [if_neg (by decide)]
  refine wpAny_bind (Tuple_ (thn (ha _ pins s σ H _ I h) fun us s1 ⟨vs, H1, I1, r1, q1⟩ => ?_))
  obtain ⟨v, w, e1, q1⟩ := q1
  subst e1
  obtain ⟨u1, u2, rfl, rv, rw'⟩ : ∃ u1 u2, us = [u1, u2] ∧ RelV v u1 ∧ RelV w u2 := by
    cases r1 with
    | cons p q =>
      cases q with
      | cons p' q' =>
        cases q'
        exact ⟨_, _, rfl, p, p'⟩
  refine wpAny_newObj_type ?_ (by show 2 ≤ sizeLine; decide)
  have I2 : Inv X pins σ H1 { s1 with heap := s1.heap.push { cls := .type "tuple", data := .seq [u1, u2].toArray } } := I1.kept (t' := s1.toks) fun b o e => Heap.get?_push_of_some _ e
  rw [hw]
  refine wpAny_bind (wpAny_pure ?_)
  show wpAny (model X.prog X.w) X.A (do rule "assign.swapped-stores"; let items ← unpackItems (.ref s1.heap.objs.size) 2 none; assignInOrder [fun v => bindName X.env y v, fun v => bindName X.env x v] items.reverse; pure Flow.next) _ _ _
  refine wpAny_bind (wpAny_rule (wpAny_bind (unpackItems_tuple (items := #[u1, u2]) (I.ok.hd hc) (IsTup.new s1.heap _) fun h' hx' => ?_)))
  have I3 := I2.kept (h' := h') (t' := s1.toks) fun b o e => hx' b o (Nat.ne_of_lt (Heap.lt_size e)) e
  show wpAny _ _ (assignInOrder [fun v => bindName X.env y v, fun v => bindName X.env x v] [u2, u1] >>= fun _ => pure Flow.next) _ _ _
  refine wpAny_bind (assignInOrder_cons (wpAny_bindName (store_ok I3 hN hj (.inl hy) rw' (fun s2 I4 => ?_) (.inr hy))))
  refine assignInOrder_cons (wpAny_bindName (store_ok I4 hN hi (.inl hx) rv (fun s3 I5 => assignInOrder_nil (wpAny_pure ?_)) (.inr hx)))
  rw [List.set_comm _ _ (Ne.symm hij)] at I5
  exact ⟨_, H1, I5, q1⟩
/-- name op= e -/
def tAug (i : Nat) (te : TE) (ti : TIp) : TS := fun D σ H => ∃ x, σ[i]? = some (some x) ∧ te σ H fun y H1 => ti x y H1 fun z H2 => D.nx (σ.set i (some z)) H2
theorem ps_aug {i : Nat} {x : Str} {e : Expr} {te : TE} {op : Operator} {ti : TIp} {pos' : Pos} (hN : X.N.Nodup) (hi : X.N[i]? = some x) (hx : Loc X.env.scope x) (he : PE X e te) (ho : PIp X op ti) (hf : X.fn x = true ∨ X.env.scope.names.lookup x = some .local := by first | exact .inl rfl | exact .inr rfl | assumption) :
    PS X (.AugAssign (.Name x pos') op e pos) (tAug i te ti) := by
  intro pins s σ H D I h
  obtain ⟨v, e1, h⟩ := h
  obtain ⟨m, hn, hl⟩ := I.loc
  have vis : Vis X.env.scope x := by rcases hx with k | k; exact .inl k; exact .inr (.inl k)
  obtain ⟨u, r, l⟩ := hl i x v hi e1 vis
  refine wpAny_AugAssign_Name ?_
  have go : wpAny (model X.prog X.w) X.A (eval e X.env) (fun w s₂ => wpAny (model X.prog X.w) X.A (inplaceOp op u w) (fun r s₃ => wpAny (model X.prog X.w) X.A (storeName X.env x r) (fun _ => SP X pins D .next) X.xe s₃) X.xe s₂) X.xe s := by
    refine thn (he pins s σ H _ I h) fun w s1 ⟨y, H1, I1, r1, q1⟩ => ?_
    refine thn (ho pins s1 σ H1 v y u w _ I1 r r1 q1) fun z s2 ⟨zv, H2, I2, r2, q2⟩ => ?_
    exact store_ok I2 hN hi hx r2 (fun s3 I3 => ⟨_, H2, I3, q2⟩) hf
  rcases l with ⟨hk, hm⟩ | ⟨hk, c, hc, hcell⟩
  · exact wpAny_loadName_local I.ok.kind hk hn hm go
  · rcases hk with hk | hk
    · exact wpAny_loadName_cell I.ok.kind hk hc hcell go
    · rcases hx with k | k
      · have : X.env.scope.names.lookup x = some .free := hk
        rw [k] at this; cases this
      · have : X.env.scope.names.lookup x = some .free := hk
        rw [k] at this; cases this
/-- o[i] op= e -/
def tAugS (to ti te : TE) (tget : V → V → Hp → VK → Prop) (tip : TIp) (tset : TSet) : TS := fun D σ H => to σ H fun o H1 => ti σ H1 fun i H2 => tget o i H2 fun x H3 => te σ H3 fun y H4 => tip x y H4 fun z H5 => tset o i z H5 fun H6 => D.nx σ H6
/-- o[i], by values -/
def PGet (X : Cx) (t : V → V → Hp → VK → Prop) : Prop :=
  ∀ (pins : List (Addr × Obj)) (s : Shared) (σ : St) (H : Hp) (o i : V) (ov iv : Value) (Q : VK), Inv X pins σ H s → RelV o ov → RelV i iv → t o i H Q →
    wpAny (model X.prog X.w) X.A (getItem ov iv) (EP X pins σ Q) X.xe s
theorem ps_augS {o i e : Expr} {to ti te : TE} {tget : V → V → Hp → VK → Prop} {tip : TIp} {tset : TSet} {op : Operator} {tpos : Pos} (ho : PE X o to) (hi : PE X i ti) (hg : PGet X tget) (he : PE X e te) (hp : PIp X op tip) (hs : PSet X tset)
    (ha : ∀ ov iv new, augStore i ov iv new = (do holding [new, ov, iv] (setItem ov iv new); release [new, ov, iv] []; pure .next) := by intros; rfl) : PS X (.AugAssign (.Subscript o i tpos) op e pos) (tAugS to ti te tget tip tset) := by
  intro pins s σ H D I h
  refine wpAny_AugAssign_SubscriptAny (thn (ho pins s σ H _ I h) fun ov s1 ⟨x1, H1, I1, r1, q1⟩ => ?_) ha
  refine thn (hi pins s1 σ H1 _ I1 q1) fun iv s2 ⟨x2, H2, I2, r2, q2⟩ => ?_
  refine thn (hg pins s2 σ H2 x1 x2 ov iv _ I2 r1 r2 q2) fun old s3 ⟨x3, H3, I3, r3, q3⟩ => ?_
  refine thn (he pins s3 σ H3 _ I3 q3) fun v s4 ⟨x4, H4, I4, r4, q4⟩ => ?_
  refine thn (hp pins s4 σ H4 x3 x4 old v _ I4 r3 r4 q4) fun new s5 ⟨x5, H5, I5, r5, q5⟩ => ?_
  exact thn (hs pins s5 σ H5 x1 x2 x5 ov iv new _ I5 r1 r2 r5 q5) fun _ s6 ⟨H6, I6, q6⟩ => ⟨σ, H6, I6, q6⟩
/-- ints -/
def ipI (f : Int → Int → Int) : TIp := fun x y H Q => ∃ i j, x = .int i ∧ y = .int j ∧ Q (.int (f i j)) H
theorem ip_add : PIp X .Add (ipI fun i j => i + j) := by
  intro pins s σ H x y v u Q I r1 r2 h
  obtain ⟨i, j, e1, e2, q⟩ := h
  subst e1; subst e2
  obtain ⟨t, rfl⟩ := r1
  obtain ⟨t', rfl⟩ := r2
  exact iadd_int ⟨.int _, H, I.tok _, ⟨_, rfl⟩, q⟩
theorem ip_sub : PIp X .Sub (ipI fun i j => i - j) := by
  intro pins s σ H x y v u Q I r1 r2 h
  obtain ⟨i, j, e1, e2, q⟩ := h
  subst e1; subst e2
  obtain ⟨t, rfl⟩ := r1
  obtain ⟨t', rfl⟩ := r2
  exact isub_int ⟨.int _, H, I.tok _, ⟨_, rfl⟩, q⟩
end

/-! ### while -/
section
variable {X : Cx} {pos : Pos}
/-- the invariant W with its measure -/
def tWhile (c : TT) (tb : TS) : TS := fun D σ H => ∃ W : Nat → St → Hp → Prop, (∃ m, W m σ H) ∧ ∀ m σ H, W m σ H →
  c σ H fun b H1 => if b = true then ∃ N : St → Hp → Prop, (∀ σ' H', N σ' H' → ∃ m', m' < m ∧ W m' σ' H') ∧ tb { D with nx := N, ct := N, bk := D.nx } σ H1 else D.nx σ H1
theorem ps_while {c : Expr} {body : List Stmt} {tc : TT} {tb : TS} (hp : PassesOwn (model X.prog X.w) X.A X.env X.xe) (hc : PT X c tc) (hb : PSs X body tb) : PS X (.While c body [] pos) (tWhile tc tb) := by
  intro pins s σ H D I h
  obtain ⟨W, ⟨m0, w0⟩, turn⟩ := h
  refine wpAny_While (codeAny_whileLoop (fun n s' => ∃ σ' H', Inv X pins σ' H' s' ∧ W n σ' H') ?_ m0 ⟨σ, H, I, w0⟩)
  rintro n s1 ⟨σ1, H1, I1, w1⟩
  refine wpAny_passesOwn hp (thn (hc pins s1 σ1 H1 _ I1 (turn n σ1 H1 w1)) fun b s2 ⟨H2, I2, q2⟩ => ?_)
  cases b with
  | true =>
    obtain ⟨N, hN, q2⟩ := q2
    rw [if_pos rfl]
    refine wpAny_passesOwn hp (thn (hb pins s2 σ1 H2 _ I2 q2) fun f s3 q3 => ?_)
    cases f with
    | next =>
      obtain ⟨σ3, H3, I3, n3⟩ := q3
      obtain ⟨m', hm, w3⟩ := hN σ3 H3 n3
      exact ⟨m', hm, σ3, H3, I3, w3⟩
    | cont =>
      obtain ⟨σ3, H3, I3, n3⟩ := q3
      obtain ⟨m', hm, w3⟩ := hN σ3 H3 n3
      exact ⟨m', hm, σ3, H3, I3, w3⟩
    | brk => exact q3
    | ret v => exact q3
  | false =>
    rw [if_neg Bool.false_ne_true]
    exact wpAny_execs_nil ⟨σ1, H2, I2, q2⟩
end

/-! ### what a loop or a comprehension walks -/
/-- at turn i: it yields x (the heap may grow), or it stops -/
structure It where
  go : Nat → Hp → Prop
  yld : Nat → Hp → V → Hp → Prop
  stop : Nat → Hp → Prop
/-- the iterator's own objects may turn: they are not the frame's, not pinned, younger than the entry (or a comprehension's own) -/
def FpOk (X : Cx) (pins : List (Addr × Obj)) (H : Hp) (b : Addr) : Prop :=
  H b = none ∧ b ≠ X.env.locals ∧ b ∉ X.fs ∧ (b ∈ X.ex ∨ X.s₀.heap.objs.size ≤ b) ∧ (∀ x c, X.env.cells.lookup x = some c → c ≠ b) ∧ ∀ p ∈ X.pn ++ pins, p.1 ≠ b
theorem Inv.fpOk {X : Cx} {pins : List (Addr × Obj)} {σ : St} {H H' : Hp} {s : Shared} {b : Addr} (I : Inv X pins σ H s) (hb : s.heap.objs.size ≤ b) (hn : H' b = none) : FpOk X pins H' b := by
  refine ⟨hn, Nat.ne_of_gt (Nat.lt_of_lt_of_le I.lt hb), I.nofs hb, .inr (Nat.le_trans I.sz hb), fun x c e z => ?_, fun p hp z => ?_⟩
  · obtain ⟨v, q⟩ := I.cell x c e
    exact absurd (Nat.lt_of_lt_of_le q.lt (by rw [z]; exact hb)) (Nat.lt_irrefl _)
  · exact absurd (Nat.lt_of_lt_of_le (Heap.lt_size (I.pin p hp).1) (by rw [z]; exact hb)) (Nat.lt_irrefl _)
structure Turn (P : Program) (w : World) (K : PySem.W.Frag) (tg : Expr) (J : It) (fp : List Addr) (it : Addr) (tn : Nat → Heap → Prop) : Prop where
  mem : it ∈ fp
  obj : ∀ i h, tn i h → ∀ b ∈ fp, ∃ o, h.get? b = some o ∧ ∀ v, o.data ≠ .cell v
  keep : ∀ i h h', tn i h → (∀ b ∈ fp, ∀ o, h.get? b = some o → h'.get? b = some o) → tn i h'
  item : ∀ (X : Cx), X.prog = P → X.w = w → X.K = K → X.calm = true → ∀ (i : Nat) (pins : List (Addr × Obj)) (s : Shared) (σ : St) (H : Hp) (E : Value → Shared → Prop), Inv X pins σ H s → (∀ b ∈ fp, FpOk X pins H b) → tn i s.heap → J.go i H →
    wpAny (model P w) X.A (pyNext (.ref it)) (fun r s1 => ∃ u, r = some u ∧
      wpAny (model P w) X.A (letOwnedTupleGo tg (.ref it) u) (fun _ s2 => ∃ x H', Inv X pins σ H' s2 ∧ RelV x u ∧ J.yld i H x H' ∧ tn (i + 1) s2.heap ∧ ∀ b ∈ fp, H' b = none) E s1) E s
  done : ∀ (X : Cx), X.prog = P → X.w = w → X.K = K → X.calm = true → ∀ (i : Nat) (pins : List (Addr × Obj)) (s : Shared) (σ : St) (H : Hp) (E : Value → Shared → Prop), Inv X pins σ H s → (∀ b ∈ fp, FpOk X pins H b) → tn i s.heap → J.stop i H →
    wpAny (model P w) X.A (pyNext (.ref it)) (fun r s1 => r = none ∧ Inv X pins σ H s1) E s
  self : ∀ (A : Around) (i : Nat) (s : Shared) (Q : Value → Shared → Prop) (E : Value → Shared → Prop), tn i s.heap → Q (.ref it) s → wpAny (model P w) A (pyIter (.ref it)) Q E s
abbrev TI := St → Hp → (It → Hp → Prop) → Prop
/-- an iterator has come -/
def PIE (X : Cx) (pins : List (Addr × Obj)) (σ : St) (tg : Expr) (R : It → Hp → Prop) (itv : Value) (s2 : Shared) : Prop :=
  ∃ (it : Addr) (fp : List Addr) (tn : Nat → Heap → Prop) (J : It) (H' : Hp), itv = .ref it ∧ Inv X pins σ H' s2 ∧ Turn X.prog X.w X.K tg J fp it tn ∧ tn 0 s2.heap ∧ (∀ b ∈ fp, FpOk X pins H' b) ∧ R J H'
def PI (X : Cx) (tg iter : Expr) (wi : TI) : Prop :=
  ∀ (pins : List (Addr × Obj)) (s : Shared) (σ : St) (H : Hp) (R : It → Hp → Prop), Inv X pins σ H s → wi σ H R →
    wpAny (model X.prog X.w) X.A (eval iter X.env) (fun v s1 => wpAny (model X.prog X.w) X.A (pyIter v) (PIE X pins σ tg R) X.xe s1) X.xe s

/-- the step ahead of the store is nothing for an iterator that keeps no tuple -/
theorem go_of {M : Model} {A : Around} {E : Value → Shared → Prop} {s : Shared} {tg : Expr} {it : Addr} {u : Value} {o : Obj} {n : String} {vs : Array Value} {Q : Unit → Shared → Prop} (ho : s.heap.get? it = some o) (hc : o.cls = .type n) (hd : o.data = .fields vs)
    (hn : ["enumerate", "zip", "dict_itemiterator", "dict_reverseitemiterator", "odict_iterator", "itertools.zip_longest", "itertools.pairwise"].contains n = false) (hQ : Q () s) : wpAny M A (letOwnedTupleGo tg (.ref it) u) Q E s := by
  unfold letOwnedTupleGo
  cases tg <;> first
    | exact wpAny_pure hQ
    | (cases u <;> first
        | exact wpAny_pure hQ
        | (refine wpAny_bind (wpAny_load ho ?_)
           rw [hc, hd]
           show wpAny M A (if (["enumerate", "zip", "dict_itemiterator", "dict_reverseitemiterator", "odict_iterator", "itertools.zip_longest", "itertools.pairwise"].contains n && vs[0]? == some (rawInt _)) = true then _ else _) Q E s
           rw [if_neg (by intro h; rw [hn, Bool.false_and] at h; cases h)]
           exact wpAny_pure hQ))

/-- the list at a, as it stands at each turn (a loop may append to it) -/
def Itl (K : PySem.W.Frag) (a : Addr) : It :=
  ⟨fun i H => ∃ xs x, SqL K H a xs ∧ xs[i]? = some x, fun i H x H' => H' = H ∧ ∀ xs, SqL K H a xs → xs[i]? = some x, fun i H => ∃ xs, SqL K H a xs ∧ xs.length ≤ i⟩
def Itt (K : PySem.W.Frag) (a : Addr) : It :=
  ⟨fun i H => ∃ xs x, SqT K H a xs ∧ xs[i]? = some x, fun i H x H' => H' = H ∧ ∀ xs, SqT K H a xs → xs[i]? = some x, fun i H => ∃ xs, SqT K H a xs ∧ xs.length ≤ i⟩
/-- lo, lo + 1, .. (n of them) -/
def Itr (lo : Int) (n : Nat) : It := ⟨fun i _ => i < n, fun i H x H' => H' = H ∧ x = .int (lo + i), fun i _ => n ≤ i⟩
theorem turn_list {P : Program} {w : World} {K : PySem.W.Frag} {tg : Expr} (a it : Addr) : Turn P w K tg (Itl K a) [it] it (fun i h => h.IsListIter it a i) where
  mem := by simp
  obj := fun i h st b hb => by
    have e : b = it := by simpa using hb
    subst e
    obtain ⟨o, e, c, d⟩ := st
    exact ⟨o, e, fun v z => by rw [d] at z; cases z⟩
  keep := fun i h h' st k => st.at fun o e => k it (by simp) o e
  item := by
    intro X hP hw hK hc i pins s σ H E I hf st hg
    subst hP hw hK
    obtain ⟨xs, x, hq, hx⟩ := hg
    obtain ⟨its, rv, p, hz⟩ := I.list hq
    obtain ⟨u, hu, ru⟩ := rv.get hx
    obtain ⟨f0, f1, f2, f3, f4, f5⟩ := hf it (by simp)
    refine wpAny_pyNext_list_item st p.isList (x := u) (by simpa using hu) fun h' st' sb => ?_
    have I1 : Inv X pins σ H { s with heap := h' } := I.turned (t' := s.toks) (fun b o hb e => (sb.2 b hb).trans e) f0 f1 f3 f4 f5
    obtain ⟨o, e, c, d⟩ := id st'
    exact ⟨u, rfl, go_of (s := { s with heap := h' }) e c d (by decide) ⟨x, H, I1, ru, ⟨rfl, fun ys hy => by rw [I.list_inj hy hq]; exact hx⟩, st', fun b hb => (hf b hb).1⟩⟩
  done := by
    intro X hP hw hK hc i pins s σ H E I hf st hg
    subst hP hw hK
    obtain ⟨xs, hq, hx⟩ := hg
    obtain ⟨its, rv, p, hz⟩ := I.list hq
    obtain ⟨f0, f1, f2, f3, f4, f5⟩ := hf it (by simp)
    have hl := rv.length
    exact wpAny_pyNext_list_end (I.ok.hd hc) st p.isList (by simp; omega) fun h' eb => ⟨rfl, I.turned (t' := s.toks) (fun b o hb e => eb b o hb e) f0 f1 f3 f4 f5⟩
  self := fun _ _ _ _ _ st h => wpAny_pyIter_listiter st h
theorem turn_tuple {P : Program} {w : World} {K : PySem.W.Frag} {tg : Expr} (a it : Addr) : Turn P w K tg (Itt K a) [it] it (fun i h => h.IsTupleIter it a i) where
  mem := by simp
  obj := fun i h st b hb => by
    have e : b = it := by simpa using hb
    subst e
    obtain ⟨o, e, c, d⟩ := st
    exact ⟨o, e, fun v z => by rw [d] at z; cases z⟩
  keep := fun i h h' st k => st.at fun o e => k it (by simp) o e
  item := by
    intro X hP hw hK hc i pins s σ H E I hf st hg
    subst hP hw hK
    obtain ⟨xs, x, hq, hx⟩ := hg
    obtain ⟨its, rv, p, hz⟩ := I.tuple hq
    obtain ⟨u, hu, ru⟩ := rv.get hx
    obtain ⟨f0, f1, f2, f3, f4, f5⟩ := hf it (by simp)
    refine wpAny_pyNext_tuple_item st (show s.heap.IsTuple a its.toArray from p) (x := u) (by simpa using hu) fun h' st' sb => ?_
    have I1 : Inv X pins σ H { s with heap := h' } := I.turned (t' := s.toks) (fun b o hb e => (sb.2 b hb).trans e) f0 f1 f3 f4 f5
    obtain ⟨o, e, c, d⟩ := id st'
    exact ⟨u, rfl, go_of (s := { s with heap := h' }) e c d (by decide) ⟨x, H, I1, ru, ⟨rfl, fun ys hy => by rw [I.tuple_inj hy hq]; exact hx⟩, st', fun b hb => (hf b hb).1⟩⟩
  done := by
    intro X hP hw hK hc i pins s σ H E I hf st hg
    subst hP hw hK
    obtain ⟨xs, hq, hx⟩ := hg
    obtain ⟨its, rv, p, hz⟩ := I.tuple hq
    obtain ⟨f0, f1, f2, f3, f4, f5⟩ := hf it (by simp)
    have hl := rv.length
    exact wpAny_pyNext_tuple_end (I.ok.hd hc) st (show s.heap.IsTuple a its.toArray from p) (by simp; omega) fun h' eb => ⟨rfl, I.turned (t' := s.toks) (fun b o hb e => eb b o hb e) f0 f1 f3 f4 f5⟩
  self := fun _ _ _ _ _ st h => wpAny_pyIter_tupleiter st h
theorem turn_range {P : Program} {w : World} {K : PySem.W.Frag} {tg : Expr} (it : Addr) (lo : Int) (n : Nat) : Turn P w K tg (Itr lo n) [it] it (fun i h => IsRangeIter h it (lo + (i : Nat) * 1) ((n : Int) - (i : Nat)) 1) where
  mem := by simp
  obj := fun i h st b hb => by
    have e : b = it := by simpa using hb
    subst e
    exact ⟨_, st, fun v z => by
      have z' : Data.fields _ = Data.cell v := z
      cases z'⟩
  keep := fun i h h' st k => k it (by simp) _ st
  item := by
    intro X hP hw hK hc i pins s σ H E I hf st hg
    subst hP hw hK
    obtain ⟨f0, f1, f2, f3, f4, f5⟩ := hf it (by simp)
    have W := Walks.range (prog := X.prog) (w := X.w) (I.ok.hd hc) it lo 1 n
    refine W.item i s _ _ hg st fun v h' tk hv st' kk => ?_
    obtain ⟨t, rfl⟩ := hv
    have I1 : Inv X pins σ H { s with heap := h', toks := tk } := I.turned (fun b o hb e => kk b o (by simpa using hb) e) f0 f1 f3 f4 f5
    refine ⟨_, rfl, go_of (s := { s with heap := h', toks := tk }) (n := "range_iterator") st' rfl rfl (by decide) ⟨.int (lo + i), H, I1, ⟨t, ?_⟩, ⟨rfl, rfl⟩, st', fun b hb => (hf b hb).1⟩⟩
    rw [Int.mul_one]
  done := by
    intro X hP hw hK hc i pins s σ H E I hf st hg
    subst hP hw hK
    obtain ⟨f0, f1, f2, f3, f4, f5⟩ := hf it (by simp)
    exact wpAny_pyNext_range_end (I.ok.hd hc) st (by have : n ≤ i := hg; omega) fun h' eb => ⟨rfl, I.turned (t' := s.toks) (fun b o hb e => eb b o hb e) f0 f1 f3 f4 f5⟩
  self := fun _ _ _ _ _ st h => wpAny_pyIter_rangeiter st h
end L2

namespace L2
open PySem PySem.Spec PyProof.Rows
section
variable {X : Cx} {tg : Expr}
def iList (K : PySem.W.Frag) (tl : TE) : TI := fun σ H R => tl σ H fun x H1 => ∃ a, x = .ref a ∧ (∃ xs, SqL K H1 a xs) ∧ R (Itl K a) H1
def iTup (K : PySem.W.Frag) (tl : TE) : TI := fun σ H R => tl σ H fun x H1 => ∃ a, x = .ref a ∧ (∃ xs, SqT K H1 a xs) ∧ R (Itt K a) H1
theorem pi_list {l : Expr} {tl : TE} (hl : PE X l tl) : PI X tg l (iList X.K tl) := by
  intro pins s σ H R I h
  refine thn (hl pins s σ H _ I h) fun v s1 ⟨x, H1, I1, r1, q1⟩ => ?_
  obtain ⟨a, e, ⟨xs, hq⟩, q⟩ := q1
  subst e
  cases r1
  obtain ⟨its, rv, p, hz⟩ := I1.list hq
  refine wpAny_pyIter_list p.isList ?_
  refine ⟨s1.heap.objs.size, [s1.heap.objs.size], _, _, H1, rfl, I1.kept (t' := s1.toks) fun b o e => Heap.get?_push_of_some _ e, turn_list a _, ⟨_, Heap.get?_push_size _ rfl, rfl, rfl⟩, fun b hb => ?_, q⟩
  have e : b = s1.heap.objs.size := by simpa using hb
  subst e
  exact I1.fpOk (Nat.le_refl _) (I1.hok.fresh (Nat.le_refl _))
theorem pi_tup {l : Expr} {tl : TE} (hl : PE X l tl) : PI X tg l (iTup X.K tl) := by
  intro pins s σ H R I h
  refine thn (hl pins s σ H _ I h) fun v s1 ⟨x, H1, I1, r1, q1⟩ => ?_
  obtain ⟨a, e, ⟨xs, hq⟩, q⟩ := q1
  subst e
  cases r1
  obtain ⟨its, rv, p, hz⟩ := I1.tuple hq
  refine wpAny_pyIter_tuple (show s1.heap.IsTuple a its.toArray from p) ?_
  refine ⟨s1.heap.objs.size, [s1.heap.objs.size], _, _, H1, rfl, I1.kept (t' := s1.toks) fun b o e => Heap.get?_push_of_some _ e, turn_tuple a _, ⟨_, Heap.get?_push_size _ rfl, rfl, rfl⟩, fun b hb => ?_, q⟩
  have e : b = s1.heap.objs.size := by simpa using hb
  subst e
  exact I1.fpOk (Nat.le_refl _) (I1.hok.fresh (Nat.le_refl _))
/-- a range object just made, walked -/
theorem range_it {pins : List (Addr × Obj)} {σ : St} {H : Hp} {s : Shared} {R : It → Hp → Prop} {E : Value → Shared → Prop} {lo hi : Int} {t u v : Tok} {tk : Nat} (I : Inv X pins σ H s) (h1 : -(2 ^ 62) ≤ lo) (h2 : lo < 2 ^ 62) (h3 : -(2 ^ 62) ≤ hi) (h4 : hi < 2 ^ 62)
    (q : R (Itr lo (hi - lo).toNat) H) : wpAny (model X.prog X.w) X.A (pyIter (.ref s.heap.objs.size)) (PIE X pins σ tg R) E { s with heap := s.heap.push { cls := .type "range", data := .fields #[.int lo t, .int hi u, .int 1 v] }, toks := tk } := by
  refine wpAny_pyIter_range (IsRange.new ..) (small_one h1 h2 h3 h4) ?_
  have I1 : Inv X pins σ H { s with heap := s.heap.push { cls := .type "range", data := .fields #[.int lo t, .int hi u, .int 1 v] }, toks := tk } := I.kept fun b o e => Heap.get?_push_of_some _ e
  refine ⟨(s.heap.push { cls := .type "range", data := .fields #[.int lo t, .int hi u, .int 1 v] }).objs.size, [(s.heap.push { cls := .type "range", data := .fields #[.int lo t, .int hi u, .int 1 v] }).objs.size], _, _, H, rfl,
    I1.kept (t' := tk) fun b o e => Heap.get?_push_of_some _ e, turn_range _ lo (hi - lo).toNat, ?_, fun b hb => ?_, q⟩
  · have e1 : lo + ((0 : Nat) : Int) * 1 = lo := by simp
    have e2 : (((hi - lo).toNat : Nat) : Int) - ((0 : Nat) : Int) = Builtin.Range.rangeSize lo hi 1 := by rw [rangeSize_one]; split <;> omega
    show IsRangeIter _ _ (lo + ((0 : Nat) : Int) * 1) ((((hi - lo).toNat : Nat) : Int) - ((0 : Nat) : Int)) 1
    rw [e1, e2]
    exact Heap.get?_push_size _ rfl
  · have e : b = (s.heap.push { cls := .type "range", data := .fields #[.int lo t, .int hi u, .int 1 v] }).objs.size := by simpa using hb
    subst e
    exact I1.fpOk (Nat.le_refl _) (I1.hok.fresh (Nat.le_refl _))
def iRng1 (ta : TA) : TI := fun σ H R => ta σ H fun vs H1 => ∃ j : Int, vs = [.int j] ∧ -(2 ^ 62) ≤ j ∧ j < 2 ^ 62 ∧ R (Itr 0 j.toNat) H1
def iRng2 (ta : TA) : TI := fun σ H R => ta σ H fun vs H1 => ∃ i j : Int, vs = [.int i, .int j] ∧ (-(2 ^ 62) ≤ i ∧ i < 2 ^ 62 ∧ -(2 ^ 62) ≤ j ∧ j < 2 ^ 62) ∧ R (Itr i (j - i).toNat) H1
theorem pi_range1 {a : Expr} {ta : TA} {p pos : Pos} (hg : Gl X "range") (hm : X.mg "range" = none) (ha : PA X [a] ta) (hs : starEach [a] X.env = [(false, eval a X.env)] := by rfl) : PI X tg (.Call (.Name "range" p) [a] [] pos) (iRng1 ta) := by
  intro pins s σ H R I h
  refine Call_ (ld_blt I hg hm boot_range (PyProof.Rows.callWith_type1 (thn (ha pos pins s σ H _ I h) fun us s1 ⟨vs, H1, I1, r1, q1⟩ => ?_) hs rfl))
  obtain ⟨j, e, q1, q2, q⟩ := q1
  subst e
  cases r1 with
  | cons r rr =>
    cases rr
    obtain ⟨t, rfl⟩ := r
    exact call_range_1 (range_it I1 (by omega) (by omega) q1 q2 (by simpa using q))
theorem pi_range2 {a b : Expr} {ta : TA} {p pos : Pos} (hg : Gl X "range") (hm : X.mg "range" = none) (ha : PA X [a, b] ta) (hs : starEach [a, b] X.env = [(false, eval a X.env), (false, eval b X.env)] := by rfl) (hs2 : starEach [b] X.env = [(false, eval b X.env)] := by rfl) :
    PI X tg (.Call (.Name "range" p) [a, b] [] pos) (iRng2 ta) := by
  intro pins s σ H R I h
  refine Call_ (ld_blt I hg hm boot_range (PyProof.Rows.callWith_type1 (thn (ha pos pins s σ H _ I h) fun us s1 ⟨vs, H1, I1, r1, q1⟩ => ?_) (by rw [hs, hs2]) (by rw [hs2]; rfl)))
  obtain ⟨i, j, e, ⟨q1, q2, q3, q4⟩, q⟩ := q1
  subst e
  cases r1 with
  | cons r rr =>
    cases rr with
    | cons r' rr =>
      cases rr
      obtain ⟨t, rfl⟩ := r
      obtain ⟨t', rfl⟩ := r'
      exact call_range_2 (range_it I1 q1 q2 q3 q4 q)

/-! ### for -/
/-- W: the invariant by the turn and a measure; N: what the body is to reach -/
def tFor (wi : TI) (g : TG) (tb : TS) : TS := fun D σ H => wi σ H fun J H1 => ∃ W : Nat → Nat → St → Hp → Prop, (∃ m, W 0 m σ H1) ∧ ∀ i m σ H, W i m σ H →
  (J.stop i H ∧ D.nx σ H) ∨ (J.go i H ∧ ∃ N : St → Hp → Prop, (∀ σ' H', N σ' H' → ∃ m', m' < m ∧ W (i + 1) m' σ' H') ∧ ∀ x H', J.yld i H x H' → g x σ H' fun σ2 H2 => tb { D with nx := N, ct := N, bk := D.nx } σ2 H2)
/-- the records at fp as they stand -/
def pinsAt (fp : List Addr) (h : Heap) : List (Addr × Obj) := fp.filterMap fun b => (h.get? b).map fun o => (b, o)
theorem mem_pinsAt {fp : List Addr} {h : Heap} {b : Addr} {o : Obj} (hb : b ∈ fp) (e : h.get? b = some o) : (b, o) ∈ pinsAt fp h := List.mem_filterMap.mpr ⟨b, hb, by rw [e]; rfl⟩
theorem of_pinsAt {fp : List Addr} {h : Heap} {p : Addr × Obj} (hp : p ∈ pinsAt fp h) : p.1 ∈ fp ∧ h.get? p.1 = some p.2 := by
  obtain ⟨b, hb, e⟩ := List.mem_filterMap.mp hp
  cases q : h.get? b with
  | none => rw [q] at e; cases e
  | some o =>
    rw [q] at e
    have e' : (b, o) = p := Option.some.inj e
    subst e'
    exact ⟨hb, q⟩
theorem Inv.pinned {pins : List (Addr × Obj)} {σ : St} {H : Hp} {s : Shared} {fp : List Addr} (I : Inv X pins σ H s) (hf : ∀ b ∈ fp, FpOk X pins H b) (ho : ∀ b ∈ fp, ∃ o, s.heap.get? b = some o ∧ ∀ v, o.data ≠ .cell v) : Inv X (pins ++ pinsAt fp s.heap) σ H s :=
  I.pins_of fun p hp => (List.mem_append.mp hp).elim (fun z => I.pin p (List.mem_append_right _ z)) fun z => by
    obtain ⟨hb, e⟩ := of_pinsAt z
    obtain ⟨f0, f1, f2, _⟩ := hf p.1 hb
    obtain ⟨o, e', d⟩ := ho p.1 hb
    rw [e] at e'; cases e'
    exact ⟨e, f0, f1, f2, d⟩
theorem Inv.unpinned {pins pl : List (Addr × Obj)} {σ : St} {H : Hp} {s : Shared} (I : Inv X (pins ++ pl) σ H s) : Inv X pins σ H s := I.pins_of fun p hp => I.pin p (List.mem_append_right _ (List.mem_append_left _ hp))
theorem ps_for {iter : Expr} {body : List Stmt} {wi : TI} {g : TG} {tb : TS} {pos : Pos} (hp : PassesOwn (model X.prog X.w) X.A X.env X.xe) (hc : X.calm = true) (hi : PI X tg iter wi) (hg : PG X tg g) (hb : PSs X body tb)
    (hs : ∀ x, foldedSetIterable iter X.env x = pure x := by intro _; rfl) : PS X (.For tg iter body [] pos) (tFor wi g tb) := by
  intro pins s σ H D I h
  refine wpAny_For (thn (hi pins s σ H _ I h) fun v s1 h1 => thn h1 fun itv s2 h2 => ?_) hs
  obtain ⟨it, fp, tn, J, H2, e, I2, T, st2, f2, W, ⟨m0, w0⟩, turn⟩ := h2
  subst e
  -- what stays true of the iterator's objects through the loop
  have stat : ∀ {H' : Hp}, (∀ b ∈ fp, H' b = none) → ∀ b ∈ fp, FpOk X pins H' b := fun hn b hb => ⟨hn b hb, (f2 b hb).2⟩
  refine codeAny_forLoop_any (fun n s' => ∃ i σ' H', Inv X pins σ' H' s' ∧ tn i s'.heap ∧ (∀ b ∈ fp, H' b = none) ∧ W i n σ' H') ?_ m0 ⟨0, σ, H2, I2, st2, fun b hb => (f2 b hb).1, w0⟩
  rintro n s3 ⟨i, σ3, H3, I3, st3, fr3, w3⟩
  rcases turn i n σ3 H3 w3 with ⟨stop, qn⟩ | ⟨go, N, hN, step⟩
  · refine wpAny_passesOwn hp (thn (T.done X rfl rfl rfl hc i pins s3 σ3 H3 X.xe I3 (stat fr3) st3 stop) fun r s4 ⟨hr, I4⟩ => ?_)
    subst hr
    exact wpAny_execs_nil ⟨σ3, H3, I4, qn⟩
  · refine wpAny_passesOwn hp (thn (T.item X rfl rfl rfl hc i pins s3 σ3 H3 X.xe I3 (stat fr3) st3 go) fun r s4 ⟨u, hr, h4⟩ => ?_)
    subst hr
    refine wpAny_passesOwn hp (thn h4 fun _ s5 ⟨x, H5, I5, r5, y5, st5, fr5⟩ => ?_)
    have I5' := I5.pinned (stat fr5) (T.obj _ _ st5)
    refine wpAny_passesOwn hp (thn (hg _ s5 σ3 H5 x u _ I5' r5 (step x H5 y5)) fun _ s6 ⟨σ6, H6, I6, q6⟩ => ?_)
    refine wpAny_passesOwn hp (thn (hb _ s6 σ6 H6 _ I6 q6) fun f s7 q7 => ?_)
    have again : ∀ {σ7 : St} {H7 : Hp}, Inv X (pins ++ pinsAt fp s5.heap) σ7 H7 s7 → N σ7 H7 → ∃ m, m < n ∧ ∃ i σ' H', Inv X pins σ' H' s7 ∧ tn i s7.heap ∧ (∀ b ∈ fp, H' b = none) ∧ W i m σ' H' := fun {σ7 H7} I7 n7 => by
      obtain ⟨m', hm, w7⟩ := hN σ7 H7 n7
      refine ⟨m', hm, i + 1, σ7, H7, I7.unpinned, T.keep _ _ _ st5 fun b hb o e => (I7.pin (b, o) (List.mem_append_right _ (List.mem_append_right _ (mem_pinsAt hb e)))).1, fun b hb => ?_, w7⟩
      obtain ⟨o, e, d⟩ := T.obj _ _ st5 b hb
      exact (I7.pin (b, o) (List.mem_append_right _ (List.mem_append_right _ (mem_pinsAt hb e)))).2.1
    cases f with
    | next => obtain ⟨σ7, H7, I7, n7⟩ := q7; exact again I7 n7
    | cont => obtain ⟨σ7, H7, I7, n7⟩ := q7; exact again I7 n7
    | brk => obtain ⟨σ7, H7, I7, q7⟩ := q7; exact ⟨σ7, H7, I7.unpinned, q7⟩
    | ret v => obtain ⟨x7, σ7, H7, I7, r7, q7⟩ := q7; exact ⟨x7, σ7, H7, I7.unpinned, r7, q7⟩
end

/-! ### the forms one uses -/
/-- over a list that the body leaves as it is -/
theorem for_list {K : PySem.W.Frag} {a : Addr} {xs : List V} {g : TG} {tb : TS} {D : Ends} {σ : St} {H : Hp} (Pv : Nat → St → Hp → Prop) (h0 : Pv 0 σ H) (hl : ∀ i σ H, i ≤ xs.length → Pv i σ H → SqL K H a xs)
    (hs : ∀ i x σ H, xs[i]? = some x → Pv i σ H → g x σ H fun σ2 H2 => tb { D with nx := Pv (i + 1), ct := Pv (i + 1), bk := D.nx } σ2 H2) (hd : ∀ σ H, Pv xs.length σ H → D.nx σ H) :
    ∃ W : Nat → Nat → St → Hp → Prop, (∃ m, W 0 m σ H) ∧ ∀ i m σ H, W i m σ H →
      ((Itl K a).stop i H ∧ D.nx σ H) ∨ ((Itl K a).go i H ∧ ∃ N : St → Hp → Prop, (∀ σ' H', N σ' H' → ∃ m', m' < m ∧ W (i + 1) m' σ' H') ∧ ∀ x H', (Itl K a).yld i H x H' → g x σ H' fun σ2 H2 => tb { D with nx := N, ct := N, bk := D.nx } σ2 H2) := by
  refine ⟨fun i m σ H => m = xs.length - i ∧ i ≤ xs.length ∧ Pv i σ H, ⟨xs.length, by simp, Nat.zero_le _, h0⟩, ?_⟩
  rintro i m σ H ⟨rfl, hi, p⟩
  have q := hl i σ H hi p
  by_cases hlt : i < xs.length
  · refine .inr ⟨⟨xs, xs[i], q, by simp [hlt]⟩, Pv (i + 1), fun σ' H' p' => ⟨xs.length - (i + 1), by omega, rfl, hlt, p'⟩, fun x H' y => ?_⟩
    obtain ⟨e, y⟩ := y
    subst e
    exact hs i x σ _ (y xs q) p
  · have e : i = xs.length := by omega
    subst e
    exact .inl ⟨⟨xs, q, Nat.le_refl _⟩, hd σ H p⟩
theorem for_tup {K : PySem.W.Frag} {a : Addr} {xs : List V} {g : TG} {tb : TS} {D : Ends} {σ : St} {H : Hp} (Pv : Nat → St → Hp → Prop) (h0 : Pv 0 σ H) (hl : ∀ i σ H, i ≤ xs.length → Pv i σ H → SqT K H a xs)
    (hs : ∀ i x σ H, xs[i]? = some x → Pv i σ H → g x σ H fun σ2 H2 => tb { D with nx := Pv (i + 1), ct := Pv (i + 1), bk := D.nx } σ2 H2) (hd : ∀ σ H, Pv xs.length σ H → D.nx σ H) :
    ∃ W : Nat → Nat → St → Hp → Prop, (∃ m, W 0 m σ H) ∧ ∀ i m σ H, W i m σ H →
      ((Itt K a).stop i H ∧ D.nx σ H) ∨ ((Itt K a).go i H ∧ ∃ N : St → Hp → Prop, (∀ σ' H', N σ' H' → ∃ m', m' < m ∧ W (i + 1) m' σ' H') ∧ ∀ x H', (Itt K a).yld i H x H' → g x σ H' fun σ2 H2 => tb { D with nx := N, ct := N, bk := D.nx } σ2 H2) := by
  refine ⟨fun i m σ H => m = xs.length - i ∧ i ≤ xs.length ∧ Pv i σ H, ⟨xs.length, by simp, Nat.zero_le _, h0⟩, ?_⟩
  rintro i m σ H ⟨rfl, hi, p⟩
  have q := hl i σ H hi p
  by_cases hlt : i < xs.length
  · refine .inr ⟨⟨xs, xs[i], q, by simp [hlt]⟩, Pv (i + 1), fun σ' H' p' => ⟨xs.length - (i + 1), by omega, rfl, hlt, p'⟩, fun x H' y => ?_⟩
    obtain ⟨e, y⟩ := y
    subst e
    exact hs i x σ _ (y xs q) p
  · have e : i = xs.length := by omega
    subst e
    exact .inl ⟨⟨xs, q, Nat.le_refl _⟩, hd σ H p⟩
theorem for_range {lo : Int} {n : Nat} {g : TG} {tb : TS} {D : Ends} {σ : St} {H : Hp} (Pv : Nat → St → Hp → Prop) (h0 : Pv 0 σ H)
    (hs : ∀ i σ H, i < n → Pv i σ H → g (.int (lo + i)) σ H fun σ2 H2 => tb { D with nx := Pv (i + 1), ct := Pv (i + 1), bk := D.nx } σ2 H2) (hd : ∀ σ H, Pv n σ H → D.nx σ H) :
    ∃ W : Nat → Nat → St → Hp → Prop, (∃ m, W 0 m σ H) ∧ ∀ i m σ H, W i m σ H →
      ((Itr lo n).stop i H ∧ D.nx σ H) ∨ ((Itr lo n).go i H ∧ ∃ N : St → Hp → Prop, (∀ σ' H', N σ' H' → ∃ m', m' < m ∧ W (i + 1) m' σ' H') ∧ ∀ x H', (Itr lo n).yld i H x H' → g x σ H' fun σ2 H2 => tb { D with nx := N, ct := N, bk := D.nx } σ2 H2) := by
  refine ⟨fun i m σ H => m = n - i ∧ i ≤ n ∧ Pv i σ H, ⟨n, by simp, Nat.zero_le _, h0⟩, ?_⟩
  rintro i m σ H ⟨rfl, hi, p⟩
  by_cases hlt : i < n
  · refine .inr ⟨hlt, Pv (i + 1), fun σ' H' p' => ⟨n - (i + 1), by omega, rfl, hlt, p'⟩, fun x H' y => ?_⟩
    obtain ⟨e, y⟩ := y
    subst e y
    exact hs i σ _ hlt p
  · have e : i = n := by omega
    subst e
    exact .inl ⟨Nat.le_refl _, hd σ H p⟩
/-- while, by a word and a measure of the state -/
theorem while_by {c : TT} {tb : TS} {D : Ends} {σ : St} {H : Hp} (Pv : St → Hp → Prop) (μ : St → Hp → Nat) (h0 : Pv σ H)
    (hs : ∀ σ H, Pv σ H → c σ H fun b H1 => if b = true then tb { D with nx := fun σ' H' => Pv σ' H' ∧ μ σ' H' < μ σ H, ct := fun σ' H' => Pv σ' H' ∧ μ σ' H' < μ σ H, bk := D.nx } σ H1 else D.nx σ H1)
    (mono : ∀ σ H Q Q', (∀ b H1, Q b H1 → Q' b H1) → c σ H Q → c σ H Q') : tWhile c tb D σ H := by
  refine ⟨fun m σ H => m = μ σ H ∧ Pv σ H, ⟨_, rfl, h0⟩, ?_⟩
  rintro m σ H ⟨rfl, p⟩
  refine mono σ H _ _ (fun b H1 q => ?_) (hs σ H p)
  cases b with
  | true => exact ⟨_, fun σ' H' ⟨p', l⟩ => ⟨_, l, rfl, p'⟩, q⟩
  | false => exact q
end L2

namespace L2
open PySem PySem.Spec PyProof.Rows

abbrev R2 := V → V → Hp → VK → Prop
/-- a two-place operation on values: f is binaryOp op, inplaceOp op or compareOp op -/
def OpR (X : Cx) (f : Value → Value → Sem Value) (r : R2) : Prop :=
  ∀ (pins : List (Addr × Obj)) (s : Shared) (σ : St) (H : Hp) (x y : V) (v u : Value) (Q : VK), Inv X pins σ H s → RelV x v → RelV y u → r x y H Q →
    wpAny (model X.prog X.w) X.A (f v u) (EP X pins σ Q) X.xe s
/-- a one-place operation -/
def UnR (X : Cx) (f : Value → Sem Value) (r : V → Hp → VK → Prop) : Prop :=
  ∀ (pins : List (Addr × Obj)) (s : Shared) (σ : St) (H : Hp) (x : V) (v : Value) (Q : VK), Inv X pins σ H s → RelV x v → r x H Q →
    wpAny (model X.prog X.w) X.A (f v) (EP X pins σ Q) X.xe s
/-- a call of a value that is known (a builtin, a type) with values -/
def CallR (X : Cx) (f : Value) (r : List V → Hp → VK → Prop) : Prop :=
  ∀ (pins : List (Addr × Obj)) (s : Shared) (σ : St) (H : Hp) (xs : List V) (us : List Value) (Q : VK), Inv X pins σ H s → Vals xs us → r xs H Q →
    wpAny (model X.prog X.w) X.A (call f us) (EP X pins σ Q) X.xe s
/-- a value's truth -/
def TruR (X : Cx) (r : V → Hp → (Bool → Hp → Prop) → Prop) : Prop :=
  ∀ (pins : List (Addr × Obj)) (s : Shared) (σ : St) (H : Hp) (x : V) (v : Value) (Q : Bool → Hp → Prop), Inv X pins σ H s → RelV x v → r x H Q →
    wpAny (model X.prog X.w) X.A (truthy v) (TP X pins σ Q) X.xe s

def tOp (r : R2) (ta tb : TE) : TE := fun σ H Q => ta σ H fun x H1 => tb σ H1 fun y H2 => r x y H2 Q
def tUn (r : V → Hp → VK → Prop) (ta : TE) : TE := fun σ H Q => ta σ H fun x H1 => r x H1 Q
/-- ints in, under C, and a value out -/
def rI (C : Int → Int → Prop) (g : Int → Int → V) : R2 := fun x y H Q => ∃ i j, x = .int i ∧ y = .int j ∧ C i j ∧ Q (g i j) H
def rI0 (g : Int → Int → V) : R2 := fun x y H Q => ∃ i j, x = .int i ∧ y = .int j ∧ Q (g i j) H
def rU (g : Int → V) : V → Hp → VK → Prop := fun x H Q => ∃ i, x = .int i ∧ Q (g i) H

section
variable {X : Cx} {a b c : Expr} {ta tb tc : TE} {pos : Pos}

theorem binT (ha : PE X a ta) (hb : PE X b tb) {pins : List (Addr × Obj)} {s : Shared} {σ : St} {H : Hp} {R : V → V → Hp → Prop} (I : Inv X pins σ H s)
    (h : ta σ H fun x H1 => tb σ H1 fun y H2 => R x y H2) {Q : Value → Shared → Prop} {f : Value → Value → Sem Value}
    (hf : ∀ v u s2 x y H2, Inv X pins σ H2 s2 → RelV x v → RelV y u → R x y H2 → wpAny (model X.prog X.w) X.A (f v u) Q X.xe s2) :
    wpAny (model X.prog X.w) X.A (eval a X.env) (fun v s₁ => wpAny (model X.prog X.w) X.A (eval b X.env) (fun u s₂ => wpAny (model X.prog X.w) X.A (f v u) Q X.xe s₂) X.xe s₁) X.xe s := by
  refine thn (ha pins s σ H _ I h) fun v s1 ⟨x, H1, I1, r1, q1⟩ => ?_
  refine thn (hb pins s1 σ H1 _ I1 q1) fun u s2 ⟨y, H2, I2, r2, q2⟩ => ?_
  exact hf v u s2 x y H2 I2 r1 r2 q2

theorem pe_op {op : Operator} {r : R2} (ho : OpR X (binaryOp op) r) (ha : PE X a ta) (hb : PE X b tb) : PE X (.BinOp a op b pos) (tOp r ta tb) := by
  intro pins s σ H Q I h
  exact wpAny_BinOp (binT ha hb I h fun v u s2 x y H2 I2 rx ry q => ho pins s2 σ H2 x y v u Q I2 rx ry q)
theorem pe_un {op : UnaryOp} {r : V → Hp → VK → Prop} (ho : UnR X (unaryOp op) r) (ha : PE X a ta) : PE X (.UnaryOp op a pos) (tUn r ta) := by
  intro pins s σ H Q I h
  exact UnaryOp_ (thn (ha pins s σ H _ I h) fun v s1 ⟨x, H1, I1, r1, q1⟩ => ho pins s1 σ H1 x v Q I1 r1 q1)
/-- a op= e at a name: the name's slot i -/
theorem augR {op : Operator} {r : R2} (ho : OpR X (inplaceOp op) r) {pins : List (Addr × Obj)} {s : Shared} {σ : St} {H : Hp} {x y : V} {v u : Value} {Q : VK} (I : Inv X pins σ H s)
    (rx : RelV x v) (ry : RelV y u) (q : r x y H Q) : wpAny (model X.prog X.w) X.A (inplaceOp op v u) (EP X pins σ Q) X.xe s := ho pins s σ H x y v u Q I rx ry q

/-! ### ints -/
theorem opI {f : Value → Value → Sem Value} {C : Int → Int → Prop} {g : Int → Int → Int}
    (rule : ∀ (i j : Int) (t u : Tok) (s : Shared) (Q : Value → Shared → Prop) (E : Value → Shared → Prop), C i j → Q (.int (g i j) s.toks) { s with toks := s.toks + 1 } → wpAny (model X.prog X.w) X.A (f (.int i t) (.int j u)) Q E s) :
    OpR X f (rI C fun i j => .int (g i j)) := by
  intro pins s σ H x y v u Q I rx ry h
  obtain ⟨i, j, rfl, rfl, hc, q⟩ := h
  obtain ⟨t, rfl⟩ := rx
  obtain ⟨t', rfl⟩ := ry
  exact rule i j t t' s _ _ hc ⟨.int (g i j), H, I.tok _, ⟨_, rfl⟩, q⟩
theorem opI0 {f : Value → Value → Sem Value} {g : Int → Int → Int}
    (rule : ∀ (i j : Int) (t u : Tok) (s : Shared) (Q : Value → Shared → Prop) (E : Value → Shared → Prop), Q (.int (g i j) s.toks) { s with toks := s.toks + 1 } → wpAny (model X.prog X.w) X.A (f (.int i t) (.int j u)) Q E s) :
    OpR X f (rI0 fun i j => .int (g i j)) := by
  intro pins s σ H x y v u Q I rx ry h
  obtain ⟨i, j, rfl, rfl, q⟩ := h
  obtain ⟨t, rfl⟩ := rx
  obtain ⟨t', rfl⟩ := ry
  exact rule i j t t' s _ _ ⟨.int (g i j), H, I.tok _, ⟨_, rfl⟩, q⟩
theorem opB0 {f : Value → Value → Sem Value} {g : Int → Int → Bool}
    (rule : ∀ (i j : Int) (t u : Tok) (s : Shared) (Q : Value → Shared → Prop) (E : Value → Shared → Prop), Q (.bool (g i j)) s → wpAny (model X.prog X.w) X.A (f (.int i t) (.int j u)) Q E s) :
    OpR X f (rI0 fun i j => .bl (g i j)) := by
  intro pins s σ H x y v u Q I rx ry h
  obtain ⟨i, j, rfl, rfl, q⟩ := h
  obtain ⟨t, rfl⟩ := rx
  obtain ⟨t', rfl⟩ := ry
  exact rule i j t t' s _ _ ⟨.bl (g i j), H, I, rfl, q⟩

def CDiv (i j : Int) : Prop := 0 < j ∧ j < 1073741824
def CDivN (i j : Int) : Prop := j ≠ 0 ∧ j.natAbs < 1073741824
def CPow (i j : Int) : Prop := 0 ≤ j ∧ j ≤ 1000000 ∧ i.natAbs < 2 ^ 64
def CMul (i j : Int) : Prop := (-(2 ^ 64) < i ∧ i < 2 ^ 64) ∨ (-(2 ^ 64) < j ∧ j < 2 ^ 64)
theorem CMul.ok {i j : Int} (h : CMul i j) : IntMulOk i j := by
  rcases h with ⟨h1, h2⟩ | ⟨h1, h2⟩
  · exact .of_left (intBits_le_64 h1 h2)
  · exact .of_right (intBits_le_64 h1 h2)
theorem two_pow_nn (k : Nat) : (0 : Int) ≤ 2 ^ k := by
  rw [two_pow_cast]
  exact Int.natCast_nonneg _

theorem op_add : OpR X (binaryOp .Add) (rI0 fun i j => .int (i + j)) := opI0 fun _ _ _ _ _ _ _ q => add_int q
theorem op_sub : OpR X (binaryOp .Sub) (rI0 fun i j => .int (i - j)) := opI0 fun _ _ _ _ _ _ _ q => sub_int q
theorem op_mul : OpR X (binaryOp .Mult) (rI CMul fun i j => .int (i * j)) := opI fun _ _ _ _ _ _ _ hc q => mul_int q hc.ok
/-- // by a positive divisor -/
theorem op_fdiv : OpR X (binaryOp .FloorDiv) (rI CDiv fun i j => .int (i / j)) := opI fun i j _ _ _ _ _ hc q => by
  have h1 : (0 : Int) < j := hc.1
  have h2 : j < 1073741824 := hc.2
  exact floordiv_int (by omega) (by rw [Int.fdiv_eq_ediv_of_nonneg i (by omega)]; exact q) (.inl (PyProof.noPylong_small (by omega)))
theorem op_fdivN : OpR X (binaryOp .FloorDiv) (rI CDivN fun i j => .int (i.fdiv j)) := opI fun _ _ _ _ _ _ _ hc q => floordiv_int hc.1 q (.inl (PyProof.noPylong_small hc.2))
/-- % by a positive divisor of any size -/
theorem op_mod : OpR X (binaryOp .Mod) (rI (fun _ j => 0 < j) fun i j => .int (i % j)) := opI fun i j _ _ _ _ _ hc q => by
  have h1 : (0 : Int) < j := hc
  exact mod_int' (by omega) (by rw [Int.fmod_eq_emod_of_nonneg i (by omega)]; exact q)
theorem op_modN : OpR X (binaryOp .Mod) (rI (fun _ j => j ≠ 0) fun i j => .int (i.fmod j)) := opI fun _ _ _ _ _ _ _ hc q => mod_int' hc q
theorem op_pow : OpR X (binaryOp .Pow) (rI CPow fun i j => .int (i ^ j.toNat)) := opI fun _ _ _ _ _ _ _ hc q => pow_int_small hc.1 hc.2.1 hc.2.2 q
theorem op_shl : OpR X (binaryOp .LShift) (rI CPow fun i j => .int (i * 2 ^ j.toNat)) := opI fun _ _ _ _ _ _ _ hc q => lshift_int_small hc.1 hc.2.1 hc.2.2 q
theorem op_shr : OpR X (binaryOp .RShift) (rI (fun _ j => 0 ≤ j) fun i j => .int (i / 2 ^ j.toNat)) := opI fun i j _ _ _ _ _ hc q =>
  rshift_int hc (by rw [Int.fdiv_eq_ediv_of_nonneg i (two_pow_nn _)]; exact q)
theorem op_and : OpR X (binaryOp .BitAnd) (rI0 fun i j => .int (Builtin.bitAnd i j)) := opI0 fun _ _ _ _ _ _ _ q => and_int q
theorem op_or : OpR X (binaryOp .BitOr) (rI0 fun i j => .int (Builtin.bitOr i j)) := opI0 fun _ _ _ _ _ _ _ q => or_int q
theorem op_xor : OpR X (binaryOp .BitXor) (rI0 fun i j => .int (Builtin.bitXor i j)) := opI0 fun _ _ _ _ _ _ _ q => xor_int q

theorem iop_add : OpR X (inplaceOp .Add) (rI0 fun i j => .int (i + j)) := opI0 fun _ _ _ _ _ _ _ q => iadd_int q
theorem iop_sub : OpR X (inplaceOp .Sub) (rI0 fun i j => .int (i - j)) := opI0 fun _ _ _ _ _ _ _ q => isub_int q
theorem iop_mul : OpR X (inplaceOp .Mult) (rI CMul fun i j => .int (i * j)) := opI fun _ _ _ _ _ _ _ hc q => imul_int q hc.ok
theorem iop_fdiv : OpR X (inplaceOp .FloorDiv) (rI CDiv fun i j => .int (i / j)) := opI fun i j _ _ _ _ _ hc q => by
  have h1 : (0 : Int) < j := hc.1
  have h2 : j < 1073741824 := hc.2
  exact ifloordiv_int (by omega) (by rw [Int.fdiv_eq_ediv_of_nonneg i (by omega)]; exact q) (.inl (PyProof.noPylong_small (by omega)))
theorem iop_mod : OpR X (inplaceOp .Mod) (rI (fun _ j => 0 < j) fun i j => .int (i % j)) := opI fun i j _ _ _ _ _ hc q => by
  have h1 : (0 : Int) < j := hc
  exact imod_int (by omega) (by rw [Int.fmod_eq_emod_of_nonneg i (by omega)]; exact q)
theorem iop_shl : OpR X (inplaceOp .LShift) (rI CPow fun i j => .int (i * 2 ^ j.toNat)) := opI fun _ _ _ _ _ _ _ hc q => ilshift_int_small hc.1 hc.2.1 hc.2.2 q
theorem iop_shr : OpR X (inplaceOp .RShift) (rI (fun _ j => 0 ≤ j) fun i j => .int (i / 2 ^ j.toNat)) := opI fun i j _ _ _ _ _ hc q =>
  irshift_int hc (by rw [Int.fdiv_eq_ediv_of_nonneg i (two_pow_nn _)]; exact q)
theorem iop_and : OpR X (inplaceOp .BitAnd) (rI0 fun i j => .int (Builtin.bitAnd i j)) := opI0 fun _ _ _ _ _ _ _ q => iand_int q
theorem iop_or : OpR X (inplaceOp .BitOr) (rI0 fun i j => .int (Builtin.bitOr i j)) := opI0 fun _ _ _ _ _ _ _ q => ior_int q
theorem iop_xor : OpR X (inplaceOp .BitXor) (rI0 fun i j => .int (Builtin.bitXor i j)) := opI0 fun _ _ _ _ _ _ _ q => ixor_int q

theorem unI {f : Value → Sem Value} {g : Int → Int}
    (rule : ∀ (i : Int) (t : Tok) (s : Shared) (Q : Value → Shared → Prop) (E : Value → Shared → Prop), Q (.int (g i) s.toks) { s with toks := s.toks + 1 } → wpAny (model X.prog X.w) X.A (f (.int i t)) Q E s) :
    UnR X f (rU fun i => .int (g i)) := by
  intro pins s σ H x v Q I rx h
  obtain ⟨i, rfl, q⟩ := h
  obtain ⟨t, rfl⟩ := rx
  exact rule i t s _ _ ⟨.int (g i), H, I.tok _, ⟨_, rfl⟩, q⟩
theorem un_neg : UnR X (unaryOp .USub) (rU fun i => .int (-i)) := unI fun _ _ _ _ _ q => neg_int q
theorem un_inv : UnR X (unaryOp .Invert) (rU fun i => .int (Builtin.bitNot i)) := unI fun _ _ _ _ _ q => invert_int q

/-! ### bools among ints: n += (a < b) -/
theorem op_add_ib : OpR X (binaryOp .Add) (fun x y H Q => ∃ i k, x = .int i ∧ y = .bl k ∧ Q (.int (i + b2i k)) H) := by
  intro pins s σ H x y v u Q I rx ry h
  obtain ⟨i, k, rfl, rfl, q⟩ := h
  obtain ⟨t, rfl⟩ := rx
  cases ry
  exact add_int_bool ⟨.int (i + b2i k), H, I.tok _, ⟨_, rfl⟩, q⟩
end

/-! ### comparisons -/
/-- the scalars that == tells apart as data does -/
def scal : V → V → Bool
  | .non, .non => true | .non, .int _ => true | .int _, .non => true | .non, .bl _ => true | .bl _, .non => true | .non, .str _ => true | .str _, .non => true
  | .int _, .int _ => true | .bl _, .bl _ => true | .str _, .str _ => true | .byt _, .byt _ => true
  | .int _, .str _ => true | .str _, .int _ => true | .bl _, .str _ => true | .str _, .bl _ => true
  | _, _ => false
def rEq : R2 := fun x y H Q => scal x y = true ∧ Q (.bl (decide (x = y))) H
def rNe : R2 := fun x y H Q => scal x y = true ∧ Q (.bl (!decide (x = y))) H

theorem dec_int {i j : Int} : decide (V.int i = V.int j) = (i == j) := by
  rw [Bool.eq_iff_iff]
  simp
theorem dec_bl {i j : Bool} : decide (V.bl i = V.bl j) = (i == j) := by
  rw [Bool.eq_iff_iff]
  simp
theorem dec_str {i j : Str} : decide (V.str i = V.str j) = (i == j) := by
  rw [Bool.eq_iff_iff]
  simp
theorem dec_byt {i j : Array UInt8} : decide (V.byt i = V.byt j) = (i.toList == j.toList) := by
  rw [Bool.eq_iff_iff]
  cases i
  cases j
  simp

section
variable {X : Cx} {a b c : Expr} {ta tb tc : TE} {pos : Pos}
theorem fin_bl {pins : List (Addr × Obj)} {σ : St} {H : Hp} {s : Shared} {Q : VK} {k k' : Bool} (I : Inv X pins σ H s) (q : Q (.bl k) H) (e : k = k') : EP X pins σ Q (.bool k') s := by
  subst e
  exact ⟨.bl k, H, I, rfl, q⟩
theorem op_eq : OpR X (compareOp .Eq) rEq := by
  intro pins s σ H x y v u Q I rx ry h
  obtain ⟨hs, q⟩ := h
  cases x with
  | non =>
    cases rx
    cases y with
    | non => cases ry; exact PySem.EqNone.eq_none_none (fin_bl I q (by simp))
    | bl j => cases ry; exact PySem.EqNone.eq_none_bool (fin_bl I q (by simp))
    | int j => obtain ⟨t', rfl⟩ := ry; exact PySem.EqNone.eq_none_int (fin_bl I q (by simp))
    | str j => obtain ⟨t', rfl⟩ := ry; exact PySem.EqNone.eq_none_str (fin_bl I q (by simp))
    | _ => exact absurd (show false = true from hs) Bool.false_ne_true
  | bl i =>
    cases rx
    cases y with
    | non => cases ry; exact PySem.EqNone.eq_bool_none (fin_bl I q (by simp))
    | bl j => cases ry; exact eq_bool (fin_bl I q dec_bl)
    | str j => obtain ⟨t', rfl⟩ := ry; exact PySem.EqMixed.eq_bool_str (fin_bl I q (by simp))
    | _ => exact absurd (show false = true from hs) Bool.false_ne_true
  | int i =>
    obtain ⟨t, rfl⟩ := rx
    cases y with
    | non => cases ry; exact PySem.EqNone.eq_int_none (fin_bl I q (by simp))
    | int j => obtain ⟨t', rfl⟩ := ry; exact eq_int (fin_bl I q dec_int)
    | str j => obtain ⟨t', rfl⟩ := ry; exact PySem.EqMixed.eq_int_str (fin_bl I q (by simp))
    | _ => exact absurd (show false = true from hs) Bool.false_ne_true
  | str i =>
    obtain ⟨t, rfl⟩ := rx
    cases y with
    | non => cases ry; exact PySem.EqNone.eq_str_none (fin_bl I q (by simp))
    | bl j => cases ry; exact PySem.EqMixed.eq_str_bool (fin_bl I q (by simp))
    | int j => obtain ⟨t', rfl⟩ := ry; exact PySem.EqMixed.eq_str_int (fin_bl I q (by simp))
    | str j => obtain ⟨t', rfl⟩ := ry; exact eq_str (fin_bl I q dec_str)
    | _ => exact absurd (show false = true from hs) Bool.false_ne_true
  | byt i =>
    obtain ⟨t, rfl⟩ := rx
    cases y with
    | byt j => obtain ⟨t', rfl⟩ := ry; exact PySem.W.eq_bytes (fin_bl I q dec_byt)
    | _ => exact absurd (show false = true from hs) Bool.false_ne_true
  | _ => cases y <;> exact absurd (show false = true from hs) Bool.false_ne_true
theorem op_ne : OpR X (compareOp .NotEq) rNe := by
  intro pins s σ H x y v u Q I rx ry h
  obtain ⟨hs, q⟩ := h
  cases x with
  | non =>
    cases rx
    cases y with
    | non => cases ry; exact PySem.EqNone.ne_none_none (fin_bl I q (by simp))
    | bl j => cases ry; exact PySem.EqNone.ne_none_bool (fin_bl I q (by simp))
    | int j => obtain ⟨t', rfl⟩ := ry; exact PySem.EqNone.ne_none_int (fin_bl I q (by simp))
    | str j => obtain ⟨t', rfl⟩ := ry; exact PySem.EqNone.ne_none_str (fin_bl I q (by simp))
    | _ => exact absurd (show false = true from hs) Bool.false_ne_true
  | bl i =>
    cases rx
    cases y with
    | non => cases ry; exact PySem.EqNone.ne_bool_none (fin_bl I q (by simp))
    | bl j => cases ry; exact ne_bool (fin_bl I q (congrArg not dec_bl))
    | str j => obtain ⟨t', rfl⟩ := ry; exact PySem.EqMixed.ne_bool_str (fin_bl I q (by simp))
    | _ => exact absurd (show false = true from hs) Bool.false_ne_true
  | int i =>
    obtain ⟨t, rfl⟩ := rx
    cases y with
    | non => cases ry; exact PySem.EqNone.ne_int_none (fin_bl I q (by simp))
    | int j => obtain ⟨t', rfl⟩ := ry; exact ne_int (fin_bl I q (congrArg not dec_int))
    | str j => obtain ⟨t', rfl⟩ := ry; exact PySem.EqMixed.ne_int_str (fin_bl I q (by simp))
    | _ => exact absurd (show false = true from hs) Bool.false_ne_true
  | str i =>
    obtain ⟨t, rfl⟩ := rx
    cases y with
    | non => cases ry; exact PySem.EqNone.ne_str_none (fin_bl I q (by simp))
    | bl j => cases ry; exact PySem.EqMixed.ne_str_bool (fin_bl I q (by simp))
    | int j => obtain ⟨t', rfl⟩ := ry; exact PySem.EqMixed.ne_str_int (fin_bl I q (by simp))
    | str j => obtain ⟨t', rfl⟩ := ry; exact ne_str (fin_bl I q (congrArg not dec_str))
    | _ => exact absurd (show false = true from hs) Bool.false_ne_true
  | byt i =>
    obtain ⟨t, rfl⟩ := rx
    cases y with
    | byt j => obtain ⟨t', rfl⟩ := ry; exact PySem.W.ne_bytes (fin_bl I q (congrArg not dec_byt))
    | _ => exact absurd (show false = true from hs) Bool.false_ne_true
  | _ => cases y <;> exact absurd (show false = true from hs) Bool.false_ne_true

theorem op_lt : OpR X (compareOp .Lt) (rI0 fun i j => .bl (decide (i < j))) := opB0 fun _ _ _ _ _ _ _ q => lt_int q
theorem op_le : OpR X (compareOp .LtE) (rI0 fun i j => .bl (decide (i ≤ j))) := opB0 fun _ _ _ _ _ _ _ q => le_int q
theorem op_gt : OpR X (compareOp .Gt) (rI0 fun i j => .bl (decide (j < i))) := opB0 fun _ _ _ _ _ _ _ q => gt_int q
theorem op_ge : OpR X (compareOp .GtE) (rI0 fun i j => .bl (decide (j ≤ i))) := opB0 fun _ _ _ _ _ _ _ q => ge_int q
theorem op_lt_str : OpR X (compareOp .Lt) (fun x y H Q => ∃ i j, x = .str i ∧ y = .str j ∧ Q (.bl (decide (i.cps.toList < j.cps.toList))) H) := by
  intro pins s σ H x y v u Q I rx ry h
  obtain ⟨i, j, rfl, rfl, q⟩ := h
  obtain ⟨t, rfl⟩ := rx
  obtain ⟨t', rfl⟩ := ry
  exact lt_str (fin_bl I q rfl)
/-- the one string within the other -/
theorem op_in_str : OpR X (compareOp .In) (fun x y H Q => ∃ i j, x = .str i ∧ y = .str j ∧ Q (.bl (!(Builtin.Str.occurrences j i 0 j.length 1).isEmpty)) H) := by
  intro pins s σ H x y v u Q I rx ry h
  obtain ⟨i, j, rfl, rfl, q⟩ := h
  obtain ⟨t, rfl⟩ := rx
  obtain ⟨t', rfl⟩ := ry
  exact in_str (fin_bl I q rfl)

/-- is None, is not None: the right side a value none -/
theorem op_isN : OpR X (compareOp .Is) (fun x y H Q => y = .non ∧ Q (.bl (decide (x = .non))) H) := by
  intro pins s σ H x y v u Q I rx ry h
  obtain ⟨rfl, q⟩ := h
  cases ry
  refine is_none_gen (fin_bl I q ?_)
  cases x <;> first
    | (cases rx; rfl)
    | (obtain ⟨t, rfl⟩ := rx; rfl)
theorem op_notN : OpR X (compareOp .IsNot) (fun x y H Q => y = .non ∧ Q (.bl (!decide (x = .non))) H) := by
  intro pins s σ H x y v u Q I rx ry h
  obtain ⟨rfl, q⟩ := h
  cases ry
  refine isnot_none_gen (fin_bl I q ?_)
  cases x <;> first
    | (cases rx; rfl)
    | (obtain ⟨t, rfl⟩ := rx; rfl)

theorem op_notin_str : OpR X (compareOp .NotIn) (fun x y H Q => ∃ i j, x = .str i ∧ y = .str j ∧ Q (.bl (!(!(Builtin.Str.occurrences j i 0 j.length 1).isEmpty))) H) := by
  intro pins s σ H x y v u Q I rx ry h
  obtain ⟨i, j, rfl, rfl, q⟩ := h
  obtain ⟨t, rfl⟩ := rx
  obtain ⟨t', rfl⟩ := ry
  exact notIn_str (fin_bl I q rfl)
/-- is, is not of two objects that are tracked lists or instances -/
def isObj : HO → Bool
  | .lst _ => true
  | .ins _ _ _ => true
  | _ => false
theorem obj_there {pins : List (Addr × Obj)} {s : Shared} {σ : St} {H : Hp} {a : Addr} {o : HO} (I : Inv X pins σ H s) (h : H a = some o) (p : isObj o = true) : ∃ ob, s.heap.get? a = some ob ∧ ob.cls ≠ .type "tuple" := by
  cases o with
  | lst xs =>
    obtain ⟨_, its, n, _, e⟩ : xs.length ≤ sizeLine ∧ ∃ (its : List Value) (n : Nat), Vals xs its ∧ s.heap.get? a = some { cls := .type "list", data := .seq its.toArray n } := I.hok a _ h
    exact ⟨_, e, (by show Value.type "list" ≠ .type "tuple"; decide +kernel)⟩
  | ins C dx fs =>
    have x := I.hok a _ h
    obtain ⟨_, _, _, e, _⟩ := x
    exact ⟨_, e, (by show Value.ref C ≠ .type "tuple"; exact fun z => by cases z)⟩
  | _ => exact absurd (show false = true from p) Bool.false_ne_true
theorem op_is_ref : OpR X (compareOp .Is) (fun x y H Q => ∃ a b oa ob, x = .ref a ∧ y = .ref b ∧ H a = some oa ∧ isObj oa = true ∧ H b = some ob ∧ isObj ob = true ∧ Q (.bl (decide (a = b))) H) := by
  intro pins s σ H x y v u Q I rx ry h
  obtain ⟨a, b, oa, ob, rfl, rfl, ha, pa, hb, pb, q⟩ := h
  cases rx
  cases ry
  obtain ⟨o1, e1, n1⟩ := obj_there I ha pa
  obtain ⟨o2, e2, _⟩ := obj_there I hb pb
  by_cases z : a = b
  · subst z
    exact wpAny_is_ref_self (fin_bl I q (by simp))
  · exact wpAny_is_ref_other z e1 e2 n1 (fin_bl I q (by simp [z]))
theorem op_isnot_ref : OpR X (compareOp .IsNot) (fun x y H Q => ∃ a b oa ob, x = .ref a ∧ y = .ref b ∧ H a = some oa ∧ isObj oa = true ∧ H b = some ob ∧ isObj ob = true ∧ Q (.bl (!decide (a = b))) H) := by
  intro pins s σ H x y v u Q I rx ry h
  obtain ⟨a, b, oa, ob, rfl, rfl, ha, pa, hb, pb, q⟩ := h
  cases rx
  cases ry
  obtain ⟨o1, e1, n1⟩ := obj_there I ha pa
  obtain ⟨o2, e2, _⟩ := obj_there I hb pb
  by_cases z : a = b
  · subst z
    exact wpAny_isNot_ref_self (fin_bl I q (by simp))
  · exact wpAny_isNot_ref_other z e1 e2 n1 (fin_bl I q (by simp [z]))

/-- two rules for one operation: by cases -/
theorem OpR.or {f : Value → Value → Sem Value} {r r' : R2} (h : OpR X f r) (h' : OpR X f r') : OpR X f (fun x y H Q => r x y H Q ∨ r' x y H Q) := by
  intro pins s σ H x y v u Q I rx ry q
  rcases q with q | q
  · exact h pins s σ H x y v u Q I rx ry q
  · exact h' pins s σ H x y v u Q I rx ry q

theorem nomark (b : Expr) {op : CmpOp} (h : op ≠ .In := by decide) (h2 : op ≠ .NotIn := by decide) : behindInMarks op b = false := by
  have e1 : (op == CmpOp.In) = false := by cases op <;> first | rfl | exact absurd rfl h
  have e2 : (op == CmpOp.NotIn) = false := by cases op <;> first | rfl | exact absurd rfl h2
  cases b <;> simp [behindInMarks, e1, e2]
/-- a comparison as a value; hm: nomark b, or (for in, not in) by with_unfolding_all rfl -/
theorem pe_cmpR {op : CmpOp} {r : R2} (ho : OpR X (compareOp op) r) (ha : PE X a ta) (hb : PE X b tb) (hm : behindInMarks op b = false) : PE X (.Compare a [op] [b] pos) (tOp r ta tb) := by
  intro pins s σ H Q I h
  exact wpAny_Compare1 (binT ha hb I h fun v u s2 x y H2 I2 rx ry q => ho pins s2 σ H2 x y v u Q I2 rx ry q) hm
/-- a reading of a value as a test -/
def tTest (t : TE) : TT := fun σ H Q => t σ H fun x H' => ∃ k, x = .bl k ∧ Q k H'
theorem pt_cmpR {op : CmpOp} {r : R2} (ho : OpR X (compareOp op) r) (ha : PE X a ta) (hb : PE X b tb) (hm : behindInMarks op b = false) : PT X (.Compare a [op] [b] pos) (tTest (tOp r ta tb)) := by
  intro pins s σ H Q I h
  refine wpAny_isTrue_Compare1 (thn (ha pins s σ H _ I h) fun v s1 ⟨x, H1, I1, r1, q1⟩ => thn (hb pins s1 σ H1 _ I1 q1) fun u s2 ⟨y, H2, I2, r2, q2⟩ =>
    thn (ho pins s2 σ H2 x y v u _ I2 r1 r2 q2) fun c s3 ⟨z, H3, I3, r3, k, e, q3⟩ => ?_) hm
  subst e
  cases r3
  exact wpAny_truthy_bool ⟨H3, I3, q3⟩
/-- a op1 b op2 c -/
def tChain (r r' : R2) (ta tb tc : TE) : TE := fun σ H Q => ta σ H fun x H1 => tb σ H1 fun y H2 => r x y H2 fun z H3 => ∃ k, z = .bl k ∧
  (if k = true then tc σ H3 fun w' H4 => r' y w' H4 Q else Q (.bl false) H3)
theorem pe_chain {op op' : CmpOp} {r r' : R2} (ho : OpR X (compareOp op) r) (ho' : OpR X (compareOp op') r') (ha : PE X a ta) (hb : PE X b tb) (hc : PE X c tc)
    (hm : lastMarks [op, op'] [b, c] = false := by with_unfolding_all rfl) : PE X (.Compare a [op, op'] [b, c] pos) (tChain r r' ta tb tc) := by
  intro pins s σ H Q I h
  refine Compare_chain (thn (ha pins s σ H _ I h) fun v s1 ⟨x, H1, I1, r1, q1⟩ => chain_link (thn (hb pins s1 σ H1 _ I1 q1) fun u s2 ⟨y, H2, I2, r2, q2⟩ =>
    thn (ho pins s2 σ H2 x y v u _ I2 r1 r2 q2) fun d s3 ⟨z, H3, I3, r3, k, e, q3⟩ => ?_)) hm
  subst e
  cases r3
  refine wpAny_truthy_bool ?_
  cases k with
  | false => exact ite_ff ⟨.bl false, H3, I3, rfl, q3⟩
  | true => exact ite_tt (chain_last (thn (hc pins s3 σ H3 _ I3 q3) fun w' s4 ⟨z', H4, I4, r4, q4⟩ => ho' pins s4 σ H4 y z' u w' Q I4 r2 r4 q4))
theorem pt_chain {op op' : CmpOp} {r r' : R2} (ho : OpR X (compareOp op) r) (ho' : OpR X (compareOp op') r') (ha : PE X a ta) (hb : PE X b tb) (hc : PE X c tc)
    (hm : lastMarks [op, op'] [b, c] = false := by with_unfolding_all rfl) : PT X (.Compare a [op, op'] [b, c] pos) (tTest (tChain r r' ta tb tc)) := by
  intro pins s σ H Q I h
  refine isTrue_chain (thn (ha pins s σ H _ I h) fun v s1 ⟨x, H1, I1, r1, q1⟩ => test_link (thn (hb pins s1 σ H1 _ I1 q1) fun u s2 ⟨y, H2, I2, r2, q2⟩ =>
    thn (ho pins s2 σ H2 x y v u _ I2 r1 r2 q2) fun d s3 ⟨z, H3, I3, r3, k, e, q3⟩ => ?_)) hm
  subst e
  cases r3
  refine wpAny_truthy_bool ?_
  cases k with
  | false =>
    obtain ⟨k', e', q'⟩ := q3
    cases e'
    exact ite_ff ⟨H3, I3, q'⟩
  | true =>
    refine ite_tt (test_last (thn (hc pins s3 σ H3 _ I3 q3) fun w' s4 ⟨z', H4, I4, r4, q4⟩ => thn (ho' pins s4 σ H4 y z' u w' _ I4 r2 r4 q4) fun d' s5 ⟨z2, H5, I5, r5, k2, e2, q5⟩ => ?_))
    subst e2
    cases r5
    exact wpAny_truthy_bool ⟨H5, I5, q5⟩

/-! ### truth -/
/-- a value's truth by the abstract heap -/
def TruV (K : PySem.W.Frag) (x : V) (H : Hp) (k : Bool) : Prop :=
  match x with
  | .non => k = false
  | .bl b => k = b
  | .int i => k = (i != 0)
  | .str y => y.length ≤ sizeLine ∧ k = ((y.length : Int) != 0)
  | .byt y => y.size ≤ sizeLine ∧ k = ((y.size : Int) != 0)
  | .ref p => (∃ xs, SqL K H p xs ∧ k = !xs.isEmpty) ∨ (∃ xs, SqT K H p xs ∧ k = !xs.isEmpty) ∨ ∃ kvs, H p = some (.dK kvs) ∧ k = !kvs.isEmpty
  | _ => False
theorem isEmpty_kv {κ : Type} {kvs : List (κ × V)} {vs : List (κ × Value)} (r : KV kvs vs) : (!vs.isEmpty) = !kvs.isEmpty := by
  cases r <;> rfl
theorem isEmpty_of {xs : List V} {its : List Value} (r : Vals xs its) : (!its.toArray.isEmpty) = !xs.isEmpty := by
  cases r <;> simp
theorem line63 : (sizeLine : Nat) < 2 ^ 63 := by rw [sizeLine_eq]; decide
theorem tru_ok : TruR X (fun x H Q => ∃ k, TruV X.K x H k ∧ Q k H) := by
  intro pins s σ H x v Q I rx h
  obtain ⟨k, e, q⟩ := h
  have hl := line63
  have hs : sizeLine = 16777216 := sizeLine_eq
  cases x with
  | non =>
    cases rx
    have e' : k = false := e
    subst e'
    exact truthy_none ⟨H, I, q⟩
  | bl b =>
    cases rx
    have e' : k = b := e
    subst e'
    exact wpAny_truthy_bool ⟨H, I, q⟩
  | int i =>
    obtain ⟨t, rfl⟩ := rx
    have e' : k = (i != 0) := e
    subst e'
    exact PySem.P.truthy_int ⟨H, I, q⟩
  | str y =>
    obtain ⟨t, rfl⟩ := rx
    obtain ⟨hy, e'⟩ : y.length ≤ sizeLine ∧ k = ((y.length : Int) != 0) := e
    subst e'
    exact PySem.P.truthy_str (by omega) ⟨H, I.tok _, q⟩
  | byt y =>
    obtain ⟨t, rfl⟩ := rx
    obtain ⟨hy, e'⟩ : y.size ≤ sizeLine ∧ k = ((y.size : Int) != 0) := e
    subst e'
    exact PySem.W.truthy_bytes (by omega) ⟨H, I.tok _, q⟩
  | ref p =>
    cases rx
    have e' : (∃ xs, SqL X.K H p xs ∧ k = !xs.isEmpty) ∨ (∃ xs, SqT X.K H p xs ∧ k = !xs.isEmpty) ∨ ∃ kvs, H p = some (.dK kvs) ∧ k = !kvs.isEmpty := e
    rcases e' with ⟨xs, hx, e'⟩ | ⟨xs, hx, e'⟩ | ⟨kvs, hx, e'⟩
    · subst e'
      obtain ⟨its, r, pl, hz⟩ := I.list hx
      have hlen := r.length
      exact wpAny_truthy_list pl.isList (by simp only [List.size_toArray]; omega) ⟨H, I.tok _, by rw [isEmpty_of r]; exact q⟩
    · subst e'
      obtain ⟨its, r, pl, hz⟩ := I.tuple hx
      have hlen := r.length
      exact truthy_tuple pl (by simp only [List.size_toArray]; omega) ⟨H, I.tok _, by rw [isEmpty_of r]; exact q⟩
    · subst e'
      obtain ⟨hz, hS, vs, r, m⟩ : kvs.length ≤ sizeLine ∧ (p == sysModules) = false ∧ ∃ vs, KV kvs vs ∧ s.heap.DictOf (mixKind X.prog X.w) p vs := I.hok p _ hx
      have hlen : kvs.length = vs.length := Paired.length r
      exact wpAny_truthy_dict hS m (by omega) ⟨H, I.tok _, by rw [isEmpty_kv r]; exact q⟩
  | _ => exact (show False from e).elim
/-- any expression whose test is its value's truth (a name, a call, a subscript, a field ..: he by fun _ => rfl) -/
theorem pt_truth (ha : PE X a ta) (he : ∀ whole, isTrue a X.env whole = (do let v ← whole; standAt a.pos; holding [v] (truthy v))) :
    PT X a (fun σ H Q => ta σ H fun x H' => ∃ k, TruV X.K x H' k ∧ Q k H') := by
  intro pins s σ H Q I h
  exact isTrue_plain (thn (ha pins s σ H _ I h) fun v s1 ⟨x, H1, I1, r1, q1⟩ => tru_ok pins s1 σ H1 x v Q I1 r1 q1) (he _)

/-! ### strs and bytes -/
theorem pe_byt {x : List UInt8} {k : Nat} : PE X (.Constant (.bytes x) k pos) (fun _ H Q => Q (.byt x.toArray) H) := fun _ _ _ H _ I h => PySem.W.Constant_bytes ⟨.byt x.toArray, H, I.tok _, ⟨_, rfl⟩, h⟩
theorem op_add_str : OpR X (binaryOp .Add) (fun x y H Q => ∃ i j, x = .str i ∧ y = .str j ∧ i.length + j.length ≤ sizeLine ∧ Q (.str (i ++ j)) H) := by
  intro pins s σ H x y v u Q I rx ry h
  obtain ⟨i, j, rfl, rfl, hz, q⟩ := h
  obtain ⟨t, rfl⟩ := rx
  obtain ⟨t', rfl⟩ := ry
  exact add_str (fun t' tk => ⟨.str (i ++ j), H, I.tok _, ⟨_, rfl⟩, q⟩) hz
theorem iop_add_str : OpR X (inplaceOp .Add) (fun x y H Q => ∃ i j, x = .str i ∧ y = .str j ∧ i.length + j.length ≤ sizeLine ∧ Q (.str (i ++ j)) H) := by
  intro pins s σ H x y v u Q I rx ry h
  obtain ⟨i, j, rfl, rfl, hz, q⟩ := h
  obtain ⟨t, rfl⟩ := rx
  obtain ⟨t', rfl⟩ := ry
  exact iadd_str (fun t' tk => ⟨.str (i ++ j), H, I.tok _, ⟨_, rfl⟩, q⟩) hz
theorem op_add_byt : OpR X (binaryOp .Add) (fun x y H Q => ∃ i j, x = .byt i ∧ y = .byt j ∧ i.size + j.size ≤ 16777216 ∧ Q (.byt (i ++ j)) H) := by
  intro pins s σ H x y v u Q I rx ry h
  obtain ⟨i, j, rfl, rfl, hz, q⟩ := h
  obtain ⟨t, rfl⟩ := rx
  obtain ⟨t', rfl⟩ := ry
  exact PySem.W.KBy.add_bytes hz (fun t' tk => ⟨.byt (i ++ j), H, I.tok _, ⟨_, rfl⟩, q⟩)

def PlainIxT (b : Expr) : Prop := ∀ o i, subscripted b false o i = operate [o, i] (getItem o i)
/-- s[i], 0 ≤ i < len -/
theorem pe_item_str (ha : PE X a ta) (hb : PE X b tb) (hs : PlainIxT b) :
    PE X (.Subscript a b pos) (tOp (fun x y H Q => ∃ z i c, x = .str z ∧ y = .int i ∧ 0 ≤ i ∧ i < 2 ^ 63 ∧ i < z.length ∧ z.cps[i.toNat]? = some c ∧ Q (.str ⟨#[c]⟩) H) ta tb) := by
  intro pins s σ H Q I h
  refine Subscript_ (binT ha hb I h fun v u s2 x y H2 I2 rx ry q => ?_)
  obtain ⟨z, i, c, rfl, rfl, h0, h63, h1, hc, q⟩ := q
  obtain ⟨t, rfl⟩ := rx
  obtain ⟨t', rfl⟩ := ry
  have e : seqIndex? i z.length = some i.toNat := PySem.StrLaws.seqIndex_nonneg h0 h1
  exact tail_any (typeIs_str s2 z t) slot_str_getitem.lookup (getItem_str (c := c) (by
    have e1 : decide (i < -(2 ^ 63 : Int)) = false := decide_eq_false (by omega)
    have e2 : decide (i ≥ 2 ^ 63) = false := decide_eq_false (by omega)
    rw [e1, e2] <;> rfl) (by rw [e]; exact hc) ⟨.str ⟨#[c]⟩, H2, I2.tok _, ⟨_, rfl⟩, q⟩) (hs _ _)
/-- b[i], 0 ≤ i < len -/
theorem pe_item_byt (ha : PE X a ta) (hb : PE X b tb) (hs : PlainIxT b) :
    PE X (.Subscript a b pos) (tOp (fun x y H Q => ∃ (z : List UInt8) (i : Int), x = .byt z.toArray ∧ y = .int i ∧ z.length ≤ sizeLine ∧ 0 ≤ i ∧ i < z.length ∧ Q (.int ((z.getD i.toNat 0).toNat : Nat)) H) ta tb) := by
  intro pins s σ H Q I h
  refine Subscript_ (binT ha hb I h fun v u s2 x y H2 I2 rx ry q => ?_)
  obtain ⟨z, i, rfl, rfl, hz, h0, h1, q⟩ := q
  obtain ⟨t, rfl⟩ := rx
  obtain ⟨t', rfl⟩ := ry
  have hl : sizeLine = 16777216 := sizeLine_eq
  exact tail_any (PySem.W.typeIs_bytes s2 z.toArray t) PySem.W.FB.slot_bytes_getitem.lookup (PySem.W.getItem_bytes (by omega) h0 h1 ⟨.int ((z.getD i.toNat 0).toNat : Nat), H2, I2.tok _, ⟨_, rfl⟩, q⟩) (hs _ _)

/-! ### scalar builtins, by CallR -/
theorem vals1 {x : V} {us : List Value} (r : Vals [x] us) : ∃ u, us = [u] ∧ RelV x u := by
  cases r with
  | cons r1 r2 => cases r2; exact ⟨_, rfl, r1⟩
theorem vals2 {x y : V} {us : List Value} (r : Vals [x, y] us) : ∃ u w', us = [u, w'] ∧ RelV x u ∧ RelV y w' := by
  cases r with
  | cons r1 r2 =>
    cases r2 with
    | cons r3 r4 => cases r4; exact ⟨_, _, rfl, r1, r3⟩
theorem call_abs : CallR X (.builtin "abs") (fun xs H Q => ∃ i, xs = [.int i] ∧ Q (.int (if i < 0 then -i else i)) H) := by
  intro pins s σ H xs us Q I r h
  obtain ⟨i, rfl, q⟩ := h
  obtain ⟨u, rfl, t, rfl⟩ := vals1 r
  exact call_abs_int fun u tk => ⟨.int (if i < 0 then -i else i), H, I.tok _, ⟨_, rfl⟩, q⟩
theorem call_max2 (hc : X.calm = true) : CallR X (.builtin "max") (fun xs H Q => ∃ i j, xs = [.int i, .int j] ∧ Q (.int (if j > i then j else i)) H) := by
  intro pins s σ H xs us Q I r h
  obtain ⟨i, j, rfl, q⟩ := h
  obtain ⟨u, w', rfl, ⟨t, rfl⟩, ⟨t', rfl⟩⟩ := vals2 r
  refine max_two_ints (I.ok.hd hc) fun h' tk k => ⟨_, H, I.kept k, ?_, q⟩
  by_cases hj : j > i
  · rw [if_pos hj, if_pos hj]; exact ⟨_, rfl⟩
  · rw [if_neg hj, if_neg hj]; exact ⟨_, rfl⟩
theorem call_min2 (hc : X.calm = true) : CallR X (.builtin "min") (fun xs H Q => ∃ i j, xs = [.int i, .int j] ∧ Q (.int (if j < i then j else i)) H) := by
  intro pins s σ H xs us Q I r h
  obtain ⟨i, j, rfl, q⟩ := h
  obtain ⟨u, w', rfl, ⟨t, rfl⟩, ⟨t', rfl⟩⟩ := vals2 r
  refine min_two_ints (I.ok.hd hc) fun h' tk k => ⟨_, H, I.kept k, ?_, q⟩
  by_cases hj : j < i
  · rw [if_pos hj, if_pos hj]; exact ⟨_, rfl⟩
  · rw [if_neg hj, if_neg hj]; exact ⟨_, rfl⟩
theorem call_int1 : CallR X (.type "int") (fun xs H Q => (∃ i, xs = [.int i] ∧ Q (.int i) H) ∨ ∃ k, xs = [.bl k] ∧ Q (.int (if k then 1 else 0)) H) := by
  intro pins s σ H xs us Q I r h
  rcases h with ⟨i, rfl, q⟩ | ⟨k, rfl, q⟩
  · obtain ⟨u, rfl, t, rfl⟩ := vals1 r
    exact call_int_int ⟨.int i, H, I, ⟨_, rfl⟩, q⟩
  · obtain ⟨u, rfl, r1⟩ := vals1 r
    cases r1
    exact call_int_bool ⟨.int (if k then 1 else 0), H, I.tok _, ⟨_, rfl⟩, q⟩
theorem call_bool1 : CallR X (.type "bool") (fun xs H Q => (∃ i, xs = [.int i] ∧ Q (.bl (i != 0)) H) ∨ ∃ k, xs = [.bl k] ∧ Q (.bl k) H) := by
  intro pins s σ H xs us Q I r h
  rcases h with ⟨i, rfl, q⟩ | ⟨k, rfl, q⟩
  · obtain ⟨u, rfl, t, rfl⟩ := vals1 r
    exact call_bool_int ⟨.bl (i != 0), H, I, rfl, q⟩
  · obtain ⟨u, rfl, r1⟩ := vals1 r
    cases r1
    exact call_bool_bool ⟨.bl k, H, I, rfl, q⟩
theorem call_str_int : CallR X (.type "str") (fun xs H Q => ∃ i, xs = [.int i] ∧ i.natAbs.log2 < 1920 ∧ Q (.str (toString i)) H) := by
  intro pins s σ H xs us Q I r h
  obtain ⟨i, rfl, hz, q⟩ := h
  obtain ⟨u, rfl, t, rfl⟩ := vals1 r
  exact PySem.P.str_of_int hz ⟨.str _, H, I.tok _, ⟨_, rfl⟩, q⟩
theorem call_ord : CallR X (.builtin "ord") (fun xs H Q => ∃ x, xs = [.str x] ∧ x.length = 1 ∧ Q (.int (x.cps.getD 0 0 : Nat)) H) := by
  intro pins s σ H xs us Q I r h
  obtain ⟨x, rfl, hz, q⟩ := h
  obtain ⟨u, rfl, t, rfl⟩ := vals1 r
  exact ord_of_one hz ⟨.int _, H, I.tok _, ⟨_, rfl⟩, q⟩
theorem call_chr : CallR X (.builtin "chr") (fun xs H Q => ∃ i, xs = [.int i] ∧ 0 ≤ i ∧ i ≤ 1114111 ∧ Q (.str ⟨#[i.toNat]⟩) H) := by
  intro pins s σ H xs us Q I r h
  obtain ⟨i, rfl, h0, h1, q⟩ := h
  obtain ⟨u, rfl, t, rfl⟩ := vals1 r
  exact chr_of_range h0 h1 ⟨.str _, H, I.tok _, ⟨_, rfl⟩, q⟩
/-- len of a str, a bytes, a list, a tuple -/
def LenV (K : PySem.W.Frag) (x : V) (H : Hp) (n : Nat) : Prop :=
  match x with
  | .str y => y.length ≤ sizeLine ∧ n = y.length
  | .byt y => y.size ≤ sizeLine ∧ n = y.size
  | .ref p => (∃ xs, SqL K H p xs ∧ n = xs.length) ∨ ∃ xs, SqT K H p xs ∧ n = xs.length
  | _ => False
theorem call_len : CallR X (.builtin "len") (fun xs H Q => ∃ x n, xs = [x] ∧ LenV X.K x H n ∧ Q (.int n) H) := by
  intro pins s σ H xs us Q I r h
  obtain ⟨x, n, rfl, e, q⟩ := h
  obtain ⟨u, rfl, rx⟩ := vals1 r
  have hl := line63
  have hs : sizeLine = 16777216 := sizeLine_eq
  cases x with
  | str y =>
    obtain ⟨t, rfl⟩ := rx
    obtain ⟨hy, e'⟩ : y.length ≤ sizeLine ∧ n = y.length := e
    subst e'
    exact len_str (by omega) ⟨.int _, H, I.tok _, ⟨_, rfl⟩, q⟩
  | byt y =>
    obtain ⟨t, rfl⟩ := rx
    obtain ⟨hy, e'⟩ : y.size ≤ sizeLine ∧ n = y.size := e
    subst e'
    exact PySem.W.len_bytes (by omega) ⟨.int _, H, I.tok _, ⟨_, rfl⟩, q⟩
  | ref p =>
    cases rx
    have e' : (∃ xs, SqL X.K H p xs ∧ n = xs.length) ∨ ∃ xs, SqT X.K H p xs ∧ n = xs.length := e
    rcases e' with ⟨xs, hx, e'⟩ | ⟨xs, hx, e'⟩
    · subst e'
      obtain ⟨its, r', pl, hz⟩ := I.list hx
      have hlen := r'.length
      exact Calls.call_len_list pl.isList (by simp only [List.size_toArray]; omega) ⟨.int xs.length, H, I.tok _, ⟨_, by simp only [List.size_toArray]; rw [hlen]⟩, q⟩
    · subst e'
      obtain ⟨its, r', pl, hz⟩ := I.tuple hx
      have hlen := r'.length
      exact len_tuple pl (by simp only [List.size_toArray]; omega) ⟨.int xs.length, H, I.tok _, ⟨_, by simp only [List.size_toArray]; rw [hlen]⟩, q⟩
  | _ => exact (show False from e).elim
/-- divmod: a new tuple -/
theorem call_divmod : CallR X (.builtin "divmod") (fun xs H Q => ∃ i j, xs = [.int i, .int j] ∧ CDiv i j ∧ ∀ p, H p = none → Q (.ref p) (upd H p (.tup [.int (i / j), .int (i % j)]))) := by
  intro pins s σ H xs us Q I r h
  obtain ⟨i, j, rfl, ⟨h1, h2⟩, q⟩ := h
  obtain ⟨u, w', rfl, ⟨t, rfl⟩, ⟨t', rfl⟩⟩ := vals2 r
  refine divmod_int (by omega) ?_ (.inl (PyProof.noPylong_small (by omega)))
  rw [Int.fdiv_eq_ediv_of_nonneg i (by omega), Int.fmod_eq_emod_of_nonneg i (by omega)]
  have hn : H s.heap.objs.size = none := I.hok.fresh (Nat.le_refl _)
  refine ⟨.ref s.heap.objs.size, _, ?_, rfl, q _ hn⟩
  refine I.laid (fun b o e => Heap.get?_push_of_some _ e) (Nat.le_refl _) ⟨by simp only [List.length_cons, List.length_nil]; rw [sizeLine_eq]; decide, [.int (i / j) s.toks, .int (i % j) (s.toks + 1)], .cons ⟨_, rfl⟩ (.cons ⟨_, rfl⟩ .nil), ?_⟩
  exact ⟨_, Heap.get?_push_size s.heap rfl, rfl, 0, rfl⟩
end
end L2

namespace L2
open PySem PySem.Spec PyProof.Rows

/-! ### an instance, its attributes a map -/
structure ObjM (h : Heap) (x dx C : Addr) (mA : Str → Option Value) : Prop where
  obj : h.get? x = some (PySem.W.instObj C dx)
  ns : h.Ns1 dx mA
  ne : dx ≠ x

theorem lookIn_ns {h : Heap} {dx : Addr} {mA : Str → Option Value} (n : h.Ns1 dx mA) : ∃ od, h.get? dx = some od ∧ ∀ name, PySem.W.lookIn name od = some (mA name) := by
  obtain ⟨o, es, ep, ho, hd, hk, _, hm⟩ := n
  refine ⟨o, ho, fun name => ?_⟩
  have e := hm name
  unfold nsFind findBy at e
  rw [← Array.find?_toList] at e
  unfold PySem.W.lookIn
  rw [hd]
  dsimp only
  split
  · rename_i y q
    rw [q] at e
    exact congrArg some e
  · rename_i q
    rw [q] at e
    have a : es.toList.any (·.refKey) = false := by
      rw [List.any_eq_false]
      intro y hy
      obtain ⟨z, t, hkey⟩ := hk y (Array.mem_toList_iff.mp hy)
      simp [DictEntry.refKey, hkey]
    have a' : ¬ es.toList.any (·.refKey) = true := by rw [a]; exact Bool.false_ne_true
    rw [if_neg a']
    exact congrArg some e

theorem ObjM.look {h : Heap} {x dx C : Addr} {mA : Str → Option Value} (I : ObjM h x dx C mA) : ∃ od, PySem.W.InstAt h x (PySem.W.instObj C dx) C (some od) ∧ ∀ name, PySem.W.lookIn name od = some (mA name) :=
  let ⟨od, ho, hl⟩ := lookIn_ns I.ns
  ⟨od, ⟨I.obj, rfl, rfl, ho⟩, hl⟩

section
variable {prog : Program} {w : World} {A : Around} {E : Value → Shared → Prop} {s : Shared} {K : PySem.W.Frag} {x dx C f : Addr} {mA : Str → Option Value} {name : Str} {v : Value}

theorem get_map {expr : Bool} {Q : Value → Shared → Prop} (X : K.In s.heap) (I : ObjM s.heap x dx C mA) (hg : PySem.W.plainGet K C name = true) (hh : PySem.W.hasDictIn K C = true)
    (ha : PySem.W.findIn K (.ref C) name = some none) (hv : mA name = some v) (hv' : PySem.W.handedIn v = true) (h : Q v { s with toks := s.toks + 1 }) :
    wpAny (model prog w) A (getAttr (.ref x) name expr) Q E s := by
  obtain ⟨od, J, hl⟩ := I.look
  exact PySem.W.get_value X J (PySem.W.plainGet_of hg).1 (PySem.W.findObj_own hh ha rfl (by rw [hl, hv])) hv' h

theorem get_const {expr : Bool} {a : Value} {Q : Value → Shared → Prop} (X : K.In s.heap) (I : ObjM s.heap x dx C mA) (hg : PySem.W.plainGet K C name = true) (hh : PySem.W.hasDictIn K C = true)
    (ha : PySem.W.findIn K (.ref C) name = some (some a)) (hn : PySem.W.specialIn K a "__get__" = some none) (hc : PySem.W.copiedNames.contains name = false) (hv : mA name = none) (hv' : PySem.W.handedIn a = true)
    (h : Q a { s with toks := s.toks + 1 }) : wpAny (model prog w) A (getAttr (.ref x) name expr) Q E s := by
  obtain ⟨od, J, hl⟩ := I.look
  exact PySem.W.get_value X J (PySem.W.plainGet_of hg).1 (PySem.W.findObj_cls hh ha hn hv' hc (by rw [hl, hv])) hv' h

theorem get_meth {pl : Sem Bool} {Q : Value × List Value → Shared → Prop} (X : K.In s.heap) (I : ObjM s.heap x dx C mA) (hg : PySem.W.plainGet K C name = true)
    (hf : PySem.W.findIn K (.ref C) name = some (some (.ref f))) (ht : PySem.W.isFn K (.ref f) = true) (hv : mA name = none) (h : Q (.ref f, [.ref x]) s) :
    wpAny (model prog w) A (getMethod (.ref x) name pl) Q E s := by
  obtain ⟨od, J, hl⟩ := I.look
  exact PySem.W.method_fn X J (PySem.W.plainGet_of hg).1 (PySem.W.plainGet_of hg).2 hf (beq_iff_eq.mp ht) (by show (PySem.W.lookIn name od).map (·.isSome) = some false; rw [hl, hv]; rfl) h

theorem set_map {ns : List Str} {Q : Unit → Shared → Prop} (X : K.In s.heap) (I : ObjM s.heap x dx C mA)
    (hs : PySem.W.findIn K (.ref C) "__setattr__" = some (some (.builtin "object.__setattr__"))) (hp : PySem.W.plainOver K C = true) (ht : PySem.W.takerIn K C name = some none) (hh : PySem.W.hasDictIn K C = true)
    (hw : PySem.Within mA ns) (hsz : ns.length ≤ sizeLine)
    (h : ∀ h', ObjM h' x dx C (fun y => if y = name then some v else mA y) → Heap.SameBut dx s.heap h' → Q () { s with heap := h', toks := s.toks + 2 }) :
    wpAny (model prog w) A (setAttr (.ref x) name v) Q E s := by
  obtain ⟨od, J, hl⟩ := I.look
  refine PySem.W.set_plain X J hs (PySem.W.osa_open (s := { s with toks := s.toks + 1 }) (r := none) X J hp ht fun b => ?_)
  obtain ⟨cd, hc, hd'⟩ := PySem.W.any_some hh
  have hx : s.heap.get? x = some ⟨.ref C, some dx, .plain, #[]⟩ := I.obj
  refine wpAny_bind (wpAny_pure (wpAny_bind (wpAny_bind (wpAny_loadPart hx (wpAny_bind (PySem.W.Looks.here (s := { s with toks := s.toks + 1 }) (PySem.W.looks_clsIn X hc) ?_))))))
  rw [hd']
  refine wpAny_pure (a := some dx) (wpAny_bind (wpAny_pure (wpAny_bind ?_)))
  refine wpAny_nsSet1 (s := { s with toks := s.toks + 1 }) I.ns fun h' hn2 hs2 => ?_
  obtain ⟨oD, esD, epD, hoD, hdD, hcD⟩ := hn2.count (PySem.Within.cons name v hw)
  refine wpAny_bind (wpAny_lookBehind hoD (by rw [hdD]; exact pastItsLine_dict (Nat.le_trans hcD (by rw [List.length_cons]; omega))) ?_)
  exact wpAny_pure (h _ ⟨(hs2.2 _ (Ne.symm I.ne)).trans I.obj, hn2, I.ne⟩ hs2)

/-- C(..): the dict at the heap's end, the instance behind it; then its __init__ -/
theorem make_map {R : Result → Shared → Prop} {vs : List Value} {kw : List (Str × Value)} (X : K.In s.heap) (hm : PySem.W.makesIn K C = true)
    (hi : PySem.W.findIn K (.ref C) "__init__" = some (some (.ref f))) (hf : PySem.W.typeIn K (.ref f) = some (.type "function"))
    (h : codeAny (model prog w) (A.under (.builtin "type.__call__" ⟨.ref C :: vs, kw⟩)) (.call (.ref f) ⟨.ref (s.heap.objs.size + 1) :: vs, kw⟩) (PySem.W.InitBack (s.heap.objs.size + 1) R)
      { s with heap := (s.heap.push PySem.W.emptyDict).push (PySem.W.instObj C s.heap.objs.size) }) :
    codeAny (model prog w) A (.call (.ref C) ⟨vs, kw⟩) R s := by
  obtain ⟨hh, g, d, t, os⟩ := s
  exact PySem.W.make_core (PySem.W.makes_of X hm) (PySem.W.looks_findIn X hi) (fun self => PySem.W.bind_fn X self hf) (.inl rfl) h
/-- C() where there is no __init__ but object's -/
theorem make_map0 {R : Result → Shared → Prop} (X : K.In s.heap) (hm : PySem.W.makesIn K C = true)
    (hi : PySem.W.findIn K (.ref C) "__init__" = some (some (.builtin "object.__init__")))
    (hb : ∀ self, PySem.W.Looks (model prog w) s.heap (bindSpecial (.builtin "object.__init__") self) (.builtin "object.__init__", [self]))
    (h : codeAny (model prog w) (A.under (.builtin "type.__call__" ⟨[.ref C], []⟩)) (.call (.builtin "object.__init__") ⟨[.ref (s.heap.objs.size + 1)], []⟩) (PySem.W.InitBack (s.heap.objs.size + 1) R)
      { s with heap := (s.heap.push PySem.W.emptyDict).push (PySem.W.instObj C s.heap.objs.size) }) :
    codeAny (model prog w) A (.call (.ref C) ⟨[], []⟩) R s := by
  obtain ⟨hh, g, d, t, os⟩ := s
  exact PySem.W.make_core (PySem.W.makes_of X hm) (PySem.W.looks_findIn X hi) hb (.inr ⟨rfl, rfl⟩) h
end

/-! ### the attributes as a list of pairs -/
def putF (f : Str) (v : V) : List (Str × V) → List (Str × V)
  | [] => [(f, v)]
  | (g, x) :: r => if g = f then (g, v) :: r else (g, x) :: putF f v r
theorem lookup_putF (f g : Str) (v : V) : ∀ fs : List (Str × V), (putF f v fs).lookup g = if g = f then some v else fs.lookup g
  | [] => by
    show List.lookup g [(f, v)] = _
    by_cases h : g = f
    · have hb : (g == f) = true := beq_iff_eq.mpr h
      simp only [List.lookup, hb, if_pos h]
    · have hb : (g == f) = false := beq_eq_false_iff_ne.mpr h
      simp only [List.lookup, hb, if_neg h]
  | (k, x) :: r => by
    have ih := lookup_putF f g v r
    rw [show putF f v ((k, x) :: r) = (if k = f then (k, v) :: r else (k, x) :: putF f v r) from rfl]
    by_cases hk : k = f
    · rw [if_pos hk]
      by_cases h : g = k
      · have hb : (g == k) = true := beq_iff_eq.mpr h
        simp only [List.lookup, hb, if_pos (h.trans hk)]
      · have hb : (g == k) = false := beq_eq_false_iff_ne.mpr h
        simp only [List.lookup, hb, if_neg (fun e : g = f => h (e.trans hk.symm))]
    · rw [if_neg hk]
      by_cases h : g = k
      · have hb : (g == k) = true := beq_iff_eq.mpr h
        simp only [List.lookup, hb, if_neg (fun e : g = f => hk (h.symm.trans e))]
      · have hb : (g == k) = false := beq_eq_false_iff_ne.mpr h
        simp only [List.lookup, hb]
        exact ih
theorem keys_putF (f : Str) (v : V) : ∀ fs : List (Str × V), f ∈ (putF f v fs).map (·.1) ∧ ∀ g, g ∈ fs.map (·.1) → g ∈ (putF f v fs).map (·.1)
  | [] => ⟨by simp [putF], fun g h => by simp at h⟩
  | (k, x) :: r => by
    obtain ⟨i1, i2⟩ := keys_putF f v r
    rw [show putF f v ((k, x) :: r) = (if k = f then (k, v) :: r else (k, x) :: putF f v r) from rfl]
    by_cases hk : k = f
    · rw [if_pos hk]
      subst hk
      exact ⟨by simp, fun g h => by simpa using h⟩
    · rw [if_neg hk]
      refine ⟨?_, fun g h => ?_⟩
      · rw [List.map_cons]
        exact List.mem_cons_of_mem _ i1
      · rw [List.map_cons] at h ⊢
        rcases List.mem_cons.mp h with e | e
        · exact List.mem_cons.mpr (.inl e)
        · exact List.mem_cons_of_mem _ (i2 g e)
theorem length_putF (f : Str) (v : V) : ∀ fs : List (Str × V), (putF f v fs).length ≤ fs.length + 1
  | [] => by simp [putF]
  | (k, x) :: r => by
    have ih := length_putF f v r
    rw [show putF f v ((k, x) :: r) = (if k = f then (k, v) :: r else (k, x) :: putF f v r) from rfl]
    by_cases hk : k = f
    · rw [if_pos hk, List.length_cons, List.length_cons]; omega
    · rw [if_neg hk, List.length_cons, List.length_cons]; omega

theorem RelO.some_of {v : V} {o : Option Value} (r : RelO (some v) o) : ∃ u, o = some u ∧ RelV v u := by
  cases o with
  | none => exact (show False from r).elim
  | some u => exact ⟨u, rfl, r⟩
theorem RelO.none_of {o : Option Value} (r : RelO none o) : o = none := by
  cases o with
  | none => rfl
  | some u => exact (show False from r).elim
theorem handed_of {v : V} {u : Value} (r : RelV v u) : PySem.W.handedIn u = true := by
  cases v with
  | non => cases (show u = Value.none from r); rfl
  | bl b => cases (show u = Value.bool b from r); rfl
  | int i => obtain ⟨t, e⟩ := (show ∃ t, u = Value.int i t from r); cases e; rfl
  | str x => obtain ⟨t, e⟩ := (show ∃ t, u = Value.str x t from r); cases e; rfl
  | byt b => obtain ⟨t, e⟩ := (show ∃ t, u = Value.bytes b t from r); cases e; rfl
  | flt b => obtain ⟨t, e⟩ := (show ∃ t, u = Value.float b t from r); cases e; rfl
  | ref a => cases (show u = Value.ref a from r); rfl
  | ty n => cases (show u = Value.type n from r); rfl

section
variable {P : Program} {w : World} {H H' : Hp} {h h' : Heap} {a C dx : Addr} {fs fs' : List (Str × V)}
theorem ins_get (hok : HOk P w H h) (e : H a = some (.ins C dx fs)) : ∃ mA, ObjM h a dx C mA ∧ (∀ f, RelO (fs.lookup f) (mA f)) ∧ PySem.Within mA (fs.map (·.1)) ∧ fs.length ≤ 1000 ∧ H dx = some (.own a) := by
  obtain ⟨d, z, ne, ob, mA, n, r, q⟩ := (show ObjOk P w H h a (.ins C dx fs) from hok a _ e)
  exact ⟨mA, ⟨ob, n, ne⟩, r, q, z, d⟩
end

/-! ### what of the text a class must have -/
structure Cls (K : PySem.W.Frag) (C : Addr) : Prop where
  pg : PySem.W.plainGet K C Str.empty = true
  hd : PySem.W.hasDictIn K C = true
  po : PySem.W.plainOver K C = true
  sa : PySem.W.findIn K (.ref C) "__setattr__" = some (some (.builtin "object.__setattr__"))
theorem Cls.get {K : PySem.W.Frag} {C : Addr} (c : Cls K C) (f : Str) : PySem.W.plainGet K C f = true := c.pg
/-- no class of it has the name -/
def NoAttr (K : PySem.W.Frag) (C : Addr) (f : Str) : Prop := PySem.W.findIn K (.ref C) f = some none
theorem NoAttr.taker {K : PySem.W.Frag} {C : Addr} {f : Str} (n : NoAttr K C f) : PySem.W.takerIn K C f = some none := by
  unfold PySem.W.takerIn
  rw [show PySem.W.findIn K (.ref C) f = some none from n]
  rfl
/-- a constant of the class -/
structure Con (K : PySem.W.Frag) (C : Addr) (f : Str) (v : V) (u : Value) : Prop where
  at_ : PySem.W.findIn K (.ref C) f = some (some u)
  rel : RelV v u
  get : PySem.W.specialIn K u "__get__" = some none
  cp : PySem.W.copiedNames.contains f = false
/-- a method: a plain def of the class or of one above it -/
structure Meth (K : PySem.W.Frag) (C : Addr) (m : Str) (f : Addr) : Prop where
  at_ : PySem.W.findIn K (.ref C) m = some (some (.ref f))
  fn : PySem.W.isFn K (.ref f) = true
  kp : PySem.W.keepIn K (.ref f) = true

section
variable {X : Cx} {pins : List (Addr × Obj)} {σ : St} {H : Hp} {s : Shared} {a C dx : Addr} {fs : List (Str × V)} {f : Str} {v : V} {A : Around} {E : Value → Shared → Prop}

theorem getattr_ok {b : Bool} {Q : Value → Shared → Prop} (I : Inv X pins σ H s) (e : H a = some (.ins C dx fs)) (c : Cls X.K C) (n : NoAttr X.K C f) (l : fs.lookup f = some v)
    (h : ∀ u s', Inv X pins σ H s' → RelV v u → Q u s') : wpAny (model X.prog X.w) A (getAttr (.ref a) f b) Q E s := by
  obtain ⟨mA, O, r, _, _, _⟩ := ins_get I.hok e
  obtain ⟨u, hu, ru⟩ := RelO.some_of (v := v) (o := mA f) (by rw [← l]; exact r f)
  exact get_map I.kIn O (c.get f) c.hd n hu (handed_of ru) (h u _ (I.tok _) ru)

theorem getcon_ok {b : Bool} {u : Value} {Q : Value → Shared → Prop} (I : Inv X pins σ H s) (e : H a = some (.ins C dx fs)) (c : Cls X.K C) (k : Con X.K C f v u) (l : fs.lookup f = none)
    (h : ∀ s', Inv X pins σ H s' → Q u s') : wpAny (model X.prog X.w) A (getAttr (.ref a) f b) Q E s := by
  obtain ⟨mA, O, r, _, _, _⟩ := ins_get I.hok e
  have hn : mA f = none := RelO.none_of (by rw [← l]; exact r f)
  exact get_const I.kIn O (c.get f) c.hd k.at_ k.get k.cp hn (handed_of k.rel) (h _ (I.tok _))

theorem getmeth_ok {m : Str} {g : Addr} {pl : Sem Bool} {Q : Value × List Value → Shared → Prop} (I : Inv X pins σ H s) (e : H a = some (.ins C dx fs)) (c : Cls X.K C) (k : Meth X.K C m g) (l : fs.lookup m = none)
    (h : Q (.ref g, [.ref a]) s) : wpAny (model X.prog X.w) A (getMethod (.ref a) m pl) Q E s := by
  obtain ⟨mA, O, r, _, _, _⟩ := ins_get I.hok e
  have hn : mA m = none := RelO.none_of (by rw [← l]; exact r m)
  exact get_meth I.kIn O (c.get m) k.at_ k.fn hn h

theorem setattr_ok {y : V} {u : Value} {Q : Unit → Shared → Prop} (I : Inv X pins σ H s) (e : H a = some (.ins C dx fs)) (c : Cls X.K C) (n : NoAttr X.K C f) (hl : fs.length < 1000) (ry : RelV y u)
    (h : ∀ s', Inv X pins σ (upd H a (.ins C dx (putF f y fs))) s' → Q () s') : wpAny (model X.prog X.w) A (setAttr (.ref a) f u) Q E s := by
  obtain ⟨mA, O, r, wi, _, ho⟩ := ins_get I.hok e
  have hz : (fs.map (·.1)).length ≤ sizeLine := by rw [List.length_map, sizeLine_eq]; omega
  refine set_map I.kIn O c.sa c.po n.taker c.hd wi hz fun h' O' sb => h _ ?_
  have hd : ∃ o, h'.get? dx = some o := let ⟨o, _, _, e', _⟩ := O'.ns; ⟨o, e'⟩
  refine I.write (x := a) (e := dx) (by rw [e]; exact True.intro) (.inr ho) (fun b q hb z => (sb.2 b hb).trans z) hd ?_
  refine ⟨by rw [upd_ne O.ne]; exact ho, ?_, O.ne, O'.obj, _, O'.ns, fun g => ?_, fun g hg => ?_⟩
  · have := length_putF f y fs; omega
  · show RelO ((putF f y fs).lookup g) (if g = f then some u else mA g)
    rw [lookup_putF]
    by_cases q : g = f
    · rw [if_pos q, if_pos q]; exact ry
    · rw [if_neg q, if_neg q]; exact r g
  · by_cases q : g = f
    · rw [q]; exact (keys_putF f y fs).1
    · refine (keys_putF f y fs).2 g (wi g fun z => hg ?_)
      show (if g = f then some u else mA g) = none
      rw [if_neg q]; exact z

/-- a new instance, tracked, without attributes -/
theorem Inv.made (I : Inv X pins σ H s) : Inv X pins σ (upd (upd H s.heap.objs.size (.own (s.heap.objs.size + 1))) (s.heap.objs.size + 1) (.ins C s.heap.objs.size []))
    { s with heap := (s.heap.push PySem.W.emptyDict).push (PySem.W.instObj C s.heap.objs.size) } := by
  have e1 : (s.heap.push PySem.W.emptyDict).get? s.heap.objs.size = some PySem.W.emptyDict := Heap.get?_push_size s.heap rfl
  have e2 : ((s.heap.push PySem.W.emptyDict).push (PySem.W.instObj C s.heap.objs.size)).get? (s.heap.objs.size + 1) = some (PySem.W.instObj C s.heap.objs.size) := by
    have := Heap.get?_push_size (s.heap.push PySem.W.emptyDict) (o := PySem.W.instObj C s.heap.objs.size) rfl
    rwa [Heap.size_push] at this
  have e3 : (s.heap.push PySem.W.emptyDict).Ns s.heap.objs.size (fun _ => none) := ⟨PySem.W.emptyDict, #[], _, e1, rfl, (fun e he => absurd he (by simp)), fun _ => rfl⟩
  have I1 := I.laid (a := s.heap.objs.size) (o := .own (s.heap.objs.size + 1)) (h' := s.heap.push PySem.W.emptyDict) (t' := s.toks) (fun b u q => Heap.get?_push_of_some _ q) (Nat.le_refl _) ⟨_, e1⟩
  refine I1.laid (a := s.heap.objs.size + 1) (o := .ins C s.heap.objs.size []) (t' := s.toks) (fun b u q => Heap.get?_push_of_some _ q) (Nat.le_of_eq (Heap.size_push _ _)) ?_
  have ne : s.heap.objs.size ≠ s.heap.objs.size + 1 := Nat.ne_of_lt (Nat.lt_succ_self _)
  refine ⟨by rw [upd_ne ne, upd_same], Nat.zero_le _, ne, e2, fun _ => none, (Heap.Ns1.of_empty e3).at fun o q => Heap.get?_push_of_some _ q, fun _ => True.intro, fun y hy => absurd rfl hy⟩

/-- e.f where nothing but the object is asked: through attributeBase (super) and the last hold -/
theorem attr_of {prog : Program} {w : World} {env : Env} {e : Expr} {f : Str} {pos : Pos} {s : Shared} {Q : Value → Shared → Prop} (hb : attributeBase e f env (eval e env) = eval e env)
    (h : wpAny (model prog w) A (eval e env) (fun o s₁ => wpAny (model prog w) A (getAttr o f true) Q E s₁) E s) : wpAny (model prog w) A (eval (.Attribute e f pos) env) Q E s :=
  Attribute_any_ h (by rw [arm_eval_Attribute, hb])
end

/-! ### readings and rules -/
/-- e.f, an attribute of the instance -/
def tFld (K : PySem.W.Frag) (ta : TE) (f : Str) : TE := fun σ H Q => ta σ H fun x H1 => ∃ a C dx fs v, x = .ref a ∧ H1 a = some (.ins C dx fs) ∧ Cls K C ∧ NoAttr K C f ∧ fs.lookup f = some v ∧ Q v H1
/-- e.f, a constant of the class -/
def tCon (K : PySem.W.Frag) (ta : TE) (f : Str) : TE := fun σ H Q => ta σ H fun x H1 => ∃ a C dx fs v u, x = .ref a ∧ H1 a = some (.ins C dx fs) ∧ Cls K C ∧ Con K C f v u ∧ fs.lookup f = none ∧ Q v H1
/-- e.f = value -/
def sFld (K : PySem.W.Frag) (ta tv : TE) (f : Str) : TS := fun D σ H => tv σ H fun y H1 => ta σ H1 fun x H2 => ∃ a C dx fs, x = .ref a ∧ H2 a = some (.ins C dx fs) ∧ Cls K C ∧ NoAttr K C f ∧ fs.length < 1000 ∧
  D.nx σ (upd H2 a (.ins C dx (putF f y fs)))
/-- an augmented operator on two values -/
def InOp (X : Cx) (op : Operator) (rd : V → V → Hp → VK → Prop) : Prop :=
  ∀ (pins : List (Addr × Obj)) (s : Shared) (σ : St) (H : Hp) (x y : V) (u v : Value) (Q : VK), Inv X pins σ H s → RelV x u → RelV y v → rd x y H Q → wpAny (model X.prog X.w) X.A (inplaceOp op u v) (EP X pins σ Q) X.xe s
/-- e.f op= value -/
def sFldAug (K : PySem.W.Frag) (ta tv : TE) (rd : V → V → Hp → VK → Prop) (f : Str) : TS := fun D σ H => ta σ H fun x H1 => ∃ a C dx fs v, x = .ref a ∧ H1 a = some (.ins C dx fs) ∧ Cls K C ∧ NoAttr K C f ∧ fs.lookup f = some v ∧
  tv σ H1 fun y H2 => rd v y H2 fun z H3 => ∃ dx' fs', H3 a = some (.ins C dx' fs') ∧ fs'.length < 1000 ∧ D.nx σ (upd H3 a (.ins C dx' (putF f z fs')))

section
variable {X : Cx} {o e value : Expr} {f : Str} {pos pos' tpos : Pos} {ta tv : TE}
theorem pe_fld (he : PE X e ta) (hb : attributeBase e f X.env (eval e X.env) = eval e X.env) : PE X (.Attribute e f pos) (tFld X.K ta f) := by
  intro pins s σ H Q I h
  refine attr_of hb (thn (he pins s σ H _ I h) fun u s1 ⟨x, H1, I1, rx, a, C, dx, fs, v, ex, ea, c, n, l, q⟩ => ?_)
  subst ex
  obtain rfl : u = Value.ref a := rx
  exact getattr_ok I1 ea c n l fun u' s2 I2 ru => ⟨v, H1, I2, ru, q⟩
theorem pe_con (he : PE X e ta) (hb : attributeBase e f X.env (eval e X.env) = eval e X.env) : PE X (.Attribute e f pos) (tCon X.K ta f) := by
  intro pins s σ H Q I h
  refine attr_of hb (thn (he pins s σ H _ I h) fun u s1 ⟨x, H1, I1, rx, a, C, dx, fs, v, u0, ex, ea, c, k, l, q⟩ => ?_)
  subst ex
  obtain rfl : u = Value.ref a := rx
  exact getcon_ok I1 ea c k l fun s2 I2 => ⟨v, H1, I2, k.rel, q⟩
theorem ps_fld (ha : PE X o ta) (hv : PE X value tv) (hs : swapsWith value (some (.Attribute o f pos')) pos.line X.env = pure false) : PS X (.Assign [.Attribute o f pos'] value pos) (sFld X.K ta tv f) := by
  intro pins s σ H D I h
  refine plainObj_wpAny_Assign_Attribute (thn (hv pins s σ H _ I h) fun u s1 ⟨y, H1, I1, ry, q⟩ => thn (ha pins s1 σ H1 _ I1 q) fun ov s2 ⟨x, H2, I2, rx, a, C, dx, fs, ex, ea, c, n, l, q2⟩ => ?_) hs
  subst ex
  obtain rfl : ov = Value.ref a := rx
  exact setattr_ok I2 ea c n l ry fun s3 I3 => ⟨σ, _, I3, q2⟩
theorem ps_fldaug {op : Operator} {rd : V → V → Hp → VK → Prop} (ha : PE X o ta) (hv : PE X value tv) (hop : InOp X op rd) : PS X (.AugAssign (.Attribute o f tpos) op value pos) (sFldAug X.K ta tv rd f) := by
  intro pins s σ H D I h
  refine wpAny_AugAssign_AttributeAny (thn (ha pins s σ H _ I h) fun ov s1 ⟨x, H1, I1, rx, a, C, dx, fs, v, ex, ea, c, n, l, q⟩ => ?_)
  subst ex
  obtain rfl : ov = Value.ref a := rx
  refine getattr_ok I1 ea c n l fun u s2 I2 ru => thn (hv pins s2 σ H1 _ I2 q) fun w3 s3 ⟨y, H2, I3, ry, q3⟩ => thn (hop pins s3 σ H2 v y u w3 _ I3 ru ry q3) fun w4 s4 ⟨z, H3, I4, rz, dx', fs', ea', l', q4⟩ => ?_
  exact setattr_ok I4 ea' c n l' rz fun s5 I5 => ⟨σ, _, I5, q4⟩
def rAdd : V → V → Hp → VK → Prop := fun x y H Q => ∃ i j, x = .int i ∧ y = .int j ∧ Q (.int (i + j)) H
def rSub : V → V → Hp → VK → Prop := fun x y H Q => ∃ i j, x = .int i ∧ y = .int j ∧ Q (.int (i - j)) H
theorem in_add : InOp X .Add rAdd := by
  rintro pins s σ H x y u v Q I rx ry ⟨i, j, rfl, rfl, q⟩
  obtain ⟨t, rfl⟩ := (show ∃ t, u = Value.int i t from rx)
  obtain ⟨t', rfl⟩ := (show ∃ t', v = Value.int j t' from ry)
  exact PyProof.Rows.iadd_int ⟨.int (i + j), H, I.tok _, ⟨_, rfl⟩, q⟩
theorem in_sub : InOp X .Sub rSub := by
  rintro pins s σ H x y u v Q I rx ry ⟨i, j, rfl, rfl, q⟩
  obtain ⟨t, rfl⟩ := (show ∃ t, u = Value.int i t from rx)
  obtain ⟨t', rfl⟩ := (show ∃ t', v = Value.int j t' from ry)
  exact PyProof.Rows.isub_int ⟨.int (i - j), H, I.tok _, ⟨_, rfl⟩, q⟩

/-- what is between an instance and its method: the tree of a method call -/
theorem methcall_of {pl : Sem Bool} {m : Str} {apos : Pos} {args : List Expr} {pins : List (Addr × Obj)} {s : Shared} {σ : St} {H : Hp} {Q : Value → Shared → Prop} {te : TE} (he : PE X e te) (I : Inv X pins σ H s)
    (h : te σ H fun x H1 => ∃ a C dx fs g, x = .ref a ∧ H1 a = some (.ins C dx fs) ∧ Cls X.K C ∧ Meth X.K C m g ∧ fs.lookup m = none ∧
      ∀ s1, Inv X pins σ H1 s1 → wpAny (model X.prog X.w) X.A (callWith pos (.ref g) [.ref a] (backTo pos (starEach args X.env)) (backToKw pos (keywordEach [] X.env))) Q X.xe s1)
    (ht : eval (.Call (.Attribute e m apos) args [] pos) X.env = (do
      let ov ← eval e X.env
      standAt apos.atName
      let (f, first) ← holding [ov] (getMethod ov m pl)
      callWith pos f first (backTo pos (starEach args X.env)) (backToKw pos (keywordEach [] X.env)))) :
    wpAny (model X.prog X.w) X.A (eval (.Call (.Attribute e m apos) args [] pos) X.env) Q X.xe s := by
  refine PySem.W.methodCall_KW (pl := pl) (thn (he pins s σ H _ I h) fun u s1 ⟨x, H1, I1, rx, a, C, dx, fs, g, ex, ea, c, k, l, q⟩ => ?_) ht
  subst ex
  obtain rfl : u = Value.ref a := rx
  exact getmeth_ok I1 ea c k l (q s1 I1)
end

/-! ### isinstance -/
section
variable {X : Cx} {pins : List (Addr × Obj)} {σ : St} {H : Hp} {s : Shared} {A : Around} {E : Value → Shared → Prop} {Q : Value → Shared → Prop} {c : Value} {b : Bool}
/-- the type of a value, as the fragment's deciders take it; for an instance its class -/
inductive TyOf (K : PySem.W.Frag) (H : Hp) : V → Value → Prop where
  | non : TyOf K H .non (.type "NoneType")
  | bl (x : Bool) : TyOf K H (.bl x) (.type "bool")
  | int (i : Int) : TyOf K H (.int i) (.type "int")
  | str (x : Str) : TyOf K H (.str x) (.type "str")
  | flt (x : UInt64) : TyOf K H (.flt x) (.type "float")
  | lst {a : Addr} {xs : List V} (e : H a = some (.lst xs)) : TyOf K H (.ref a) (.type "list")
  | frz {a : Addr} {o : Obj} {xs : List V} (e : H a = some (.frz o (.lst xs))) : TyOf K H (.ref a) (.type "list")
  | tup {a : Addr} {xs : List V} (e : H a = some (.tup xs)) : TyOf K H (.ref a) (.type "tuple")
  | dK {a : Addr} {kvs : List (Key × V)} (e : H a = some (.dK kvs)) : TyOf K H (.ref a) (.type "dict")
  | dT {a : Addr} {kvs : List (List Key × V)} (e : H a = some (.dT kvs)) : TyOf K H (.ref a) (.type "dict")
  | ins {a C dx : Addr} {fs : List (Str × V)} (e : H a = some (.ins C dx fs)) (cl : Cls K C) (ha : PySem.W.findIn K (.ref C) "__class__" = some (some (.builtin "object.__class__")))
      (hn : PySem.W.specialIn K (.builtin "object.__class__") "__get__" = some (some (.builtin "getset_descriptor.__get__"))) (htk : PySem.W.takesIn K (.builtin "object.__class__") = some true)
      (hm : PySem.W.mroIn K C (.type "object") = some true) : TyOf K H (.ref a) (.ref C)
/-- isinstance(x, c) for one class c, a built-in or an own one: kitOne's answer -/
theorem isinst_ok {x : V} {u t : Value} (I : Inv X pins σ H s) (rx : RelV x u) (ty : TyOf X.K H x t) (e : PySem.W.kitOne X.K t c = some b) (h : ∀ tk, Q (.bool b) { s with toks := tk }) :
    wpAny (model X.prog X.w) A (call (.builtin "isinstance") [u, c]) Q E s := by
  cases ty with
  | non => cases (show u = Value.none from rx); exact PySem.W.kia_one PySem.W.kitx_none I.kIn True.intro e (fun z => nomatch z) h
  | bl y => cases (show u = Value.bool y from rx); exact PySem.W.kia_one PySem.W.kitx_bool I.kIn True.intro e (fun z => nomatch z) h
  | int i => obtain ⟨t, q⟩ := (show ∃ t, u = Value.int i t from rx); cases q; exact PySem.W.kia_one PySem.W.kitx_int I.kIn True.intro e (fun z => nomatch z) h
  | str y => obtain ⟨t, q⟩ := (show ∃ t, u = Value.str y t from rx); cases q; exact PySem.W.kia_one PySem.W.kitx_str I.kIn True.intro e (fun z => nomatch z) h
  | flt y => obtain ⟨t, q⟩ := (show ∃ t, u = Value.float y t from rx); cases q; exact PySem.W.kia_one PySem.W.kitx_float I.kIn True.intro e (fun z => nomatch z) h
  | @lst a xs ea =>
    cases (show u = Value.ref a from rx)
    obtain ⟨_, _, n, _, h1⟩ := (show ObjOk X.prog X.w H s.heap a (.lst xs) from I.hok a _ ea)
    exact PySem.W.kia_one PySem.W.kitx_list I.kIn ⟨_, h1, rfl⟩ e (fun z => nomatch z) h
  | @frz a ob xs ea =>
    cases (show u = Value.ref a from rx)
    obtain ⟨_, _, _, n, _, h1⟩ := (show ObjOk X.prog X.w H s.heap a (.frz ob (.lst xs)) from I.hok a _ ea)
    exact PySem.W.kia_one PySem.W.kitx_list I.kIn ⟨_, h1, rfl⟩ e (fun z => nomatch z) h
  | @tup a xs ea =>
    cases (show u = Value.ref a from rx)
    obtain ⟨_, _, _, p⟩ := (show ObjOk X.prog X.w H s.heap a (.tup xs) from I.hok a _ ea)
    obtain ⟨o, h1, h2, _⟩ := p
    exact PySem.W.kia_one PySem.W.kitx_tuple I.kIn ⟨o, h1, h2⟩ e (fun z => nomatch z) h
  | @dK a kvs ea =>
    cases (show u = Value.ref a from rx)
    obtain ⟨_, _, vs, _, p⟩ := (show ObjOk X.prog X.w H s.heap a (.dK kvs) from I.hok a _ ea)
    obtain ⟨o, es, ep, h1, h2, _⟩ := p
    exact PySem.W.kia_one PySem.W.kitx_dict I.kIn ⟨o, h1, h2.1⟩ e (fun z => nomatch z) h
  | @dT a kvs ea =>
    cases (show u = Value.ref a from rx)
    obtain ⟨_, _, xs, _, o, es, ep, h1, h2, _⟩ := (show ObjOk X.prog X.w H s.heap a (.dT kvs) from I.hok a _ ea)
    exact PySem.W.kia_one PySem.W.kitx_dict I.kIn ⟨o, h1, h2.1⟩ e (fun z => nomatch z) h
  | @ins a C dx fs ea cl ha hn htk hm =>
    cases (show u = Value.ref a from rx)
    obtain ⟨mA, O, _⟩ := ins_get I.hok ea
    obtain ⟨od, J, _⟩ := O.look
    exact PySem.W.kia_one (PySem.W.kitx_own (cl.get _) cl.hd ha hn htk hm) I.kIn J e (fun z => nomatch z) h
end
end L2

namespace L2
open PySem PySem.Spec PyProof.Rows

/-! ### room -/
structure Room (k : Nat) (A : Around) : Prop where
  hd : A.handled = none
  dp : A.depth + 3 * k + 5 < recursionLimit
  un : A.units + 16 * k + 200 < cLine
theorem Room.mono {j k : Nat} {A : Around} (r : Room k A) (h : j ≤ k) : Room j A := ⟨r.hd, by have := r.dp; omega, by have := r.un; omega⟩
theorem Room.deeper {k : Nat} {A : Around} (r : Room (k + 1) A) (env : Env) : Room k (A.deeper env) :=
  ⟨r.hd, by have := r.dp; show A.depth + 1 + 3 * k + 5 < _; omega, by have := r.un; show A.units + 3 + 16 * k + 200 < _; omega⟩
theorem Room.in1 {k : Nat} {A : Around} (r : Room (k + 1) A) : Room k A.in1 :=
  ⟨r.hd, by have := r.dp; show A.depth + 3 * k + 5 < _; omega, by have := r.un; show A.units + 1 + 16 * k + 200 < _; omega⟩
theorem make_depth {A : Around} {C : Addr} {us : List Value} {kw : List (Str × Value)} : (A.under (.builtin "type.__call__" ⟨.ref C :: us, kw⟩)).depth = A.depth + 1 := by
  first | rfl | simp [Around.under, Code.weight, Code.isCreation, Code.isGuard, Code.isCaller, Code.frames, Code.isFrame, guardIds]
theorem make_units {A : Around} {C : Addr} {us : List Value} {kw : List (Str × Value)} : (A.under (.builtin "type.__call__" ⟨.ref C :: us, kw⟩)).units = A.units + 1 := by
  first | rfl | simp [Around.under, Code.cUnits, Code.frames, Code.isFrame]
theorem Room.make {k : Nat} {A : Around} (r : Room (k + 1) A) (C : Addr) (us : List Value) (kw : List (Str × Value)) : Room k (A.under (.builtin "type.__call__" ⟨.ref C :: us, kw⟩)) :=
  ⟨r.hd, by have := r.dp; rw [make_depth]; omega, by have := r.un; rw [make_units]; omega⟩
theorem Room.depth {k : Nat} {A : Around} (r : Room k A) : A.depth < recursionLimit := by have := r.dp; omega
theorem Room.units {k : Nat} {A : Around} (r : Room k A) : A.units + 64 < cLine := by have := r.un; omega
theorem Room.units0 {k : Nat} {A : Around} (r : Room k A) : A.units < cLine := by have := r.un; omega

/-! ### argument lists and displays -/
def tNil : TA := fun _ H Q => Q [] H
def tCons (ta : TE) (tr : TA) : TA := fun σ H Q => ta σ H fun x H1 => tr σ H1 fun xs H2 => Q (x :: xs) H2
section
variable {X : Cx} {e : Expr} {es : List Expr} {te : TE} {t : TA} {pos : Pos}
theorem pa_nil : PA X [] tNil := fun _ _ _ _ H Q I h => Calls.spliced_nil ⟨[], H, I, .nil, h⟩
theorem pa_cons (ha : PE X e te) (hr : PA X es t) (hs : starEach (e :: es) X.env = (false, eval e X.env) :: starEach es X.env := by rfl) : PA X (e :: es) (tCons te t) := by
  intro pos pins s σ H Q I h
  rw [hs]
  show wpAny _ _ (spliced ((false, eval e X.env) :: backTo pos (starEach es X.env))) _ _ s
  refine Calls.spliced_cons (thn (ha pins s σ H _ I h) fun u s1 ⟨x, H1, I1, r1, q1⟩ => ?_)
  exact thn (hr pos pins s1 σ H1 _ I1 q1) fun us s2 ⟨xs, H2, I2, r2, q2⟩ => ⟨x :: xs, H2, I2, .cons r1 r2, q2⟩

/-- a tuple, a list of written items -/
def tTup (t : TA) : TE := fun σ H Q => t σ H fun xs H1 => xs.length ≤ sizeLine ∧ ∀ p, H1 p = none → Q (.ref p) (upd H1 p (.tup xs))
def tLst (t : TA) : TE := fun σ H Q => t σ H fun xs H1 => xs.length ≤ sizeLine ∧ ∀ p, H1 p = none → Q (.ref p) (upd H1 p (.lst xs))
theorem pe_tup {x1} (h : PA X es t) : PE X (.Tuple es x1 pos) (tTup t) := by
  intro pins s σ H Q I hq
  refine wpAny_Tuple_spliced (thn (h pos pins s σ H _ I hq) fun us s1 ⟨xs, H1, I1, r, z, q⟩ => ⟨by rw [← r.length]; exact z, ?_⟩)
  have hf : H1 s1.heap.objs.size = none := I1.hok.fresh (Nat.le_refl _)
  refine ⟨.ref s1.heap.objs.size, upd H1 s1.heap.objs.size (.tup xs), I1.laid (t' := s1.toks) (fun b u e => Heap.get?_push_of_some _ e) (Nat.le_refl _) ?_, rfl, q _ hf⟩
  exact ⟨z, us, r, ⟨_, Heap.get?_push_size _ rfl, rfl, _, rfl⟩⟩
theorem pe_lst (h : PA X es t) : PE X (.List es pos) (tLst t) := by
  intro pins s σ H Q I hq
  refine wpAny_List_spliced (thn (h pos pins s σ H _ I hq) fun us s1 ⟨xs, H1, I1, r, z, q⟩ => ⟨by rw [← r.length]; exact z, ?_⟩)
  have hf : H1 s1.heap.objs.size = none := I1.hok.fresh (Nat.le_refl _)
  refine ⟨.ref s1.heap.objs.size, upd H1 s1.heap.objs.size (.lst xs), I1.laid (t' := s1.toks) (fun b u e => Heap.get?_push_of_some _ e) (Nat.le_refl _) ?_, rfl, q _ hf⟩
  exact ⟨z, us, 0, r, Heap.get?_push_size _ rfl⟩
end

/-! ### what a def promises -/
/-- a def's promise: the bound arguments in the parameters' order, the heap, the wanted end, the wanted exception -/
abbrev Sp := List V → Hp → VK → XK → Prop
/-- how an exception lies behind a call (file 08 gives it): the callers' frames, abstract heap and state ahead of the call, the wish, the exception, the state -/
abbrev CXT := List Env → Hp → Shared → XK → Value → Shared → Prop

/-- the state at a call -/
structure Env0 (P : Program) (w : World) (K : PySem.W.Frag) (mg : Str → Option Value) (base : Heap) (A : Around) (outer : List Env) (s : Shared) (H : Hp) : Prop where
  frames : A.frames = some outer
  mod : Mod K mg base
  bs : ∀ b o, base.get? b = some o → s.heap.get? b = some o ∧ H b = none
  bsz : base.objs.size ≤ s.heap.objs.size
  funs : s.heap.FunFrames base outer
  frf : ∀ b ∈ frs outer, H b = none
  hok : HOk P w H s.heap
  bare : AllBare s.gens
/-- a call's end -/
def CE (outer : List Env) (P : Program) (w : World) (H : Hp) (s : Shared) (Q : VK) (u : Value) (s' : Shared) : Prop :=
  ∃ v H', s'.os = s.os ∧ AllBare s'.gens ∧ Un (frs outer) [] H H' s.heap s'.heap ∧ HOk P w H' s'.heap ∧ RelV v u ∧ Q v H'
def CR (CX : CXT) (outer : List Env) (P : Program) (w : World) (H : Hp) (s : Shared) (Q : VK) (E : XK) (r : Result) (s' : Shared) : Prop :=
  match r with
  | .ok (.ret u) => CE outer P w H s Q u s'
  | .ok _ => False
  | .error e => CX outer H s E e s'
structure FnOk (P : Program) (w : World) (K : PySem.W.Frag) (mg : Str → Option Value) (base : Heap) (CX : CXT) (k : Nat) (f : Addr) (fd : FuncData) (ps : List Str) (sp : Sp) : Prop where
  len : ∀ vs H Q E, sp vs H Q E → vs.length = ps.length
  run : ∀ (A : Around) (outer : List Env) (s : Shared) (H : Hp) (args : Args) (us : List Value) (vs : List V) (Q : VK) (E : XK), Room k A → Env0 P w K mg base A outer s H → BindsTo s fd args (ps.zip us) → Vals vs us → sp vs H Q E →
    codeAny (model P w) A (.call (.ref f) args) (CR CX outer P w H s Q E) s
theorem FnOk.mono {P : Program} {w : World} {K : PySem.W.Frag} {mg : Str → Option Value} {base : Heap} {CX : CXT} {j k : Nat} {f : Addr} {fd : FuncData} {ps : List Str} {sp : Sp} (F : FnOk P w K mg base CX j f fd ps sp) (h : j ≤ k) :
    FnOk P w K mg base CX k f fd ps sp := ⟨F.len, fun A outer s H args us vs Q E hr => F.run A outer s H args us vs Q E (hr.mono h)⟩
/-- a weaker promise -/
theorem FnOk.imp {P : Program} {w : World} {K : PySem.W.Frag} {mg : Str → Option Value} {base : Heap} {CX : CXT} {k : Nat} {f : Addr} {fd : FuncData} {ps : List Str} {sp sp' : Sp} (F : FnOk P w K mg base CX k f fd ps sp)
    (h : ∀ vs H Q E, sp' vs H Q E → sp vs H Q E) : FnOk P w K mg base CX k f fd ps sp' :=
  ⟨fun vs H Q E q => F.len vs H Q E (h _ _ _ _ q), fun A outer s H args us vs Q E hr he hb hv hs => F.run A outer s H args us vs Q E hr he hb hv (h _ _ _ _ hs)⟩

theorem Env0.make {P : Program} {w : World} {K : PySem.W.Frag} {mg : Str → Option Value} {base : Heap} {A : Around} {outer : List Env} {s : Shared} {H : Hp} (e : Env0 P w K mg base A outer s H) (C : Addr) (us : List Value) (kw : List (Str × Value)) :
    Env0 P w K mg base (A.under (.builtin "type.__call__" ⟨.ref C :: us, kw⟩)) outer s H := ⟨by first | exact e.frames | (simpa [Around.under, Code.envs, Code.isFrame, pushEnvs] using e.frames), e.mod, e.bs, e.bsz, e.funs, e.frf, e.hok, e.bare⟩
theorem Env0.in1 {P : Program} {w : World} {K : PySem.W.Frag} {mg : Str → Option Value} {base : Heap} {A : Around} {outer : List Env} {s : Shared} {H : Hp} (e : Env0 P w K mg base A outer s H) :
    Env0 P w K mg base A.in1 outer s H := ⟨e.frames, e.mod, e.bs, e.bsz, e.funs, e.frf, e.hok, e.bare⟩

section
variable {X : Cx} {pins : List (Addr × Obj)} {σ : St} {H : Hp} {s s' : Shared}
/-- from a body: what a callee wants -/
theorem Inv.env0 (I : Inv X pins σ H s) : Env0 X.prog X.w X.K X.mg X.base X.A X.stack s H :=
  ⟨I.ok.frames, I.ok.mod, I.bs, Nat.le_trans I.ok.bsz I.sz, I.stack, I.stkFree, I.hok, I.bare⟩
/-- behind a call -/
theorem Inv.after {Q : VK} {u : Value} (I : Inv X pins σ H s) (h : CE X.stack X.prog X.w H s Q u s') : EP X pins σ Q u s' := by
  obtain ⟨v, H', os, bare, un, hok, r, q⟩ := h
  obtain ⟨hh, g, d, t, os'⟩ := s'
  obtain rfl : os' = s.os := os
  exact ⟨v, H', I.call (h' := hh) (g' := g) (d' := d) (t' := t) (ch := []) un hok bare (fun b z => absurd z (by simp)), r, q⟩
end

/-! ### calls -/
/-- f(..): the written arguments, then the defaults dvs; E: what is wanted of an exception -/
def tCall (sp : Sp) (dvs : List V) (E : XK) (t : TA) : TE := fun σ H Q => t σ H fun vs H1 => sp (vs ++ dvs) H1 Q E
/-- o.m(..) of an instance of the class at C -/
def tMeth (C : Addr) (m : Str) (sp : Sp) (dvs : List V) (E : XK) (ta : TE) (t : TA) : TE := fun σ H Q => ta σ H fun x H1 => ∃ a dx fs, x = .ref a ∧ H1 a = some (.ins C dx fs) ∧ fs.lookup m = none ∧
  t σ H1 fun vs H2 => sp (x :: (vs ++ dvs)) H2 Q E
/-- C(..): a new instance and its dict, then __init__ -/
def tMake (C : Addr) (sp : Sp) (dvs : List V) (E : XK) (t : TA) : TE := fun σ H Q => t σ H fun vs H1 => ∀ x dx, H1 x = none → H1 dx = none → dx ≠ x →
  sp (.ref x :: (vs ++ dvs)) (upd (upd H1 dx (.own x)) x (.ins C dx [])) (fun v H2 => v = .non ∧ Q (.ref x) H2) E

/-- how the parameters are bound: us the positional arguments, kw the keywords' values by name, ds the defaults that fill up -/
def Binds (K : PySem.W.Frag) (fd : FuncData) (ps : List Str) (ds : List Value) : Prop :=
  ∀ (s : Shared) (us : List Value), K.In s.heap → (us ++ ds).length = ps.length → BindsTo s fd ⟨us, []⟩ (ps.zip (us ++ ds))
/-- every parameter is given -/
theorem Binds.all {K : PySem.W.Frag} {fd : FuncData} {ps : List Str} (h : ∀ us : List Value, us.length = ps.length → bindArgs fd ⟨us, []⟩ = pure (ps.zip us)) : Binds K fd ps [] := fun s us _ hl => by
  rw [List.append_nil] at hl ⊢
  exact .of_eq (h us hl)

/-- an exception of a callee reaches what this body wants of exceptions -/
def Passes (CX : CXT) (X : Cx) (E : XK) : Prop := ∀ (pins : List (Addr × Obj)) (σ : St) (H : Hp) (s : Shared) (e : Value) (s' : Shared), Inv X pins σ H s → CX X.stack H s E e s' → X.xe e s'

section
variable {X : Cx} {CX : CXT} {k : Nat} {f C : Addr} {fd : FuncData} {ps : List Str} {sp : Sp} {dvs : List V} {ds : List Value} {E : XK} {x m : Str} {p pos apos : Pos} {e o : Expr} {es : List Expr} {ta : TE} {t : TA}

/-- the callee runs -/
theorem run_fn {pins : List (Addr × Obj)} {σ : St} {H : Hp} {s : Shared} {Q : VK} {us : List Value} {vs : List V} (F : FnOk X.prog X.w X.K X.mg X.base CX k f fd ps sp) (hr : Room k X.A) (hb : Binds X.K fd ps ds) (hd : Vals dvs ds) (hx : Passes CX X E)
    (I : Inv X pins σ H s) (r : Vals vs us) (h : sp (vs ++ dvs) H Q E) : wpAny (model X.prog X.w) X.A (call (.ref f) us) (EP X pins σ Q) X.xe s := by
  have r2 : Vals (vs ++ dvs) (us ++ ds) := r.append hd
  have hl : (us ++ ds).length = ps.length := by rw [← r2.length]; exact F.len _ _ _ _ h
  refine wpAny_call (codeAny_mono (F.run X.A X.stack s H ⟨us, []⟩ (us ++ ds) (vs ++ dvs) Q E hr I.env0 (hb s us I.kIn hl) r2 h) fun r s' hq => ?_)
  cases r with
  | error e => exact hx pins σ H s e s' I hq
  | ok fl =>
    cases fl with
    | ret u => exact I.after hq
    | next => exact False.elim hq
    | brk => exact False.elim hq
    | cont => exact False.elim hq

theorem pe_call (F : FnOk X.prog X.w X.K X.mg X.base CX k f fd ps sp) (hr : Room k X.A) (hg : Gl X x) (hm : X.mg x = some (.ref f)) (hk : PySem.W.keepIn X.K (.ref f) = true) (hb : Binds X.K fd ps ds) (hd : Vals dvs ds) (hx : Passes CX X E)
    (ha : PA X (e :: es) t) (hdb : (x == ("__debug__" : Str)) = false := by decide) (he : starEach (e :: es) X.env = (false, eval e X.env) :: starEach es X.env := by rfl) (hpl : (backTo pos (starEach es X.env)).any (·.1) = false := by rfl) :
    PE X (.Call (.Name x p) (e :: es) [] pos) (tCall sp dvs E t) := by
  intro pins s σ H Q I h
  refine wpAny_Call_Name_kw (ld_glob I hg hm ?_ hdb)
  refine PySem.W.callWith_K (h₀ := X.base) I.ok.mod.kin hk (thn (ha pos pins s σ H _ I h) fun us s1 ⟨vs, H1, I1, r, q⟩ => ⟨I1.kIn, ?_⟩) he hpl
  exact run_fn F hr hb hd hx I1 r q
theorem pe_call0 (F : FnOk X.prog X.w X.K X.mg X.base CX k f fd ps sp) (hr : Room k X.A) (hg : Gl X x) (hm : X.mg x = some (.ref f)) (hk : PySem.W.keepIn X.K (.ref f) = true) (hb : Binds X.K fd ps ds) (hd : Vals dvs ds) (hx : Passes CX X E)
    (hdb : (x == ("__debug__" : Str)) = false := by decide) : PE X (.Call (.Name x p) [] [] pos) (tCall sp dvs E tNil) := by
  intro pins s σ H Q I h
  refine wpAny_Call_Name_kw (ld_glob I hg hm ?_ hdb)
  exact PySem.W.callWith_K0 I.kIn hk (run_fn (us := []) F hr hb hd hx I .nil h)

/-- o.m(e, ..) -/
theorem pe_meth {pl : Sem Bool} (he : PE X o ta) (c : Cls X.K C) (hm : Meth X.K C m f) (F : FnOk X.prog X.w X.K X.mg X.base CX k f fd ps sp) (hr : Room k X.A) (hb : Binds X.K fd ps ds) (hd : Vals dvs ds) (hx : Passes CX X E) (ha : PA X (e :: es) t)
    (hst : starEach (e :: es) X.env = (false, eval e X.env) :: starEach es X.env := by rfl) (hpl : (backTo pos (starEach es X.env)).any (·.1) = false := by rfl)
    (ht : eval (.Call (.Attribute o m apos) (e :: es) [] pos) X.env = (do
      let ov ← eval o X.env
      standAt apos.atName
      let (f, first) ← holding [ov] (getMethod ov m pl)
      callWith pos f first (backTo pos (starEach (e :: es) X.env)) (backToKw pos (keywordEach [] X.env))) := by rfl) :
    PE X (.Call (.Attribute o m apos) (e :: es) [] pos) (tMeth C m sp dvs E ta t) := by
  intro pins s σ H Q I h
  refine PySem.W.methodCall_KW (pl := pl) (thn (he pins s σ H _ I h) fun u s1 ⟨x, H1, I1, rx, a, dx, fs, ex, ea, l, q⟩ => ?_) ht
  subst ex
  obtain rfl : u = Value.ref a := rx
  refine getmeth_ok I1 ea c hm l ?_
  refine PySem.W.callWith_K (first := [.ref a]) (h₀ := X.base) I.ok.mod.kin hm.kp (thn (ha pos pins s1 σ H1 _ I1 q) fun us s2 ⟨vs, H2, I2, r, q2⟩ => ⟨I2.kIn, ?_⟩) hst hpl
  exact run_fn (us := .ref a :: us) (vs := .ref a :: vs) F hr hb hd hx I2 (.cons rfl r) q2
/-- o.m() -/
theorem pe_meth0 {pl : Sem Bool} (he : PE X o ta) (c : Cls X.K C) (hm : Meth X.K C m f) (F : FnOk X.prog X.w X.K X.mg X.base CX k f fd ps sp) (hr : Room k X.A) (hb : Binds X.K fd ps ds) (hd : Vals dvs ds) (hx : Passes CX X E)
    (ht : eval (.Call (.Attribute o m apos) [] [] pos) X.env = (do
      let ov ← eval o X.env
      standAt apos.atName
      let (f, first) ← holding [ov] (getMethod ov m pl)
      callWith pos f first (backTo pos (starEach [] X.env)) (backToKw pos (keywordEach [] X.env))) := by rfl) :
    PE X (.Call (.Attribute o m apos) [] [] pos) (tMeth C m sp dvs E ta tNil) := by
  intro pins s σ H Q I h
  refine PySem.W.methodCall_KW (pl := pl) (thn (he pins s σ H _ I h) fun u s1 ⟨x, H1, I1, rx, a, dx, fs, ex, ea, l, q⟩ => ?_) ht
  subst ex
  obtain rfl : u = Value.ref a := rx
  refine getmeth_ok I1 ea c hm l ?_
  exact PySem.W.callWith_K0 (first := [.ref a]) I1.kIn hm.kp (run_fn (us := [.ref a]) (vs := [.ref a]) F hr hb hd hx I1 (.cons rfl .nil) q)

/-- what a class must have to be made -/
structure Mk (K : PySem.W.Frag) (C f : Addr) : Prop where
  makes : PySem.W.makesIn K C = true
  init : PySem.W.findIn K (.ref C) "__init__" = some (some (.ref f))
  fn : PySem.W.isFn K (.ref f) = true
  kp : PySem.W.keepIn K (.ref C) = true

theorem run_make {pins : List (Addr × Obj)} {σ : St} {H : Hp} {s : Shared} {Q : VK} {us : List Value} {vs : List V} (M : Mk X.K C f) (F : FnOk X.prog X.w X.K X.mg X.base CX k f fd ps sp) (hr : Room (k + 1) X.A) (hb : Binds X.K fd ps ds) (hd : Vals dvs ds)
    (hx : Passes CX X E) (I : Inv X pins σ H s) (r : Vals vs us)
    (h : ∀ x dx, H x = none → H dx = none → dx ≠ x → sp (.ref x :: (vs ++ dvs)) (upd (upd H dx (.own x)) x (.ins C dx [])) (fun v H2 => v = .non ∧ Q (.ref x) H2) E) :
    wpAny (model X.prog X.w) X.A (call (.ref C) us) (EP X pins σ Q) X.xe s := by
  have hq := h (s.heap.objs.size + 1) s.heap.objs.size (I.hok.fresh (Nat.le_succ _)) (I.hok.fresh (Nat.le_refl _)) (Nat.ne_of_lt (Nat.lt_succ_self _))
  have I2 := Inv.made (C := C) I
  have r2 : Vals (V.ref (s.heap.objs.size + 1) :: (vs ++ dvs)) (Value.ref (s.heap.objs.size + 1) :: (us ++ ds)) := .cons rfl (r.append hd)
  have hl : (Value.ref (s.heap.objs.size + 1) :: us ++ ds).length = ps.length := by
    have e := r2.length
    rw [F.len _ _ _ _ hq] at e
    exact e.symm
  refine wpAny_call (make_map (f := f) I.kIn M.makes M.init (beq_iff_eq.mp M.fn) (codeAny_mono (F.run _ X.stack _ _ ⟨Value.ref (s.heap.objs.size + 1) :: us, []⟩ (Value.ref (s.heap.objs.size + 1) :: (us ++ ds)) _ _ E (hr.make C us [])
    (I2.env0.make C us []) (hb _ (Value.ref (s.heap.objs.size + 1) :: us) I2.kIn hl) r2 hq) fun r s' hq' => ?_))
  cases r with
  | error e => exact hx pins σ _ _ e s' I2 hq'
  | ok fl =>
    cases fl with
    | ret u =>
      obtain ⟨v, H', I3, rv, ev, q3⟩ := I2.after hq'
      subst ev
      exact ⟨rv, ⟨V.ref (s.heap.objs.size + 1), H', I3, rfl, q3⟩⟩
    | next => exact False.elim hq'
    | brk => exact False.elim hq'
    | cont => exact False.elim hq'
theorem pe_make (M : Mk X.K C f) (F : FnOk X.prog X.w X.K X.mg X.base CX k f fd ps sp) (hr : Room (k + 1) X.A) (hg : Gl X x) (hm : X.mg x = some (.ref C)) (hb : Binds X.K fd ps ds) (hd : Vals dvs ds) (hx : Passes CX X E)
    (ha : PA X (e :: es) t) (hdb : (x == ("__debug__" : Str)) = false := by decide) (he : starEach (e :: es) X.env = (false, eval e X.env) :: starEach es X.env := by rfl) (hpl : (backTo pos (starEach es X.env)).any (·.1) = false := by rfl) :
    PE X (.Call (.Name x p) (e :: es) [] pos) (tMake C sp dvs E t) := by
  intro pins s σ H Q I h
  refine wpAny_Call_Name_kw (ld_glob I hg hm ?_ hdb)
  refine PySem.W.callWith_K (h₀ := X.base) I.ok.mod.kin M.kp (thn (ha pos pins s σ H _ I h) fun us s1 ⟨vs, H1, I1, r, q⟩ => ⟨I1.kIn, ?_⟩) he hpl
  exact run_make M F hr hb hd hx I1 r q
theorem pe_make0 (M : Mk X.K C f) (F : FnOk X.prog X.w X.K X.mg X.base CX k f fd ps sp) (hr : Room (k + 1) X.A) (hg : Gl X x) (hm : X.mg x = some (.ref C)) (hb : Binds X.K fd ps ds) (hd : Vals dvs ds) (hx : Passes CX X E)
    (hdb : (x == ("__debug__" : Str)) = false := by decide) : PE X (.Call (.Name x p) [] [] pos) (tMake C sp dvs E tNil) := by
  intro pins s σ H Q I h
  refine wpAny_Call_Name_kw (ld_glob I hg hm ?_ hdb)
  exact PySem.W.callWith_K0 I.kIn M.kp (run_make (us := []) M F hr hb hd hx I .nil h)
end

/-! ### keywords -/
/-- the values of the keywords, from the left -/
def PK (X : Cx) (kws : List Keyword) (t : TA) : Prop :=
  ∀ (pos : Pos) (pins : List (Addr × Obj)) (s : Shared) (σ : St) (H : Hp) (Q : List V → Hp → Prop), Inv X pins σ H s → t σ H Q → wpAny (model X.prog X.w) X.A (evalAll ((backToKw pos (keywordEach kws X.env)).map (·.2))) (AP X pins σ Q) X.xe s
section
variable {X : Cx} {CX : CXT} {k : Nat} {f C : Addr} {fd : FuncData} {ps ks : List Str} {sp : Sp} {E : XK} {x m : Str} {p pos apos kpos : Pos} {e o : Expr} {es : List Expr} {kws : List Keyword} {te ta : TE} {t tk : TA} {nm : Option Str}
theorem pk_nil : PK X [] tNil := fun _ _ _ _ H Q I h => wpAny_evalAll_nil ⟨[], H, I, .nil, h⟩
theorem pk_cons (ha : PE X e te) (hr : PK X kws t) : PK X (⟨nm, e, kpos⟩ :: kws) (tCons te t) := by
  intro pos pins s σ H Q I h
  show wpAny _ _ (evalAll ((do let v ← eval e X.env; standAt pos; pure v) :: (backToKw pos (keywordEach kws X.env)).map (·.2))) _ _ s
  refine wpAny_evalAll_cons (wpAny_bind (thn (ha pins s σ H _ I h) fun u s1 ⟨x, H1, I1, r1, q1⟩ => wpAny_bind (wpAny_standAt (wpAny_pure ?_))))
  exact thn (hr pos pins s1 σ H1 _ I1 q1) fun us s2 ⟨xs, H2, I2, r2, q2⟩ => ⟨x :: xs, H2, I2, .cons r1 r2, q2⟩

/-- how a call with keywords binds: g puts the positional values us and the keywords' values ws (names ks) in the parameters' order, defaults among them -/
structure KBinds (K : PySem.W.Frag) (fd : FuncData) (ps ks : List Str) (g : List Value → List Value → List Value) (gV : List V → List V → List V) : Prop where
  to : ∀ (s : Shared) (us ws : List Value), K.In s.heap → (g us ws).length = ps.length → BindsTo s fd ⟨us, ks.zip ws⟩ (ps.zip (g us ws))
  rel : ∀ {vs : List V} {us : List Value} {zs : List V} {ws : List Value}, Vals vs us → Vals zs ws → Vals (gV vs zs) (g us ws)
def tCallK (sp : Sp) (gV : List V → List V → List V) (E : XK) (t tk : TA) : TE := fun σ H Q => t σ H fun vs H1 => tk σ H1 fun zs H2 => sp (gV vs zs) H2 Q E
variable {g : List Value → List Value → List Value} {gV : List V → List V → List V}
theorem run_fnk {pins : List (Addr × Obj)} {σ : St} {H : Hp} {s : Shared} {Q : VK} {us ws : List Value} {vs zs : List V} (F : FnOk X.prog X.w X.K X.mg X.base CX k f fd ps sp) (hr : Room k X.A) (hb : KBinds X.K fd ps ks g gV) (hx : Passes CX X E)
    (I : Inv X pins σ H s) (r : Vals vs us) (rz : Vals zs ws) (h : sp (gV vs zs) H Q E) : wpAny (model X.prog X.w) X.A (call (.ref f) us (ks.zip ws)) (EP X pins σ Q) X.xe s := by
  have r2 := hb.rel r rz
  have hl : (g us ws).length = ps.length := by rw [← r2.length]; exact F.len _ _ _ _ h
  refine wpAny_call (codeAny_mono (F.run X.A X.stack s H ⟨us, ks.zip ws⟩ (g us ws) (gV vs zs) Q E hr I.env0 (hb.to s us ws I.kIn hl) r2 h) fun r s' hq => ?_)
  cases r with
  | error e => exact hx pins σ H s e s' I hq
  | ok fl =>
    cases fl with
    | ret u => exact I.after hq
    | next => exact False.elim hq
    | brk => exact False.elim hq
    | cont => exact False.elim hq
/-- f(e, .., k = v, ..) -/
theorem pe_callK (F : FnOk X.prog X.w X.K X.mg X.base CX k f fd ps sp) (hr : Room k X.A) (hg : Gl X x) (hm : X.mg x = some (.ref f)) (hk : PySem.W.keepIn X.K (.ref f) = true) (hb : KBinds X.K fd ps ks g gV) (hx : Passes CX X E)
    (ha : PA X (e :: es) t) (hkw : PK X kws tk) (hall : (backToKw pos (keywordEach kws X.env)).all (·.1.isSome) = true := by rfl) (hks : (backToKw pos (keywordEach kws X.env)).filterMap (·.1) = ks := by rfl)
    (hdb : (x == ("__debug__" : Str)) = false := by decide) (he : starEach (e :: es) X.env = (false, eval e X.env) :: starEach es X.env := by rfl)
    (hpl : ((backTo pos (starEach (e :: es) X.env)).any (·.1) || (backToKw pos (keywordEach kws X.env)).any (·.1.isNone)) = false := by rfl) :
    PE X (.Call (.Name x p) (e :: es) kws pos) (tCallK sp gV E t tk) := by
  intro pins s σ H Q I h
  refine wpAny_Call_Name_kw (ld_glob I hg hm ?_ hdb)
  refine PySem.W.callWith_KW (h₀ := X.base) I.ok.mod.kin hk hall (thn (ha pos pins s σ H _ I h) fun us s1 ⟨vs, H1, I1, r, q⟩ => ?_) hpl he
  refine thn (hkw pos pins s1 σ H1 _ I1 q) fun ws s2 ⟨zs, H2, I2, rz, q2⟩ => ⟨I2.kIn, ?_⟩
  rw [hks]
  exact run_fnk F hr hb hx I2 r rz q2
end

/-! ### a def's body keeps its promise -/
/-- names: the parameters first -/
structure FnScope (N P : List Str) (sc : Scope) : Prop where
  kind : sc.kind = .function
  co : sc.isCoroutine = false
  gen : sc.isGenerator = false
  nd : N.Nodup
  pre : N.take P.length = P
  par : ∀ x ∈ P, sc.names.lookup x = some .local ∨ sc.names.lookup x = some .cell
  nofree : ∀ y ∈ sc.names, y.2 ≠ .free

theorem bindL_out {kindOf : Str → Option NameKind} {x : Str} : ∀ {binds : List (Str × Value)} {m : Str → Option Value}, (∀ v, (x, v) ∉ binds) → bindL kindOf binds m x = m x
  | [], _, _ => rfl
  | (n, v) :: r, m, h => by
    unfold bindL
    rw [bindL_out fun w hw => h w (List.mem_cons_of_mem _ hw)]
    split
    · have : x ≠ n := by rintro rfl; exact h v List.mem_cons_self
      simp [this]
    · rfl
theorem bindC_out {kindOf : Str → Option NameKind} {x : Str} : ∀ {binds : List (Str × Value)} {m : Str → Option Value}, (∀ v, (x, v) ∉ binds) → bindC kindOf binds m x = m x
  | [], _, _ => rfl
  | (n, v) :: r, m, h => by
    unfold bindC
    rw [bindC_out fun w hw => h w (List.mem_cons_of_mem _ hw)]
    split
    · rfl
    · have : x ≠ n := by rintro rfl; exact h v List.mem_cons_self
      simp [this]
theorem bindL_get {kindOf : Str → Option NameKind} {x : Str} {v : Value} : ∀ {P : List Str} {vs : List Value} {i : Nat} {m : Str → Option Value}, P.Nodup → P[i]? = some x → vs[i]? = some v → kindOf x = some .local →
    bindL kindOf (P.zip vs) m x = some v
  | [], _, _, _, _, h, _, _ => by simp at h
  | _ :: _, [], _, _, _, _, h, _ => by simp at h
  | p :: P, w :: vs, 0, m, nd, h1, h2, hk => by
    simp at h1 h2; subst h1; subst h2
    show bindL kindOf ((p, w) :: P.zip vs) m p = _
    unfold bindL
    rw [bindL_out fun v hv => (List.nodup_cons.mp nd).1 (List.of_mem_zip hv).1, if_pos hk]
    simp
  | p :: P, w :: vs, i + 1, m, nd, h1, h2, hk => by
    show bindL kindOf ((p, w) :: P.zip vs) m x = _
    unfold bindL
    exact bindL_get (i := i) (List.nodup_cons.mp nd).2 (by simpa using h1) (by simpa using h2) hk
theorem bindC_get {kindOf : Str → Option NameKind} {x : Str} {v : Value} : ∀ {P : List Str} {vs : List Value} {i : Nat} {m : Str → Option Value}, P.Nodup → P[i]? = some x → vs[i]? = some v → kindOf x ≠ some .local →
    bindC kindOf (P.zip vs) m x = some v
  | [], _, _, _, _, h, _, _ => by simp at h
  | _ :: _, [], _, _, _, _, h, _ => by simp at h
  | p :: P, w :: vs, 0, m, nd, h1, h2, hk => by
    simp at h1 h2; subst h1; subst h2
    show bindC kindOf ((p, w) :: P.zip vs) m p = _
    unfold bindC
    rw [bindC_out fun v hv => (List.nodup_cons.mp nd).1 (List.of_mem_zip hv).1, if_neg hk]
    simp
  | p :: P, w :: vs, i + 1, m, nd, h1, h2, hk => by
    show bindC kindOf ((p, w) :: P.zip vs) m x = _
    unfold bindC
    exact bindC_get (i := i) (List.nodup_cons.mp nd).2 (by simpa using h1) (by simpa using h2) hk

/-- the names' values at the entry -/
def start (N : List Str) (vs : List V) : St := vs.map some ++ List.replicate (N.length - vs.length) none

/-- the context of a def's body, at its entry; an exception leaves the frame, then lies as CX says -/
def cxOf (CX : CXT) (P : Program) (w : World) (K : PySem.W.Frag) (mg : Str → Option Value) (base : Heap) (N : List Str) (qual : Str) (scope : Scope) (f : Addr) (cd : Value) (A : Around) (outer : List Env) (s : Shared) (H : Hp) (E : XK) : Cx where
  prog := P
  w := w
  K := K
  mg := mg
  base := base
  A := A.deeper (envOfC qual scope s.heap.objs.size f cd)
  N := N
  s₀ := s
  H₀ := H
  env := envOfC qual scope s.heap.objs.size f cd
  outer := outer
  stack := envOfC qual scope s.heap.objs.size f cd :: outer
  ex := []
  calm := true
  fn := fun _ => true
  pn := []
  xe := fun e s' => wpAny (model P w) (A.deeper (envOfC qual scope s.heap.objs.size f cd)) (leaving (envOfC qual scope s.heap.objs.size f cd) e) (fun _ s'' => CX outer H s E e s'') (fun e' s'' => CX outer H s E e' s'') s'

theorem cell_has {sc : Scope} {n : Nat} {x : Str} (h : sc.names.lookup x = some .cell) : ∃ c, (cellsFrom n sc.names []).lookup x = some c := by
  have q := PySem.W.cellsFrom_some sc.names n [] (.inl h)
  exact Option.isSome_iff_exists.mp q

theorem inv_start {CX : CXT} {P : Program} {w : World} {K : PySem.W.Frag} {mg : Str → Option Value} {base : Heap} {N ps : List Str} {qual : Str} {scope : Scope} {f : Addr} {cd : Value} {A : Around} {outer : List Env} {s s1 : Shared} {H : Hp} {E : XK} {us : List Value} {vs : List V}
    (S : FnScope N ps scope) (hd : A.handled = none) (e0 : Env0 P w K mg base A outer s H) (hl : vs.length = ps.length) (r : Vals vs us)
    (x : InCallC s s.heap.objs.size (bindL (envOfC qual scope s.heap.objs.size f cd).kindOf (ps.zip us) fun _ => none) (cellsFrom (s.heap.objs.size + 1) scope.names []) (bindC (envOfC qual scope s.heap.objs.size f cd).kindOf (ps.zip us) fun _ => none) s1) :
    Inv (cxOf CX P w K mg base N qual scope f cd A outer s H E) [] (start N vs) H s1 := by
  have hpl : ps.length ≤ N.length := by have := congrArg List.length S.pre; rw [List.length_take] at this; omega
  obtain ⟨h1, tk, rfl, hk⟩ := x.done
  have noA : ∀ b : Addr, b ∉ (cxOf CX P w K mg base N qual scope f cd A outer s H E).ex := fun b z => absurd (show b ∈ ([] : List Addr) from z) (by simp)
  refine ⟨⟨e0.mod, S.kind, rfl, rfl, Nat.le_refl _, fun y z c h1 h2 => ?_, fun y hy => ?_, fun y c _ h => ?_, fun _ => hd, Around.frames_deeper e0.frames, .inr ⟨rfl, rfl⟩, fun b z => absurd z (noA b), e0.bs, e0.bsz, fun b _ _ => noA b, fun b z => absurd z (noA b), e0.funs, e0.frf⟩,
    rfl, e0.bare, Un.kept hk, ⟨_, x.toInCall.ns, fun i y v h1 h2 h3 => ?_⟩, fun y c h => ⟨_, x.cell y c h⟩, e0.hok.fresh (Nat.le_refl _), fun y c h => ?_, fun p hp => absurd (show p ∈ ([] : List (Addr × Obj)) from hp) (by simp), e0.hok.kept hk, ?_⟩
  · exact name_of_addr x.apart (PySem.mem_of_lookup h1) (PySem.mem_of_lookup h2)
  · have hy : scope.names.lookup y = some .cell ∨ scope.names.lookup y = some .free := hy
    rcases hy with hy | hy
    · exact cell_has hy
    · exact absurd rfl (S.nofree _ (PySem.mem_of_lookup hy))
  · exact Nat.le_of_lt (x.above y c (PySem.mem_of_lookup h))
  · have hi : i < vs.length := by
      unfold start at h2
      by_cases hi : i < vs.length
      · exact hi
      · rw [List.getElem?_append_right (by simpa using hi)] at h2
        rw [List.getElem?_replicate] at h2
        split at h2 <;> cases h2
    have ha : vs[i]? = some v := by
      unfold start at h2
      rw [List.getElem?_append_left (by simpa using hi), List.getElem?_map] at h2
      cases e : vs[i]? with
      | none => rw [e] at h2; cases h2
      | some a => rw [e] at h2; cases h2; rfl
    obtain ⟨u, hu, rv⟩ := r.get ha
    have hp : ps[i]? = some y := by
      rw [← S.pre, List.getElem?_take_of_lt (by omega)]; exact h1
    have ndP : ps.Nodup := by rw [← S.pre]; exact S.nd.sublist (List.take_sublist _ _)
    refine ⟨u, rv, ?_⟩
    rcases S.par y (List.mem_of_getElem? hp) with k | k
    · exact .inl ⟨k, bindL_get ndP hp hu k⟩
    · obtain ⟨c, e⟩ := cell_has (n := s.heap.objs.size + 1) k
      refine .inr ⟨.inl k, c, e, ?_⟩
      have q := x.cell y c e
      rw [bindC_get ndP hp hu (by show scope.names.lookup y ≠ _; rw [k]; decide)] at q
      exact q
  · exact e0.hok.fresh (Nat.le_of_lt (x.above y c (PySem.mem_of_lookup h)))
  · unfold start
    show _ = N.length
    rw [List.length_append, List.length_map, List.length_replicate]
    omega

/-- THE RULE: a def (or a method) of the text, by its body. The body's reading t is chosen for each entry; it is run at the parameters' values -/
theorem fn_of {CX : CXT} {P : Program} {w : World} {K : PySem.W.Frag} {mg : Str → Option Value} {base : Heap} {k : Nat} {f : Addr} {name qual : Str} {params : Arguments} {body : List Stmt} {scope : Scope} {dV kV doc pm cdv ct oc : Value} {an od : Option Addr}
    {osl : Array (Option Value)} {N ps : List Str} {sp : Sp} (lk : K.lookup f = some ⟨oc, od, .func (PySem.W.fnOf name qual params body scope dV kV doc pm an cdv ct), osl⟩) (hcd : PySem.W.codeIn K cdv qual = true) (S : FnScope N ps scope)
    (len : ∀ vs H Q E, sp vs H Q E → vs.length = ps.length)
    (hbody : ∀ (A : Around) (outer : List Env) (s : Shared) (H : Hp) (vs : List V) (Q : VK) (E : XK), Room k (A.deeper (envOfC qual scope s.heap.objs.size f cdv)) → sp vs H Q E →
      ∃ t, PSs (cxOf CX P w K mg base N qual scope f cdv A outer s H E) body t ∧ t { nx := fun _ H' => Q .non H', rt := Q } (start N vs) H) :
    FnOk P w K mg base CX (k + 1) f (PySem.W.fnOf name qual params body scope dV kV doc pm an cdv ct) ps sp := by
  refine ⟨len, fun A outer s H args us vs Q E hr e0 hb r hsp => ?_⟩
  have hl := len _ _ _ _ hsp
  have KX : K.In s.heap := e0.mod.kin.keeps fun b o e => (e0.bs b o e).1
  have lim : s.heap.NoLimit := e0.mod.nolimit.keeps fun b o e => (e0.bs b o e).1
  have hkind : ∀ y ∈ ps.zip us, scope.names.lookup y.1 = some .local ∨ (scope.names.lookup y.1 = some .cell ∧ ((cellsFrom (s.heap.objs.size + 1) scope.names []).lookup y.1).isSome = true) := fun ⟨n, v⟩ hy => by
    rcases S.par n (List.of_mem_zip hy).1 with q | q
    · exact .inl q
    · exact .inr ⟨q, PySem.W.cellsFrom_some _ _ _ (.inl q)⟩
  refine codeAny_call_function hr.depth (KX _ _ lk) rfl S.co S.gen rfl (PySem.W.codeRec_of KX hcd) (hb _ _ _ _ ?_)
  refine wpAny_newFunctionEnv_cells S.kind hkind fun env he s1 x => ?_
  subst he
  refine ⟨lim.keeps x.toInCall.keep, codeAny_func ?_⟩
  obtain ⟨t, ht, hq⟩ := hbody A outer s H vs Q E (hr.deeper _) hsp
  have I : Inv (cxOf CX P w K mg base N qual scope f cdv A outer s H E) [] (start N vs) H s1 := inv_start S hr.hd e0 hl r x
  refine wpAny_mono (ht [] s1 (start N vs) H _ I hq) (fun fl s' hs => ?_) fun e s' hs => hs
  have fin : ∀ {σ' : St} {H' : Hp} {v : V} {u : Value}, Inv (cxOf CX P w K mg base N qual scope f cdv A outer s H E) [] σ' H' s' → RelV v u → Q v H' → CE outer P w H s Q u s' :=
    fun {σ' H' v u} J rv q => ⟨v, H', J.os, J.bare, J.base, J.hok, rv, q⟩
  cases fl with
  | ret u =>
    obtain ⟨v, σ', H', J, rv, q⟩ := hs
    exact fin J rv q
  | next =>
    obtain ⟨σ', H', J, q⟩ := hs
    exact fin (v := V.non) (u := Value.none) J rfl q
  | brk =>
    obtain ⟨_, _, _, q⟩ := hs
    exact False.elim q
  | cont =>
    obtain ⟨_, _, _, q⟩ := hs
    exact False.elim q
end L2

namespace L2
open PySem PySem.Spec PyProof.Rows
section
variable {X : Cx} {x : Str} {p pos : Pos} {e : Expr} {es : List Expr} {t : TA} {id T : String} {r : List V → Hp → VK → Prop}

def tCB (r : List V → Hp → VK → Prop) (t : TA) : TE := fun σ H Q => t σ H fun vs H1 => r vs H1 Q
/-- f(e, ..), f a built-in function -/
theorem pe_callB (hc : CallR X (.builtin id) r) (hg : Gl X x) (hm : X.mg x = none) (hv : bootBuiltins x = some (.builtin id)) (ha : PA X (e :: es) t) (hn : x ≠ "__name__" := by decide) (hdb : (x == ("__debug__" : Str)) = false := by decide)
    (he : starEach (e :: es) X.env = (false, eval e X.env) :: starEach es X.env := by rfl) (hpl : (backTo pos (starEach es X.env)).any (·.1) = false := by rfl) : PE X (.Call (.Name x p) (e :: es) [] pos) (tCB r t) := by
  intro pins s σ H Q I h
  refine wpAny_Call_Name_kw (ld_blt I hg hm hv ?_ hn hdb)
  exact PyProof.Rows.callWith_builtin1 (thn (ha pos pins s σ H _ I h) fun us s1 ⟨vs, H1, I1, r1, q1⟩ => hc pins s1 σ H1 vs us Q I1 r1 q1) he hpl
/-- T(e, ..), T a built-in type -/
theorem pe_callTy (hc : CallR X (.type T) r) (hg : Gl X x) (hm : X.mg x = none) (hv : bootBuiltins x = some (.type T)) (ha : PA X (e :: es) t) (hn : x ≠ "__name__" := by decide) (hdb : (x == ("__debug__" : Str)) = false := by decide)
    (he : starEach (e :: es) X.env = (false, eval e X.env) :: starEach es X.env := by rfl) (hpl : (backTo pos (starEach es X.env)).any (·.1) = false := by rfl) : PE X (.Call (.Name x p) (e :: es) [] pos) (tCB r t) := by
  intro pins s σ H Q I h
  refine wpAny_Call_Name_kw (ld_blt I hg hm hv ?_ hn hdb)
  exact PyProof.Rows.callWith_type1 (thn (ha pos pins s σ H _ I h) fun us s1 ⟨vs, H1, I1, r1, q1⟩ => hc pins s1 σ H1 vs us Q I1 r1 q1) he hpl
/-- T() -/
theorem pe_callTy0 (hc : CallR X (.type T) r) (hg : Gl X x) (hm : X.mg x = none) (hv : bootBuiltins x = some (.type T)) (hn : x ≠ "__name__" := by decide) (hdb : (x == ("__debug__" : Str)) = false := by decide) :
    PE X (.Call (.Name x p) [] [] pos) (tCB r tNil) := by
  intro pins s σ H Q I h
  refine wpAny_Call_Name_kw (ld_blt I hg hm hv ?_ hn hdb)
  exact PyProof.Rows.callWith_type0 (hc pins s σ H [] [] Q I .nil h)
end
end L2

namespace HT
open PySem PyProof.Rows

/-- t < u of tuples of ints -/
def lexLt : List Int → List Int → Bool
  | [], [] => false
  | [], _ :: _ => true
  | _ :: _, [] => false
  | x :: xs, y :: ys => if x = y then lexLt xs ys else decide (x < y)
theorem lexLt_cons (x y : Int) (xs ys : List Int) : lexLt (x :: xs) (y :: ys) = if x = y then lexLt xs ys else decide (x < y) := rfl
theorem lexLt_nil_nil : lexLt [] [] = false := rfl
theorem lexLt_nil_cons (y : Int) (ys : List Int) : lexLt [] (y :: ys) = true := rfl
theorem lexLt_cons_nil (x : Int) (xs : List Int) : lexLt (x :: xs) [] = false := rfl

theorem eqAt_int (A : Around) (s : Shared) (a : Int) (t : Tok) (c : Int) (u : Tok) : ∃ e, SeqAt.EqAt A s (.int a t) (.int c u) e ∧ (e = true ↔ a = c) :=
  ⟨(a == c), SeqAt.EqAt.int_int a t c u, by simp⟩
theorem rcLt_int (A : Around) (s : Shared) (a : Int) (t : Tok) (c : Int) (u : Tok) (prog : Program) (w : World) (E : Value → Shared → Prop) (Q : Value → Shared → Prop) (h : Q (.bool (decide (a < c))) s) :
    wpAny (model prog w) A (richCompare .Lt (.int a t) (.int c u)) Q E s :=
  (PyProof.Rows.lt_int h : wpAny (model prog w) A (compareOp .Lt (.int a t) (.int c u)) Q E s)

section
open PySem.SeqAt
open PySem.AutoSeq1 (wpAny_loadPart')
open PySem.MeetsSeq PySem.MeetsSeq2 PySem.MeetsSeq3

theorem tuple_lt_ints (l b : Addr) (items items2 : Array Value) (n n2 : Nat) (dd dd2 : Option Addr) (sl sl2 : Array (Option Value)) (ns ms : List Int) (hi : IntsAre items.toList ns) (hj : IntsAre items2.toList ms) :
    Meets (Builtin.«tuple.__lt__» ⟨[.ref l, .ref b], []⟩)
      (fun _ R s => s.heap.get? l = some { cls := .type "tuple", dict := dd, data := .seq items n, slots := sl } ∧ s.heap.get? b = some { cls := .type "tuple", dict := dd2, data := .seq items2 n2, slots := sl2 } ∧
        R (.ok (.ret (.bool (lexLt ns ms)))) s) :=
  .of_wp fun prog w A R s h => by
    obtain ⟨hp, g, d, tk, os⟩ := s; obtain ⟨hl, hb, h⟩ := h
    have f2 := AutoSeq1.sub_tuple_tuple
    have z1 : items.size = ns.length := by rw [← hi.length]; simp
    have z2 : items2.size = ms.length := by rw [← hj.length]; simp
    wp_walk using wpAny_loadPart' hl, wpAny_loadPart' hb, wpAny_forIn_list _ (fun rest b s' => b.1 = none ∧ s' = ⟨hp, g, d, tk, os⟩ ∧ ∃ (vs ws : List Value) (ns' ms' : List Int), rest = vs.zip ws ∧
      IntsAre vs ns' ∧ IntsAre ws ms' ∧ ns'.length + items2.size = ms'.length + items.size ∧ R (.ok (.ret (.bool (lexLt ns' ms')))) ⟨hp, g, d, tk, os⟩) _
    case turn =>
      rintro ⟨y, x⟩ rest b s' ⟨hb', rfl, vs, ws, ns', ms', hz, hvi, hwi, hlen, hR⟩
      cases hvi with
      | nil => rw [List.zip_nil_left] at hz; cases hz
      | cons a t hvi' =>
        cases hwi with
        | nil => rw [List.zip_nil_right] at hz; cases hz
        | cons c u hwi' =>
          rw [List.zip_cons_cons] at hz
          injection hz with hyx hrest
          injection hyx with hy hx
          subst hy hx
          rw [lexLt_cons] at hR
          simp only [List.length_cons] at hlen
          obtain ⟨e, he, hiff⟩ := eqAt_int A.in1 ⟨hp, g, d, tk, os⟩ a t c u
          refine wpAny_bind (he prog w _ _ ?_)
          cases e with
          | true =>
            rw [if_pos (hiff.mp rfl)] at hR
            wp_walk
            exact ⟨rfl, rfl, _, _, _, _, hrest, hvi', hwi', by omega, hR⟩
          | false =>
            rw [if_neg (fun q => absurd (hiff.mpr q) Bool.false_ne_true)] at hR
            have hri := rcLt_int A.in1 ⟨hp, g, d, tk, os⟩ a t c u prog w
            wp_walk using hri
            exact ⟨_, rfl, by simpa using hR⟩
    case fin =>
      rintro ⟨b1, b2⟩ s' ⟨hb', rfl, vs, ws, ns', ms', hz, hvi, hwi, hlen, hR⟩
      simp only at hb'
      subst hb'
      have hv : lexLt ns' ms' = decide (items.size < items2.size) := by
        cases hvi with
        | nil =>
          cases hwi with
          | nil =>
            simp only [List.length_nil] at hlen
            rw [lexLt_nil_nil]
            exact (decide_eq_false (by omega)).symm
          | cons c u hw =>
            simp only [List.length_nil, List.length_cons] at hlen
            rw [lexLt_nil_cons]
            exact (decide_eq_true (by omega)).symm
        | cons a t hv =>
          cases hwi with
          | nil =>
            simp only [List.length_nil, List.length_cons] at hlen
            rw [lexLt_cons_nil]
            exact (decide_eq_false (by omega)).symm
          | cons c u hw =>
            rw [List.zip_cons_cons] at hz
            cases hz
      rw [hv] at hR
      wp_walk
      exact ⟨_, rfl, by simpa [Builtin.Tuple.tupleCompareSizes] using hR⟩
    case h =>
      exact ⟨rfl, rfl, items.toList, items2.toList, ns, ms, rfl, hi, hj, by omega, h⟩
end

section
variable {prog : Program} {w : World} {A : Around} {E : Value → Shared → Prop} {s : Shared}

theorem lt_tupInts {l b : Addr} {items items2 : Array Value} {ns ms : List Int} {Q : Value → Shared → Prop} (hl : IsTup s.heap l items) (hb : IsTup s.heap b items2) (hi : IntsAre items.toList ns) (hj : IntsAre items2.toList ms)
    (hu : A.units < cLine) (h : Q (.bool (lexLt ns ms)) s) : wpAny (model prog w) A (compareOp .Lt (.ref l) (.ref b)) Q E s := by
  obtain ⟨⟨cls, dd, data, sl⟩, ho, hc, n, hd⟩ := id hl
  obtain ⟨⟨cls2, dd2, data2, sl2⟩, ho2, hc2, n2, hd2⟩ := id hb
  simp only at hc hd hc2 hd2
  subst hc hd hc2 hd2
  exact richCompare_meets_room (op := .Lt) ⟨_, ho, rfl⟩ ⟨_, ho2, rfl⟩ PySem.F.slot_tuple_lt PySem.F.entry_tuple_lt (PySem.F.args_tuple_lt_2 _ _) (tuple_lt_ints l b items items2 n n2 dd dd2 sl sl2 ns ms hi hj)
    ⟨ho, ho2, show Value.bool (lexLt ns ms) ≠ Value.notImplemented ∧ Q (.bool (lexLt ns ms)) s from ⟨(fun x => nomatch x), h⟩⟩ hu

/-- t + u, t not empty -/
theorem cat_tup {t b : Addr} {vs ws : List Value} {Q : Value → Shared → Prop} (ht : IsTup s.heap t vs.toArray) (hb : IsTup s.heap b ws.toArray) (hv : vs ≠ [])
    (h1 : ws = [] → Q (.ref t) s) (h2 : ws ≠ [] → Q (.ref s.heap.objs.size) { s with heap := s.heap.push { cls := .type "tuple", data := .seq (vs ++ ws).toArray } })
    (hsz : vs.length + ws.length ≤ sizeLine) : wpAny (model prog w) A (binaryOp .Add (.ref t) (.ref b)) Q E s := by
  obtain ⟨⟨cls, dd, data, sl⟩, ho, hc, n, hd⟩ := id ht
  obtain ⟨⟨cls2, dd2, data2, sl2⟩, ho2, hc2, n2, hd2⟩ := id hb
  simp only at hc hd hc2 hd2
  subst hc hd hc2 hd2
  have e : vs.toArray ++ ws.toArray = (vs ++ ws).toArray := by simp
  by_cases hw : ws = []
  · exact concat_meets ⟨_, ho, rfl⟩ ⟨_, ho2, rfl⟩ noFill_tuple_add seq_tuple_add PySem.F.slot_tuple_add PySem.F.entry_tuple_add (PySem.F.args_tuple_add_2 _ _)
      (tuple_addW1 t b vs.toArray ws.toArray n n2 dd dd2 sl sl2 (by simpa using hv) (by simp [hw])) ⟨ho, ho2, h1 hw⟩
  · refine concat_meets ⟨_, ho, rfl⟩ ⟨_, ho2, rfl⟩ noFill_tuple_add seq_tuple_add PySem.F.slot_tuple_add PySem.F.entry_tuple_add (PySem.F.args_tuple_add_2 _ _)
      (tuple_addW2 t b vs.toArray ws.toArray n n2 dd dd2 sl sl2 (by simpa using hv) (by simpa using hw) (by rw [List.size_toArray, List.size_toArray]; exact hsz)) ⟨ho, ho2, ?_⟩
    rw [e]
    exact h2 hw

/-! ### t[a:b], not the whole -/
/-- a slice's bound as a place among n (d where it is left out) -/
def sIx (n d : Nat) : Option Int → Nat
  | none => d
  | some v => if v < 0 then (v + (n : Int)).toNat else min v.toNat n
theorem sIx_none (n d : Nat) : sIx n d none = d := rfl
theorem sIx_nat (n d k : Nat) : sIx n d (some (k : Int)) = min k n := by
  show (if (k : Int) < 0 then ((k : Int) + (n : Int)).toNat else min (k : Int).toNat n) = min k n
  rw [if_neg (by omega), Int.toNat_natCast]
theorem sIx_le (n d : Nat) (hd : d ≤ n) (o : Option Int) : sIx n d o ≤ n := by
  cases o with
  | none => exact hd
  | some v =>
    show (if v < 0 then (v + (n : Int)).toNat else min v.toNat n) ≤ n
    by_cases hv : v < 0
    · rw [if_pos hv]; omega
    · rw [if_neg hv]; exact Nat.min_le_right _ _
theorem clip_eq (v : Int) (n d : Nat) : (if v < 0 then max (v + (n : Int)) 0 else min v (n : Int)) = ((sIx n d (some v) : Nat) : Int) := by
  show (if v < 0 then max (v + (n : Int)) 0 else min v (n : Int)) = (((if v < 0 then (v + (n : Int)).toNat else min v.toNat n) : Nat) : Int)
  by_cases hv : v < 0
  · simp only [if_pos hv]; omega
  · simp only [if_neg hv]; omega
theorem adjust_gen (lo hi : Option Int) (n : Nat) : Builtin.Slice.sliceAdjust lo hi 1 (n : Int) = (((sIx n 0 lo : Nat) : Int), ((sIx n n hi : Nat) : Int)) := by
  have h1 : ¬ ((1 : Int) < 0) := by omega
  unfold Builtin.Slice.sliceAdjust
  simp only [h1, if_false]
  refine Prod.ext ?_ ?_
  · cases lo with
    | none => rfl
    | some v => exact clip_eq v n 0
  · cases hi with
    | none => rfl
    | some v => exact clip_eq v n n
theorem places_gen (i j : Nat) : Builtin.Slice.slicePlaces (i : Int) (j : Int) 1 = j - i := by
  unfold Builtin.Slice.slicePlaces
  have h1 : (1 : Int) > 0 := by omega
  simp only [h1, if_true, Int.ediv_one]
  split <;> omega
theorem slicePart_ {v : Value} {o : Option Int} {Q : Option Int → Shared → Prop} (p : IsPart v o) (h : Q o s) : wpAny (model prog w) A (Builtin.Slice.slicePartIndex v) Q E s := by
  cases p with
  | none => exact slicePart_none h
  | int i t => exact slicePart_int h
theorem sliceApplied_gen {sl : Addr} {vl vu : Value} {lo hi : Option Int} {n : Nat} {Q : Int × Int × Nat → Shared → Prop} (hs : s.heap.IsSliceOf sl vl vu .none) (pl : IsPart vl lo) (pu : IsPart vu hi)
    (h : Q (((sIx n 0 lo : Nat) : Int), 1, sIx n n hi - sIx n 0 lo) s) : wpAny (model prog w) A (Builtin.Slice.sliceApplied (.ref sl) (pure (n : Int))) Q E s := by
  obtain ⟨os, hos, hcs, hds⟩ := id hs
  unfold Builtin.Slice.sliceApplied Builtin.Slice.sliceFields
  refine wpAny_bind (wpAny_bind (wpAny_field hos hds (x := vl) rfl (wpAny_bind (wpAny_field hos hds (x := vu) rfl (wpAny_bind (wpAny_field hos hds (x := .none) rfl (wpAny_pure ?_)))))))
  refine wpAny_bind (slicePart_none ?_)
  show wpAny _ _ (if ((1 : Int) == 0) = true then _ else _) _ _ s
  rw [if_neg (by decide)]
  refine wpAny_bind (slicePart_ pl (wpAny_bind (slicePart_ pu (wpAny_bind (wpAny_pure ?_)))))
  show wpAny _ _ (match Builtin.Slice.sliceAdjust lo hi 1 (n : Int) with | (lo, hi) => pure (lo, (1 : Int), Builtin.Slice.slicePlaces lo hi 1)) _ _ s
  rw [adjust_gen lo hi n]
  show wpAny _ _ (pure (((sIx n 0 lo : Nat) : Int), (1 : Int), Builtin.Slice.slicePlaces ((sIx n 0 lo : Nat) : Int) ((sIx n n hi : Nat) : Int) 1)) _ _ s
  rw [places_gen]
  exact wpAny_pure h
theorem pick_gen (xs : Array Value) (i k : Nat) : ((List.range k).filterMap fun (m : Nat) => xs[((i : Int) + (m : Int) * 1).toNat]?).toArray = ((xs.toList.drop i).take k).toArray := by
  have e : (fun (m : Nat) => xs[((i : Int) + (m : Int) * 1).toNat]?) = fun m => xs[i + m]? := by
    funext m
    have : ((i : Int) + (m : Int) * 1).toNat = i + m := by omega
    rw [this]
  rw [e]
  have := pick_run xs i k
  rw [List.filterMap_map] at this
  have e2 : ((fun x => xs[x]?) ∘ fun x => i + x) = fun m => xs[i + m]? := rfl
  rw [e2] at this
  rw [this]

theorem getItem_tuple_cut {t sl : Addr} {items : Array Value} {vl vu : Value} {lo hi : Option Int} {Q : Value → Shared → Prop} (ht : IsTup s.heap t items) (hs : s.heap.IsSliceOf sl vl vu .none) (pl : IsPart vl lo) (pu : IsPart vu hi)
    (hw : ¬ (sIx items.size 0 lo = 0 ∧ sIx items.size items.size hi = items.size))
    (h : Q (.ref s.heap.objs.size) { s with heap := s.heap.push { cls := .type "tuple", data := .seq ((items.toList.drop (sIx items.size 0 lo)).take (sIx items.size items.size hi - sIx items.size 0 lo)).toArray } })
    (hsz : items.size ≤ sizeLine) : wpAny (model prog w) A (getItem (.ref t) (.ref sl)) Q E s := by
  have htake : sizeOk (.seq ((items.toList.drop (sIx items.size 0 lo)).take (sIx items.size items.size hi - sIx items.size 0 lo)).toArray) := by
    show ((items.toList.drop (sIx items.size 0 lo)).take (sIx items.size items.size hi - sIx items.size 0 lo)).toArray.size ≤ sizeLine
    rw [List.size_toArray, List.length_take, List.length_drop, Array.length_toList]
    omega
  have hj : sIx items.size items.size hi ≤ items.size := sIx_le _ _ (Nat.le_refl _) hi
  obtain ⟨os, hos, hcs, hds⟩ := id hs
  have hTs : s.TypeIs (.ref sl) "slice" := ⟨os, hos, hcs⟩
  unfold getItem
  try with_reducible refine wpAny_holding ?_
  first | refine wpAny_bind (wpAny_pure ?_) | skip
  refine wpAny_bind (wpAny_sequenceKey ht.typeIs (by decide) ?_)
  refine wpAny_bind (wpAny_callSpecial?_slot (name := Str.ofString "__getitem__") ht.typeIs PyProof.Rows.slot_tuple_getitem
    (wpAny_call_entry PyProof.Rows.slot_tuple_getitem ht.typeIs entry_tuple_getitem ?_ (args_tuple_getitem _ _)))
  show wpAny _ _ (Builtin.Tuple.tupleItemsOf (.ref t) >>= _) _ _ s
  refine wpAny_bind (tupleItemsOf_ ht ?_)
  refine wpAny_bind (wpAny_typeOf hTs ?_)
  rw [if_pos (by decide)]
  refine wpAny_bind (sliceApplied_gen hs pl pu ?_)
  have hno : ¬ ((((sIx items.size 0 lo : Nat) : Int) == 0 && (1 : Int) == 1 && (sIx items.size items.size hi - sIx items.size 0 lo) == items.size) = true) := by
    intro q
    rw [Bool.and_eq_true, Bool.and_eq_true] at q
    have q1 : ((sIx items.size 0 lo : Nat) : Int) = 0 := eq_of_beq q.1.1
    have q2 : sIx items.size items.size hi - sIx items.size 0 lo = items.size := eq_of_beq q.2
    exact hw ⟨by omega, by omega⟩
  show wpAny _ _ (if (((sIx items.size 0 lo : Nat) : Int) == 0 && (1 : Int) == 1 && (sIx items.size items.size hi - sIx items.size 0 lo) == items.size) = true then _ else _) _ _ s
  rw [if_neg hno, pick_gen]
  first
    | exact wpAny_bind (m := Builtin.Tuple.tupleExact _) (wpAny_newObj_type (wpAny_pure ⟨_, rfl, wpAny_pure h⟩) htake)
    | exact wpAny_bind (m := Builtin.Tuple.tupleExact _) (wpAny_newObj_type (wpAny_bind (wpAny_pure (wpAny_pure ⟨_, rfl, wpAny_pure h⟩))) htake)
    | exact wpAny_bind (wpAny_bind (m := Builtin.Tuple.tupleExact _) (wpAny_newObj_type (wpAny_pure (wpAny_pure ⟨_, rfl, wpAny_pure h⟩)) htake))
    | exact wpAny_bind (wpAny_bind (m := Builtin.Tuple.tupleExact _) (wpAny_newObj_type (wpAny_pure ⟨_, rfl, wpAny_pure h⟩) htake))
end
end HT

namespace L2
open PySem PySem.Spec PyProof.Rows

/-! ### the parts of a slice -/
abbrev TO := St → Hp → (Option Int → Hp → Prop) → Prop
/-- a slice's part (left out, or an int) -/
def PO (X : Cx) (e : Option Expr) (t : TO) : Prop :=
  ∀ (pins : List (Addr × Obj)) (s : Shared) (σ : St) (H : Hp) (Q : Option Int → Hp → Prop), Inv X pins σ H s → t σ H Q →
    wpAny (model X.prog X.w) X.A (evalPart e X.env) (fun u s' => ∃ o H', Inv X pins σ H' s' ∧ IsPart u o ∧ Q o H') X.xe s
def tNoPart : TO := fun _ H Q => Q none H
def tPart (t : TE) : TO := fun σ H Q => t σ H fun x H1 => ∃ i, x = .int i ∧ Q (some i) H1

theorem intsAre_of {ns : List Int} : ∀ {us : List Value}, Vals (ns.map V.int) us → IntsAre us ns := by
  induction ns with
  | nil => intro us r; rw [List.map_nil] at r; cases r; exact .nil
  | cons n ns ih =>
    intro us r
    rw [List.map_cons] at r
    cases r with
    | cons r1 r2 =>
      obtain ⟨t, e⟩ := r1
      subst e
      exact .cons n t (ih r2)

section
variable {X : Cx} {e : Expr} {te : TE} {lo hi : Option Expr} {tl th : TO} {pos p2 : Pos}

theorem po_none : PO X none tNoPart := by
  intro pins s σ H Q I h
  rw [evalPart_none]
  exact wpAny_pure ⟨none, H, I, .none, h⟩
theorem po_some (h : PE X e te) : PO X (some e) (tPart te) := by
  intro pins s σ H Q I hw
  rw [evalPart_some]
  refine thn (h pins s σ H _ I hw) fun u s1 ⟨x, H1, I1, r1, q1⟩ => ?_
  obtain ⟨i, rfl, q⟩ := q1
  obtain ⟨t, rfl⟩ := r1
  exact ⟨some i, H1, I1, .int i t, q⟩

/-- what a slice of a value is, by values: the slice object stands at sl -/
def SlR (X : Cx) (r : V → Option Int → Option Int → Hp → VK → Prop) : Prop :=
  ∀ (pins : List (Addr × Obj)) (s : Shared) (σ : St) (H : Hp) (x : V) (v vl vu : Value) (lo hi : Option Int) (sl : Addr) (Q : VK), Inv X pins σ H s → RelV x v → s.heap.IsSliceOf sl vl vu .none → IsPart vl lo → IsPart vu hi → r x lo hi H Q →
    ∃ T id, typeLookup (.type T) "__getitem__" = pure (some (.builtin id)) ∧ s.TypeIs v T ∧ wpAny (model X.prog X.w) X.A (getItem v (.ref sl)) (EP X pins σ Q) X.xe s
theorem SlR.or {r r' : V → Option Int → Option Int → Hp → VK → Prop} (h : SlR X r) (h' : SlR X r') : SlR X (fun x lo hi H Q => r x lo hi H Q ∨ r' x lo hi H Q) := by
  intro pins s σ H x v vl vu lo hi sl Q I rx hs pl pu q
  rcases q with q | q
  · exact h pins s σ H x v vl vu lo hi sl Q I rx hs pl pu q
  · exact h' pins s σ H x v vl vu lo hi sl Q I rx hs pl pu q
def tSl (r : V → Option Int → Option Int → Hp → VK → Prop) (te : TE) (tl th : TO) : TE := fun σ H Q => te σ H fun x H1 => tl σ H1 fun l H2 => th σ H2 fun u H3 => r x l u H3 Q
/-- a[lo:hi], any a -/
theorem pe_slice {r : V → Option Int → Option Int → Hp → VK → Prop} (hr : SlR X r) (he : PE X e te) (hl : PO X lo tl) (hu : PO X hi th) : PE X (.Subscript e (.Slice lo hi none p2) pos) (tSl r te tl th) := by
  intro pins s σ H Q I h
  refine Subscript_ (thn (he pins s σ H _ I h) fun v s1 ⟨x, H1, I1, r1, q1⟩ => ?_)
  refine wpAny_Slice (thn (hl pins s1 σ H1 _ I1 q1) fun vl s2 ⟨l, H2, I2, pl, q2⟩ => thn (hu pins s2 σ H2 _ I2 q2) fun vu s3 ⟨u, H3, I3, pu, q3⟩ => ?_)
  rw [evalPart_none]
  refine wpAny_pure ?_
  have I4 : Inv X pins σ H3 { s3 with heap := s3.heap.push { cls := .type "slice", data := .fields #[vl, vu, .none] } } := I3.kept (t' := s3.toks) fun b ob q => Heap.get?_push_of_some _ q
  obtain ⟨T, id, hT, ht, hg⟩ := hr pins { s3 with heap := s3.heap.push { cls := .type "slice", data := .fields #[vl, vu, .none] } } σ H3 x v vl vu l u s3.heap.objs.size Q I4 r1 (Heap.IsSliceOf.new ..) pl pu q3
  show wpAny (model X.prog X.w) X.A (subscriptTail e (.Slice lo hi none p2) v (.ref s3.heap.objs.size)) (EP X pins σ Q) X.xe { s3 with heap := s3.heap.push { cls := .type "slice", data := .fields #[vl, vu, .none] } }
  exact tail_any (ops := [.ref s3.heap.objs.size, v]) ht hT hg (by with_unfolding_all rfl)

/-- the items of xs[lo:hi] -/
def cutV (xs : List V) (lo hi : Option Int) : List V := (xs.drop (HT.sIx xs.length 0 lo)).take (HT.sIx xs.length xs.length hi - HT.sIx xs.length 0 lo)
theorem cutV_length (xs : List V) (lo hi : Option Int) : (cutV xs lo hi).length ≤ xs.length := by
  unfold cutV
  rw [List.length_take, List.length_drop]
  omega
/-- t[lo:hi], not the whole of it (the whole would be t itself) -/
def rSlT (K : PySem.W.Frag) : V → Option Int → Option Int → Hp → VK → Prop := fun x lo hi H Q => ∃ a xs, x = .ref a ∧ SqT K H a xs ∧
  ¬ (HT.sIx xs.length 0 lo = 0 ∧ HT.sIx xs.length xs.length hi = xs.length) ∧ ∀ p, H p = none → Q (.ref p) (upd H p (.tup (cutV xs lo hi)))
theorem sl_tup : SlR X (rSlT X.K) := by
  intro pins s σ H x v vl vu lo hi sl Q I rx hs pl pu h
  obtain ⟨a, xs, rfl, hx, hw, q⟩ := h
  cases rx
  obtain ⟨its, r, ht, hz⟩ := I.tuple hx
  have hlen : its.toArray.size = xs.length := by rw [List.size_toArray]; exact r.length.symm
  refine ⟨"tuple", _, PyProof.Rows.slot_tuple_getitem.lookup, ht.typeIs, ?_⟩
  refine HT.getItem_tuple_cut ht hs pl pu (by rw [hlen]; exact hw) ?_ (by rw [hlen]; exact hz)
  rw [hlen]
  refine ⟨.ref s.heap.objs.size, _, I.laid (t' := s.toks) (o := .tup (cutV xs lo hi)) (fun b ob q => Heap.get?_push_of_some _ q) (Nat.le_refl _) ?_, rfl, q _ (I.hok.fresh (Nat.le_refl _))⟩
  exact ⟨Nat.le_trans (cutV_length xs lo hi) hz, _, (r.drop (HT.sIx xs.length 0 lo)).take (HT.sIx xs.length xs.length hi - HT.sIx xs.length 0 lo), IsTup.new _ _⟩

/-! ### t < u, t + u -/
def rLtT (K : PySem.W.Frag) : R2 := fun x y H Q => ∃ a b ns ms, x = .ref a ∧ y = .ref b ∧ SqT K H a (ns.map V.int) ∧ SqT K H b (ms.map V.int) ∧ Q (.bl (HT.lexLt ns ms)) H
theorem op_ltT (hu : X.A.units < cLine) : OpR X (compareOp .Lt) (rLtT X.K) := by
  intro pins s σ H x y v u Q I rx ry h
  obtain ⟨a, b, ns, ms, rfl, rfl, ha, hb, q⟩ := h
  cases rx
  cases ry
  obtain ⟨its, r1, p1, _⟩ := I.tuple ha
  obtain ⟨its2, r2, p2, _⟩ := I.tuple hb
  have i1 : IntsAre its.toArray.toList ns := intsAre_of r1
  have i2 : IntsAre its2.toArray.toList ms := intsAre_of r2
  exact HT.lt_tupInts p1 p2 i1 i2 hu ⟨.bl (HT.lexLt ns ms), H, I, rfl, q⟩
/-- t + u, t not empty: u empty gives t itself -/
def rCatT (K : PySem.W.Frag) : R2 := fun x y H Q => ∃ a b xs ys, x = .ref a ∧ y = .ref b ∧ SqT K H a xs ∧ SqT K H b ys ∧ xs ≠ [] ∧ xs.length + ys.length ≤ sizeLine ∧
  (ys = [] → Q (.ref a) H) ∧ (ys ≠ [] → ∀ p, H p = none → Q (.ref p) (upd H p (.tup (xs ++ ys))))
theorem Vals.nil_iff {xs : List V} {us : List Value} (r : Vals xs us) : us = [] ↔ xs = [] := by
  cases r with
  | nil => simp
  | cons _ _ => simp
theorem op_catT : OpR X (binaryOp .Add) (rCatT X.K) := by
  intro pins s σ H x y v u Q I rx ry h
  obtain ⟨a, b, xs, ys, rfl, rfl, ha, hb, hx, hz, q1, q2⟩ := h
  cases rx
  cases ry
  obtain ⟨its, r1, p1, _⟩ := I.tuple ha
  obtain ⟨its2, r2, p2, _⟩ := I.tuple hb
  refine HT.cat_tup p1 p2 (fun z => hx (r1.nil_iff.mp z)) (fun z => ⟨.ref a, H, I, rfl, q1 (r2.nil_iff.mp z)⟩) (fun z => ?_) (by rw [← r1.length, ← r2.length]; exact hz)
  refine ⟨.ref s.heap.objs.size, _, I.laid (t' := s.toks) (o := .tup (xs ++ ys)) (fun b ob q => Heap.get?_push_of_some _ q) (Nat.le_refl _) ?_, rfl, q2 (fun w => z (r2.nil_iff.mpr w)) _ (I.hok.fresh (Nat.le_refl _))⟩
  exact ⟨by rw [List.length_append]; exact hz, _, r1.append r2, IsTup.new _ _⟩
/-- tuple(t) -/
theorem call_tupleT : CallR X (.type "tuple") (fun xs H Q => ∃ a ys, xs = [.ref a] ∧ SqT X.K H a ys ∧ Q (.ref a) H) := by
  intro pins s σ H xs us Q I r h
  obtain ⟨a, ys, rfl, ha, q⟩ := h
  obtain ⟨u, rfl, ru⟩ := vals1 r
  cases ru
  obtain ⟨its, _, p1, _⟩ := I.tuple ha
  exact call_tuple_same (items := its.toArray) p1 ⟨.ref a, H, I, rfl, q⟩
end
end L2

namespace L2
open PySem PySem.Spec PyProof.Rows

/-! ### places -/
/-- the place that an index of any sign means -/
def ixN (n : Nat) (i : Int) : Option Nat := if 0 ≤ i then (if i < n then some i.toNat else none) else if -(n : Int) ≤ i then some (i + n).toNat else none
def atI {α : Type} (xs : List α) (i : Int) : Option α := (ixN xs.length i).bind fun j => xs[j]?
theorem ixN_seq {n : Nat} {i : Int} {j : Nat} (h : ixN n i = some j) : seqIndex? i n = some j ∧ j < n ∧ -(n : Int) ≤ i ∧ i < n := by
  unfold ixN at h
  by_cases h0 : 0 ≤ i
  · rw [if_pos h0] at h
    by_cases h1 : i < n
    · rw [if_pos h1] at h
      have e : i.toNat = j := Option.some.inj h
      exact ⟨by rw [seqIndex_of h0 h1, e], by omega, by omega, h1⟩
    · rw [if_neg h1] at h; cases h
  · rw [if_neg h0] at h
    by_cases h1 : -(n : Int) ≤ i
    · rw [if_pos h1] at h
      have e : (i + n).toNat = j := Option.some.inj h
      exact ⟨by rw [seqIndex_neg (by omega) h1, e], by omega, h1, by omega⟩
    · rw [if_neg h1] at h; cases h
theorem atI_get {α : Type} {xs : List α} {i : Int} {v : α} (h : atI xs i = some v) : ∃ j, seqIndex? i xs.length = some j ∧ xs[j]? = some v ∧ j < xs.length ∧ -(xs.length : Int) ≤ i ∧ i < xs.length := by
  unfold atI at h
  cases e : ixN xs.length i with
  | none => rw [e] at h; cases h
  | some j =>
    rw [e] at h
    obtain ⟨h1, h2, h3, h4⟩ := ixN_seq e
    exact ⟨j, h1, h, h2, h3, h4⟩
theorem atI_nat {α : Type} {xs : List α} {j : Nat} {v : α} (h : xs[j]? = some v) : atI xs (j : Int) = some v := by
  have hj : j < xs.length := (List.getElem?_eq_some_iff.mp h).1
  have e : ixN xs.length (j : Int) = some j := by
    unfold ixN
    rw [if_pos (by omega), if_pos (by omega)]; simp
  unfold atI; rw [e]; exact h
theorem atI_last {α : Type} (xs : List α) (v : α) : atI (xs ++ [v]) (-1) = some v := by
  have hl : (xs ++ [v]).length = xs.length + 1 := by simp
  have e : ixN (xs ++ [v]).length (-1) = some xs.length := by
    unfold ixN
    rw [hl, if_neg (by decide), if_pos (by omega)]
    congr 1
    omega
  unfold atI
  rw [e]
  show (xs ++ [v])[xs.length]? = some v
  simp

/-! ### what may be subscripted -/
/-- what stands as an index of a plain subscript -/
def PlainIx (b : Expr) : Prop := ∀ o i, subscripted b false o i = operate [o, i] (getItem o i)
/-- a subscript by values -/
def IxR (X : Cx) (r : R2) : Prop :=
  ∀ (value slice : Expr) (pins : List (Addr × Obj)) (s : Shared) (σ : St) (H : Hp) (x y : V) (v u : Value) (Q : VK), Inv X pins σ H s → RelV x v → RelV y u → r x y H Q →
    subscripted slice false v u = operate [v, u] (getItem v u) → wpAny (model X.prog X.w) X.A (subscriptTail value slice v u) (EP X pins σ Q) X.xe s
/-- a call of a builtin's method by values: the receiver, the arguments -/
def MtR (X : Cx) (id : String) (r : V → List V → Hp → VK → Prop) : Prop :=
  ∀ (pins : List (Addr × Obj)) (s : Shared) (σ : St) (H : Hp) (x : V) (xs : List V) (v : Value) (us : List Value) (Q : VK), Inv X pins σ H s → RelV x v → Vals xs us → r x xs H Q →
    wpAny (model X.prog X.w) X.A (call (.builtin id) (v :: us)) (EP X pins σ Q) X.xe s
section
variable {X : Cx} {a b : Expr} {ta tb : TE} {pos : Pos}
theorem IxR.or {r r' : R2} (h : IxR X r) (h' : IxR X r') : IxR X (fun x y H Q => r x y H Q ∨ r' x y H Q) := by
  intro value slice pins s σ H x y v u Q I rx ry q hs
  rcases q with q | q
  · exact h value slice pins s σ H x y v u Q I rx ry q hs
  · exact h' value slice pins s σ H x y v u Q I rx ry q hs
theorem MtR.or {id : String} {r r' : V → List V → Hp → VK → Prop} (h : MtR X id r) (h' : MtR X id r') : MtR X id (fun x xs H Q => r x xs H Q ∨ r' x xs H Q) := by
  intro pins s σ H x xs v us Q I rx rs q
  rcases q with q | q
  · exact h pins s σ H x xs v us Q I rx rs q
  · exact h' pins s σ H x xs v us Q I rx rs q
/-- a[b] -/
theorem pe_ix {r : R2} (hr : IxR X r) (ha : PE X a ta) (hb : PE X b tb) (hs : PlainIx b) : PE X (.Subscript a b pos) (tOp r ta tb) := by
  intro pins s σ H Q I h
  exact Subscript_ (binT ha hb I h fun v u s2 x y H2 I2 rx ry q => hr a b pins s2 σ H2 x y v u Q I2 rx ry q (hs _ _))

def rIxL (K : PySem.W.Frag) : R2 := fun x y H Q => ∃ p xs i v, x = .ref p ∧ y = .int i ∧ SqL K H p xs ∧ atI xs i = some v ∧ Q v H
def rIxT (K : PySem.W.Frag) : R2 := fun x y H Q => ∃ p xs i v, x = .ref p ∧ y = .int i ∧ SqT K H p xs ∧ atI xs i = some v ∧ Q v H
def rIxS : R2 := fun x y H Q => ∃ z i c, x = .str z ∧ y = .int i ∧ z.length ≤ sizeLine ∧ atI z.cps.toList i = some c ∧ Q (.str ⟨#[c]⟩) H
theorem ix_list : IxR X (rIxL X.K) := by
  intro value slice pins s σ H x y v u Q I rx ry h hs
  obtain ⟨p, xs, i, z, rfl, rfl, hq, he, q⟩ := h
  cases rx
  obtain ⟨t, rfl⟩ := ry
  obtain ⟨its, r, pl, hz⟩ := I.list hq
  obtain ⟨j, h1, h2, h3, h4, h5⟩ := atI_get he
  obtain ⟨w, ew, rw'⟩ := r.get h2
  have hl := r.length
  have hn := line63
  have fin : EP X pins σ Q w s := ⟨z, H, I, rw', q⟩
  by_cases h0 : 0 ≤ i
  · have hj : i.toNat = j := by
      rw [seqIndex_of h0 h5] at h1
      exact Option.some.inj h1
    exact item_listR pl.isList h0 (by omega) (by rw [hj]; simpa using ew) fin hs
  · have hj : (i + (its.toArray.size : Int)).toNat = j := by
      rw [seqIndex_neg (by omega) h4] at h1
      rw [List.size_toArray, ← hl]
      exact Option.some.inj h1
    exact subscriptTail_builtinR (x := w) pl.isList.typeIs slot_list_getitem.lookup
      (wpAny_getItem_list_neg (Q := fun r s' => r = w ∧ EP X pins σ Q r s') pl.isList (by omega) (by rw [List.size_toArray] <;> omega) (by omega) (by rw [hj]; simpa using ew) ⟨rfl, fin⟩) hs
theorem ix_tup : IxR X (rIxT X.K) := by
  intro value slice pins s σ H x y v u Q I rx ry h hs
  obtain ⟨p, xs, i, z, rfl, rfl, hq, he, q⟩ := h
  cases rx
  obtain ⟨t, rfl⟩ := ry
  obtain ⟨its, r, pl, hz⟩ := I.tuple hq
  obtain ⟨j, h1, h2, h3, h4, h5⟩ := atI_get he
  obtain ⟨w, ew, rw'⟩ := r.get h2
  have hl := r.length
  have hn := line63
  have fin : EP X pins σ Q w s := ⟨z, H, I, rw', q⟩
  exact subscriptTail_builtinR (x := w) pl.typeIs slot_tuple_getitem.lookup
    (getItem_tuple (j := j) (Q := fun r s' => r = w ∧ EP X pins σ Q r s') pl (by omega) (by omega) (by rw [List.size_toArray, ← hl]; exact h1) (by simpa using ew) ⟨rfl, fin⟩) hs
theorem ix_str : IxR X rIxS := by
  intro value slice pins s σ H x y v u Q I rx ry h hs
  obtain ⟨z, i, c, rfl, rfl, hz, he, q⟩ := h
  obtain ⟨t, rfl⟩ := rx
  obtain ⟨t', rfl⟩ := ry
  obtain ⟨j, h1, h2, h3, h4, h5⟩ := atI_get he
  have hl : z.cps.toList.length = z.length := by simp [Str.length]
  rw [hl] at h1 h4 h5
  have hn := line63
  exact tail_any (typeIs_str s z t) slot_str_getitem.lookup (getItem_str (c := c) (by
    have e1 : decide (i < -(2 ^ 63 : Int)) = false := decide_eq_false (by omega)
    have e2 : decide (i ≥ 2 ^ 63) = false := decide_eq_false (by omega)
    rw [e1, e2, Bool.or_false]) (by rw [h1]; simpa using h2) ⟨.str ⟨#[c]⟩, H, I.tok _, ⟨_, rfl⟩, q⟩) hs
/-- list, tuple or str -/
def rIx (K : PySem.W.Frag) : R2 := fun x y H Q => rIxL K x y H Q ∨ rIxT K x y H Q ∨ rIxS x y H Q
theorem ix_seq : IxR X (rIx X.K) := ix_list.or (ix_tup.or ix_str)

/-! ### xs[i] = v, any sign -/
/-- the list's object behind a store -/
theorem mapSeq_set (its : List Value) (n j : Nat) (u : Value) : Obj.mapSeq (·.setIfInBounds j u) { cls := .type "list", data := .seq its.toArray n } = { cls := .type "list", data := .seq (its.set j u).toArray n } := by
  simp [Obj.mapSeq]
theorem Inv.lst {pins : List (Addr × Obj)} {σ : St} {H : Hp} {s : Shared} {p : Addr} {xs : List V} (I : Inv X pins σ H s) (h : H p = some (.lst xs)) :
    ∃ (its : List Value) (n : Nat), Vals xs its ∧ s.heap.get? p = some { cls := .type "list", data := .seq its.toArray n } ∧ xs.length ≤ sizeLine := by
  obtain ⟨z, its, n, r, e⟩ := I.hok p _ h
  exact ⟨its, n, r, e, z⟩
/-- the list at p is written by an update of its object -/
theorem Inv.lstUpd {pins : List (Addr × Obj)} {σ : St} {H : Hp} {s : Shared} {p : Addr} {xs ys : List V} {its its' : List Value} {n n' : Nat} {f : Obj → Obj} (I : Inv X pins σ H s) (h : H p = some (.lst xs))
    (ho : s.heap.get? p = some { cls := .type "list", data := .seq its.toArray n }) (hf : f { cls := .type "list", data := .seq its.toArray n } = { cls := .type "list", data := .seq its'.toArray n' }) (r : Vals ys its') (hz : ys.length ≤ sizeLine) (t : Nat) :
    Inv X pins σ (upd H p (.lst ys)) { s with heap := s.heap.update p f, toks := t } := by
  have e : (s.heap.update p f).get? p = some { cls := .type "list", data := .seq its'.toArray n' } := by
    rw [Heap.get?_update_self f ho (by rw [hf] <;> rfl), hf]
  refine I.write (x := p) (e := p) (by rw [h]; trivial) (.inl rfl) (fun b u hb q => (Heap.get?_update_other _ _ (Ne.symm hb)).trans q) ⟨_, e⟩ ?_
  exact ⟨hz, its', n', r, e⟩
def rSetL : V → V → V → Hp → (Hp → Prop) → Prop := fun o i v H Q => ∃ p xs k j, o = .ref p ∧ i = .int k ∧ H p = some (.lst xs) ∧ ixN xs.length k = some j ∧ Q (upd H p (.lst (xs.set j v)))
theorem set_list : PSet X rSetL := by
  intro pins s σ H o i v ov iv u Q I ro ri rv h
  obtain ⟨p, xs, k, j, rfl, rfl, hp, hj, q⟩ := h
  cases ro
  obtain ⟨t, rfl⟩ := ri
  obtain ⟨its, n, r, ho, hz⟩ := I.lst hp
  obtain ⟨h1, h2, h3, h4⟩ := ixN_seq hj
  have hl := r.length
  have hn := line63
  have I' : Inv X pins σ (upd H p (.lst (xs.set j v))) { s with heap := s.heap.update p (Obj.mapSeq (·.setIfInBounds j u)) } :=
    I.lstUpd hp ho (mapSeq_set its n j u) (r.set rv j) (by rw [List.length_set]; exact hz) s.toks
  by_cases h0 : 0 ≤ k
  · have hk : k.toNat = j := by
      rw [seqIndex_of h0 h4] at h1
      exact Option.some.inj h1
    exact PySem.W.ki_setAt ho h0 (by omega) (by rw [List.size_toArray, ← hl]; exact h4) (by rw [hk]; exact ⟨_, I', q⟩)
  · have hk : (k + (its.toArray.size : Int)).toNat = j := by
      rw [seqIndex_neg (by omega) h3] at h1
      rw [List.size_toArray, ← hl]
      exact Option.some.inj h1
    exact PySem.W.ki_setBack ho (by omega) (by rw [List.size_toArray, ← hl]; exact h3) (by omega) (by rw [hk]; exact ⟨_, I', q⟩)

/-! ### slices -/
theorem slice_bounds (lo hi : Option Int) (n : Nat) : (sliceBounds lo hi none n).1 = ((HT.sIx n 0 lo : Nat) : Int) ∧ (sliceBounds lo hi none n).2.1 = ((HT.sIx n n hi : Nat) : Int) ∧ (sliceBounds lo hi none n).2.2 = 1 := by
  refine ⟨?_, ?_, rfl⟩
  · cases lo with
    | none => simp [sliceBounds, HT.sIx]
    | some i =>
      simp only [sliceBounds, HT.sIx, Option.getD_none, show (1 : Int) > 0 by decide, if_true]
      by_cases h : i < 0
      · simp only [h, if_true] <;> omega
      · simp only [h, if_false] <;> omega
  · cases hi with
    | none => simp [sliceBounds, HT.sIx]
    | some i =>
      simp only [sliceBounds, HT.sIx, Option.getD_none, show (1 : Int) > 0 by decide, if_true]
      by_cases h : i < 0
      · simp only [h, if_true] <;> omega
      · simp only [h, if_false] <;> omega
theorem slicePick_cut (its : List Value) (lo hi : Option Int) : slicePick its.toArray lo hi none = ((its.drop (HT.sIx its.length 0 lo)).take (HT.sIx its.length its.length hi - HT.sIx its.length 0 lo)).toArray := by
  obtain ⟨h1, h2, h3⟩ := slice_bounds lo hi its.toArray.size
  unfold slicePick
  rw [h1, h2, h3]
  simp only [sliceRange_one, pick_run, List.size_toArray] <;> rfl
/-- xs[lo:hi] of a list: a new list -/
def rSlL (K : PySem.W.Frag) : V → Option Int → Option Int → Hp → VK → Prop := fun x lo hi H Q => ∃ a xs, x = .ref a ∧ SqL K H a xs ∧ ∀ p, H p = none → Q (.ref p) (upd H p (.lst (cutV xs lo hi)))
theorem sl_list : SlR X (rSlL X.K) := by
  intro pins s σ H x v vl vu lo hi sl Q I rx hs pl pu h
  obtain ⟨a, xs, rfl, hx, q⟩ := h
  cases rx
  obtain ⟨its, r, ht, hz⟩ := I.list hx
  have hlen := r.length
  refine ⟨"list", _, slot_list_getitem.lookup, ht.isList.typeIs, ?_⟩
  refine wpAny_getItem_list_slice ht.isList hs pl pu .none (by simp) ?_ (by rw [List.size_toArray] <;> omega)
  rw [slicePick_cut, ← hlen]
  refine ⟨.ref s.heap.objs.size, _, I.laid (t' := s.toks) (o := .lst (cutV xs lo hi)) (fun b ob q => Heap.get?_push_of_some _ q) (Nat.le_refl _) ?_, rfl, q _ (I.hok.fresh (Nat.le_refl _))⟩
  exact ⟨Nat.le_trans (cutV_length xs lo hi) hz, _, 0, (r.drop (HT.sIx xs.length 0 lo)).take (HT.sIx xs.length xs.length hi - HT.sIx xs.length 0 lo), Heap.get?_push_size _ rfl⟩

/-! ### in, not in: flat items -/
def flatV : V → Bool
  | .non => true
  | .bl _ => true
  | .int _ => true
  | .str _ => true
  | _ => false
/-- == of flat values -/
def eqV : V → V → Bool
  | .non, .non => true
  | .bl a, .bl b => a == b
  | .bl a, .int b => (if a then 1 else 0) == b
  | .int a, .bl b => a == (if b then 1 else 0)
  | .int a, .int b => a == b
  | .str a, .str b => a == b
  | _, _ => false
theorem eqAt_V {A : Around} {s : Shared} {y x : V} {u v : Value} (ry : RelV y u) (rx : RelV x v) (fy : flatV y = true) (fx : flatV x = true) : SeqAt.EqAt A s u v (eqV y x) := by
  cases y with
  | non =>
    cases ry
    cases x with
    | non => cases rx; exact SeqAt.EqAt.same _
    | bl b => cases rx; exact SeqAt.EqAt.none_bool b
    | int b => obtain ⟨t, rfl⟩ := rx; exact SeqAt.EqAt.none_int b t
    | str b => obtain ⟨t, rfl⟩ := rx; exact SeqAt.EqAt.none_str b t
    | _ => exact absurd (show false = true from fx) Bool.false_ne_true
  | bl a =>
    cases ry
    cases x with
    | non => cases rx; exact SeqAt.EqAt.bool_none a
    | bl b => cases rx; exact SeqAt.EqAt.bool_bool a b
    | int b => obtain ⟨t, rfl⟩ := rx; exact SeqAt.EqAt.bool_int a b t
    | str b => obtain ⟨t, rfl⟩ := rx; exact SeqAt.EqAt.bool_str a b t
    | _ => exact absurd (show false = true from fx) Bool.false_ne_true
  | int a =>
    obtain ⟨t', rfl⟩ := ry
    cases x with
    | non => cases rx; exact SeqAt.EqAt.int_none a t'
    | bl b => cases rx; exact SeqAt.EqAt.int_bool a t' b
    | int b => obtain ⟨t, rfl⟩ := rx; exact SeqAt.EqAt.int_int a t' b t
    | str b => obtain ⟨t, rfl⟩ := rx; exact SeqAt.EqAt.int_str a t' b t
    | _ => exact absurd (show false = true from fx) Bool.false_ne_true
  | str a =>
    obtain ⟨t', rfl⟩ := ry
    cases x with
    | non => cases rx; exact SeqAt.EqAt.str_none a t'
    | bl b => cases rx; exact SeqAt.EqAt.str_bool a t' b
    | int b => obtain ⟨t, rfl⟩ := rx; exact SeqAt.EqAt.str_int a t' b t
    | str b => obtain ⟨t, rfl⟩ := rx; exact SeqAt.EqAt.str_str a t' b t
    | _ => exact absurd (show false = true from fx) Bool.false_ne_true
  | _ => exact absurd (show false = true from fy) Bool.false_ne_true
/-- the items' answers, read off the values (a value's own answer does not lean on its token) -/
def eqU (x : V) (u : Value) : Bool := match u with
  | .none => eqV .non x
  | .bool b => eqV (.bl b) x
  | .int i _ => eqV (.int i) x
  | .str z _ => eqV (.str z) x
  | _ => false
theorem eqU_of {x y : V} {u : Value} (r : RelV y u) (f : flatV y = true) : eqU x u = eqV y x := by
  cases y with
  | non => cases r; rfl
  | bl b => cases r; rfl
  | int i => obtain ⟨t, rfl⟩ := r; rfl
  | str z => obtain ⟨t, rfl⟩ := r; rfl
  | _ => exact absurd (show false = true from f) Bool.false_ne_true
theorem any_eqU {x : V} : ∀ {xs : List V} {us : List Value}, Vals xs us → xs.all flatV = true → us.any (eqU x) = xs.any fun y => eqV y x
  | _, _, .nil, _ => rfl
  | y :: xs, u :: us, .cons r t, f => by
    rw [List.all_cons, Bool.and_eq_true] at f
    rw [List.any_cons, List.any_cons, eqU_of r f.1, any_eqU t f.2]
theorem mem_eqAt {A : Around} {s : Shared} {x : V} {v : Value} (rx : RelV x v) (fx : flatV x = true) : ∀ {xs : List V} {us : List Value}, Vals xs us → xs.all flatV = true → ∀ u ∈ us, SeqAt.EqAt A s u v (eqU x u)
  | _, _, .nil, _ => fun u hu => by cases hu
  | y :: xs, u :: us, .cons r t, f => fun u' hu => by
    rw [List.all_cons, Bool.and_eq_true] at f
    rcases List.mem_cons.mp hu with rfl | hu
    · rw [eqU_of r f.1]; exact eqAt_V r rx f.1 fx
    · exact mem_eqAt rx fx t f.2 u' hu
def inV (x : V) (xs : List V) : Bool := xs.any fun y => eqV y x
/-- x in a list or tuple of flat items -/
def rIn (K : PySem.W.Frag) (neg : Bool) : R2 := fun x y H Q => ∃ p xs, y = .ref p ∧ (SqL K H p xs ∨ SqT K H p xs) ∧ flatV x = true ∧ xs.all flatV = true ∧ Q (.bl (if neg then !inV x xs else inV x xs)) H
theorem op_in_seq : OpR X (compareOp .In) (rIn X.K false) := by
  intro pins s σ H x y v u Q I rx ry h
  obtain ⟨p, xs, rfl, hq, fx, fs, q⟩ := h
  cases ry
  rcases hq with hq | hq
  · obtain ⟨its, r, pl, hz⟩ := I.list hq
    refine SeqAt.in_listAt (eqU x) pl.isList (fun w hw => mem_eqAt rx fx r fs w (by simpa using hw)) ⟨.bl _, H, I, rfl, ?_⟩
    rw [show its.toArray.any (eqU x) = its.any (eqU x) by simp, any_eqU r fs]
    exact q
  · obtain ⟨its, r, pl, hz⟩ := I.tuple hq
    refine SeqAt.in_tupleAt (eqU x) pl (fun w hw => mem_eqAt rx fx r fs w (by simpa using hw)) ⟨.bl _, H, I, rfl, ?_⟩
    rw [show its.toArray.any (eqU x) = its.any (eqU x) by simp, any_eqU r fs]
    exact q
theorem op_notIn_seq : OpR X (compareOp .NotIn) (rIn X.K true) := by
  intro pins s σ H x y v u Q I rx ry h
  obtain ⟨p, xs, rfl, hq, fx, fs, q⟩ := h
  cases ry
  rcases hq with hq | hq
  · obtain ⟨its, r, pl, hz⟩ := I.list hq
    refine SeqAt.notIn_listAt (eqU x) pl.isList (fun w hw => mem_eqAt rx fx r fs w (by simpa using hw)) ⟨.bl _, H, I, rfl, ?_⟩
    rw [show its.toArray.any (eqU x) = its.any (eqU x) by simp, any_eqU r fs]
    exact q
  · obtain ⟨its, r, pl, hz⟩ := I.tuple hq
    refine SeqAt.notIn_tupleAt (eqU x) pl (fun w hw => mem_eqAt rx fx r fs w (by simpa using hw)) ⟨.bl _, H, I, rfl, ?_⟩
    rw [show its.toArray.any (eqU x) = its.any (eqU x) by simp, any_eqU r fs]
    exact q
theorem op_notIn_str : OpR X (compareOp .NotIn) (fun x y H Q => ∃ i j, x = .str i ∧ y = .str j ∧ Q (.bl (!(!(Builtin.Str.occurrences j i 0 j.length 1).isEmpty))) H) := by
  intro pins s σ H x y v u Q I rx ry h
  obtain ⟨i, j, rfl, rfl, q⟩ := h
  obtain ⟨t, rfl⟩ := rx
  obtain ⟨t', rfl⟩ := ry
  exact notIn_str ⟨.bl _, H, I, rfl, q⟩

/-! ### len, list(x), tuple(x) of any list or tuple that is read -/
theorem call_len_seq : CallR X (.builtin "len") (fun xs H Q => ∃ p ys, xs = [.ref p] ∧ (SqL X.K H p ys ∨ SqT X.K H p ys) ∧ Q (.int ys.length) H) := by
  intro pins s σ H xs us Q I r h
  obtain ⟨p, ys, rfl, hq, q⟩ := h
  obtain ⟨u, rfl, rx⟩ := vals1 r
  cases rx
  have hn := line63
  rcases hq with hq | hq
  · obtain ⟨its, r', pl, hz⟩ := I.list hq
    have hlen := r'.length
    exact Calls.call_len_list pl.isList (by simp only [List.size_toArray] <;> omega) ⟨.int ys.length, H, I.tok _, ⟨s.toks + 1, by rw [List.size_toArray, hlen]⟩, q⟩
  · obtain ⟨its, r', pl, hz⟩ := I.tuple hq
    have hlen := r'.length
    exact len_tuple pl (by simp only [List.size_toArray] <;> omega) ⟨.int ys.length, H, I.tok _, ⟨s.toks + 1, by rw [List.size_toArray, hlen]⟩, q⟩
theorem call_len_str : CallR X (.builtin "len") (fun xs H Q => ∃ z, xs = [.str z] ∧ z.length ≤ sizeLine ∧ Q (.int z.length) H) := by
  intro pins s σ H xs us Q I r h
  obtain ⟨z, rfl, hz, q⟩ := h
  obtain ⟨u, rfl, t, rfl⟩ := vals1 r
  have hn := line63
  exact len_str (by omega) ⟨.int z.length, H, I.tok _, ⟨_, rfl⟩, q⟩
theorem CallR.or {f : Value} {r r' : List V → Hp → VK → Prop} (h : CallR X f r) (h' : CallR X f r') : CallR X f (fun xs H Q => r xs H Q ∨ r' xs H Q) := by
  intro pins s σ H xs us Q I rs q
  rcases q with q | q
  · exact h pins s σ H xs us Q I rs q
  · exact h' pins s σ H xs us Q I rs q
theorem call_list_of : CallR X (.type "list") (fun xs H Q => ∃ p ys, xs = [.ref p] ∧ (SqL X.K H p ys ∨ SqT X.K H p ys) ∧ ∀ l, H l = none → Q (.ref l) (upd H l (.lst ys))) := by
  intro pins s σ H xs us Q I r h
  obtain ⟨p, ys, rfl, hq, q⟩ := h
  obtain ⟨u, rfl, rx⟩ := vals1 r
  cases rx
  have fin : ∀ (its : List Value), Vals ys its → ys.length ≤ sizeLine → ∀ (h' : Heap) (c' : Nat), (∀ b o', s.heap.get? b = some o' → h'.get? b = some o') →
      h'.get? s.heap.objs.size = some { cls := .type "list", dict := none, data := .seq its.toArray c', slots := #[] } → EP X pins σ Q (.ref s.heap.objs.size) { s with heap := h' } := fun its r' hz h' c' kp e =>
    ⟨.ref s.heap.objs.size, _, I.laid (t' := s.toks) kp (Nat.le_refl _) (show ObjOk X.prog X.w _ h' _ (.lst ys) from ⟨hz, its, c', r', e⟩), rfl, q _ (I.hok.fresh (Nat.le_refl _))⟩
  rcases hq with hq | hq
  · obtain ⟨its, r', pl, hz⟩ := I.list hq
    have hlen := r'.length
    obtain ⟨o, ho, hc, n, hd⟩ := pl.isList
    exact call_list_seq p (.inl rfl) ho hc hd (fun h' c' kp e => fin its r' hz h' c' kp e) (by simp only [List.size_toArray] <;> omega)
  · obtain ⟨its, r', pl, hz⟩ := I.tuple hq
    have hlen := r'.length
    obtain ⟨o, ho, hc, n, hd⟩ := pl
    exact call_list_seq p (.inr rfl) ho hc hd (fun h' c' kp e => fin its r' hz h' c' kp e) (by simp only [List.size_toArray] <;> omega)
theorem call_tuple_of : CallR X (.type "tuple") (fun xs H Q => ∃ p ys, xs = [.ref p] ∧ ((SqL X.K H p ys ∧ ∀ l, H l = none → Q (.ref l) (upd H l (.tup ys))) ∨ (SqT X.K H p ys ∧ Q (.ref p) H))) := by
  intro pins s σ H xs us Q I r h
  obtain ⟨p, ys, rfl, h⟩ := h
  obtain ⟨u, rfl, rx⟩ := vals1 r
  cases rx
  rcases h with ⟨hq, q⟩ | ⟨hq, q⟩
  · obtain ⟨its, r', pl, hz⟩ := I.list hq
    have hlen := r'.length
    refine call_tuple_list pl.isList (fun h' kp => ?_) (by simp only [List.size_toArray] <;> omega)
    have I1 : Inv X pins σ H { s with heap := h' } := I.kept (t' := s.toks) kp
    have I2 : Inv X pins σ (upd H h'.objs.size (.tup ys)) { s with heap := h'.push { cls := .type "tuple", data := .seq its.toArray } } :=
      I1.laid (t' := s.toks) (fun b o e => Heap.get?_push_of_some _ e) (Nat.le_refl _) (show ObjOk X.prog X.w _ _ _ (.tup ys) from ⟨hz, its, r', IsTup.new _ _⟩)
    exact ⟨.ref h'.objs.size, _, I2, rfl, q _ (I1.hok.fresh (Nat.le_refl _))⟩
  · obtain ⟨its, r', pl, hz⟩ := I.tuple hq
    exact call_tuple_same pl ⟨.ref p, H, I, rfl, q⟩

/-! ### the call of a builtin's method: o.m(..) -/
/-- the value is of that builtin type -/
def tyV (K : PySem.W.Frag) (T : String) (x : V) (H : Hp) : Prop := match x with
  | .str _ => T = "str"
  | .int _ => T = "int"
  | .ref p => (T = "list" ∧ ∃ xs, SqL K H p xs) ∨ (T = "tuple" ∧ ∃ o, K.lookup p = some o ∧ o.cls = .type "tuple" ∧ o.dict = none) ∨
      (T = "dict" ∧ ((∃ kvs, H p = some (.dK kvs)) ∨ ∃ kvs, H p = some (.dT kvs))) ∨ (T = "set" ∧ ∃ ks, H p = some (.set ks))
  | _ => False
theorem tyV_is {pins : List (Addr × Obj)} {σ : St} {H : Hp} {s : Shared} {T : String} {x : V} {v : Value} (I : Inv X pins σ H s) (r : RelV x v) (ty : tyV X.K T x H) :
    s.TypeIs v T ∧ ∀ a, v = .ref a → ∃ ob, s.heap.get? a = some ob ∧ ob.dict = none := by
  cases x with
  | str z =>
    obtain ⟨t, rfl⟩ := r
    cases (show T = "str" from ty)
    exact ⟨typeIs_str s z t, fun _ e => nomatch e⟩
  | int i =>
    obtain ⟨t, rfl⟩ := r
    cases (show T = "int" from ty)
    exact ⟨typeIs_int s i t, fun _ e => nomatch e⟩
  | ref p =>
    cases r
    rcases ty with ⟨rfl, xs, hq⟩ | ⟨rfl, o, hk, hc, hd⟩ | ⟨rfl, hk⟩ | ⟨rfl, ks, hk⟩
    · obtain ⟨its, _, pl, _⟩ := I.list hq
      refine ⟨pl.isList.typeIs, fun a e => ?_⟩
      cases e
      obtain ⟨o, n, e, c, hd, _⟩ := pl
      exact ⟨o, e, hd⟩
    · refine ⟨⟨o, I.kIn p o hk, hc⟩, fun a e => ?_⟩
      cases e
      exact ⟨o, I.kIn _ o hk, hd⟩
    · have z : ∃ o, s.heap.get? p = some o ∧ o.ExactDict := by
        rcases hk with ⟨kvs, hk⟩ | ⟨kvs, hk⟩
        · obtain ⟨_, _, _, _, o, _, _, e, ex, _⟩ := I.hok p _ hk
          exact ⟨o, e, ex⟩
        · obtain ⟨_, _, _, _, o, _, _, e, ex, _⟩ := I.hok p _ hk
          exact ⟨o, e, ex⟩
      obtain ⟨o, e, ex⟩ := z
      refine ⟨⟨o, e, ex.1⟩, fun a e2 => ?_⟩
      cases e2
      exact ⟨o, e, ex.2.1⟩
    · obtain ⟨o, _, _, _, _, e, ex, _⟩ := I.hok p _ hk
      refine ⟨⟨o, e, ex.1⟩, fun a e2 => ?_⟩
      cases e2
      exact ⟨o, e, ex.2.1⟩
  | _ => exact False.elim ty
def tBM0 (K : PySem.W.Frag) (T : String) (r : V → List V → Hp → VK → Prop) (to : TE) : TE := fun σ H Q => to σ H fun x H1 => tyV K T x H1 ∧ r x [] H1 Q
def tBM (K : PySem.W.Frag) (T : String) (r : V → List V → Hp → VK → Prop) (to : TE) (t : TA) : TE := fun σ H Q => to σ H fun x H1 => tyV K T x H1 ∧ t σ H1 fun xs H2 => r x xs H2 Q
variable {o e : Expr} {es : List Expr} {to : TE} {t : TA} {name : Str} {apos cpos : Pos} {T id : String} {r : V → List V → Hp → VK → Prop}
theorem pe_bm0 (pa : PlainAttrs T) (slot : Slot T name id) (hty : typeOf (.builtin id) = pure (.type "method_descriptor")) (hm : MtR X id r) (ho : PE X o to)
    (hbase : attributeBase o name X.env (eval o X.env) = eval o X.env := by rfl) (hline : (apos.endLine == cpos.line) = true := by rfl) : PE X (.Call (.Attribute o name apos) [] [] cpos) (tBM0 X.K T r to) := by
  intro pins s σ H Q I h
  refine wpAny_Call_method0_late hbase hline (thn (ho pins s σ H _ I h) fun v s1 ⟨x, H1, I1, r1, ty, q1⟩ => ?_)
  obtain ⟨h1, h2⟩ := tyV_is I1 r1 ty
  exact ⟨T, id, pa, slot, hty, h1, h2, Calls.callWith_builtin rfl (PySem.evalArgs_none (hm pins s1 σ H1 x [] v [] Q I1 r1 .nil q1))⟩
theorem pe_bm (pa : PlainAttrs T) (slot : Slot T name id) (hty : typeOf (.builtin id) = pure (.type "method_descriptor")) (hm : MtR X id r) (ho : PE X o to) (ha : PA X (e :: es) t)
    (hbase : attributeBase o name X.env (eval o X.env) = eval o X.env := by rfl)
    (hfew : ((backTo cpos (starEach (e :: es) X.env)).all (fun x => !x.1) && (backToKw cpos (keywordEach [] X.env)).all (fun x => x.1.isSome)
      && decide ((e :: es).length + ([] : List Keyword).length + (if ([] : List Keyword).isEmpty then 0 else 1) < 30)) = true := by rfl)
    (hline : (apos.endLine == cpos.line) = true := by rfl) (hs : starEach (e :: es) X.env = (false, eval e X.env) :: starEach es X.env := by rfl) (hplain : (backTo cpos (starEach es X.env)).any (·.1) = false := by rfl) :
    PE X (.Call (.Attribute o name apos) (e :: es) [] cpos) (tBM X.K T r to t) := by
  intro pins s σ H Q I h
  refine wpAny_Call_method_late hbase hfew hline rfl (thn (ho pins s σ H _ I h) fun v s1 ⟨x, H1, I1, r1, ty, q1⟩ => ?_)
  obtain ⟨h1, h2⟩ := tyV_is I1 r1 ty
  refine ⟨T, id, pa, slot, hty, h1, h2, ?_⟩
  have hA := ha cpos pins s1 σ H1 _ I1 q1
  rw [hs] at hA ⊢
  refine Calls.callWith_builtin (by show (false || (backTo cpos (starEach es X.env)).any (·.1)) = false; rw [hplain] <;> rfl) (Calls.evalArgs_plain ?_)
  exact thn hA fun us s2 ⟨vs, H2, I2, r2, q2⟩ => hm pins s2 σ H2 x vs v us Q I2 r1 r2 q2
/- xs.append(e), list.index on a module's tuple .. are MtR facts of 06m -/
end
end L2

namespace L2
open PySem PySem.Spec PyProof.Rows

def MtM (X : Cx) (id : String) (r : V → List V → Hp → VK → Prop) : Prop :=
  ∀ (pins : List (Addr × Obj)) (s : Shared) (σ : St) (H : Hp) (x : V) (xs : List V) (v : Value) (us : List Value) (Q : VK), Inv X pins σ H s → RelV x v → Vals xs us → r x xs H Q →
    wpAny (model X.prog X.w) X.A (call (.builtin id) (v :: us)) (EP X pins σ Q) X.xe s

/-! ### lists of values -/
theorem Vals.one : ∀ {x : V} {us : List Value}, Vals [x] us → ∃ u, us = [u] ∧ RelV x u
  | _, _, .cons r .nil => ⟨_, rfl, r⟩
theorem Vals.two : ∀ {x y : V} {us : List Value}, Vals [x, y] us → ∃ u v, us = [u, v] ∧ RelV x u ∧ RelV y v
  | _, _, _, .cons r (.cons q .nil) => ⟨_, _, rfl, r, q⟩
theorem Vals.zero : ∀ {us : List Value}, Vals [] us → us = []
  | _, .nil => rfl
theorem Vals.dropLast {xs : List V} {us : List Value} (h : Vals xs us) : Vals xs.dropLast us.dropLast := by
  induction h with
  | nil => exact .nil
  | cons r t ih =>
    cases t with
    | nil => exact .nil
    | cons q t' => exact .cons r ih
theorem Vals.eraseIdx : ∀ {xs : List V} {us : List Value} (i : Nat), Vals xs us → Vals (xs.eraseIdx i) (us.eraseIdx i)
  | _, _, _, .nil => .nil
  | _, _, 0, .cons _ t => t
  | _, _, i + 1, .cons r t => .cons r (Vals.eraseIdx i t)
theorem Vals.reverse {xs : List V} {us : List Value} (h : Vals xs us) : Vals xs.reverse us.reverse := by
  induction h with
  | nil => exact .nil
  | cons r t ih => rw [List.reverse_cons, List.reverse_cons]; exact Vals.append ih (.cons r .nil)
theorem Vals.rep {xs : List V} {us : List Value} (h : Vals xs us) : ∀ k : Nat, Vals (List.replicate k xs).flatten (List.replicate k us).flatten
  | 0 => .nil
  | k + 1 => by
    rw [List.replicate_succ, List.replicate_succ, List.flatten_cons, List.flatten_cons]
    exact Vals.append h (Vals.rep h k)
theorem erase_last {α : Type} (l : List α) : l.eraseIdx (l.length - 1) = l.dropLast := by
  induction l with
  | nil => rfl
  | cons a r ih =>
    cases r with
    | nil => rfl
    | cons b r =>
      have e : (a :: b :: r).length - 1 = ((b :: r).length - 1) + 1 := by
        have h1 : (a :: b :: r).length = r.length + 2 := rfl
        have h2 : (b :: r).length = r.length + 1 := rfl
        omega
      rw [e, List.eraseIdx_cons_succ, ih]
      all_goals rfl
theorem len_erase {α : Type} : ∀ (l : List α) (i : Nat), (l.eraseIdx i).length ≤ l.length
  | [], _ => Nat.le_refl _
  | _ :: _, 0 => Nat.le_succ _
  | _ :: r, i + 1 => Nat.succ_le_succ (len_erase r i)
theorem foldl_rep (its : List Value) : ∀ (k : Nat) (acc : List Value),
    List.foldl (fun x1 x2 => x1 ++ x2) acc.toArray (List.replicate k its.toArray) = (acc ++ (List.replicate k its).flatten).toArray
  | 0, acc => by simp
  | k + 1, acc => by
    have e : acc.toArray ++ its.toArray = (acc ++ its).toArray := by simp
    have e2 : (acc ++ its) ++ (List.replicate k its).flatten = acc ++ (List.replicate (k + 1) its).flatten := by
      rw [List.replicate_succ, List.flatten_cons, List.append_assoc]
    rw [← e2, ← foldl_rep its k (acc ++ its), ← e, List.replicate_succ, List.foldl_cons]

section
variable {X : Cx} {pins : List (Addr × Obj)} {σ : St} {H : Hp} {s : Shared} {l b : Addr} {xs ys zs : List V}

/-! ### the two steps: a tracked list is rewritten, a new list is laid -/
theorem Inv.lset {its its' : List Value} {n : Nat} {f : Array Value → Array Value} {t' : Nat} (I : Inv X pins σ H s) (hH : H l = some (.lst xs))
    (e : s.heap.get? l = some { cls := .type "list", data := .seq its.toArray n }) (hf : f its.toArray = its'.toArray) (hv : Vals ys its') (hz : ys.length ≤ sizeLine) :
    Inv X pins σ (upd H l (.lst ys)) { s with heap := s.heap.update l (Obj.mapSeq f), toks := t' } := by
  have q := PySem.IsL.update e f
  rw [hf] at q
  refine I.write (x := l) (e := l) (by rw [hH]; exact trivial) (.inl rfl) (fun b' u hb hu => (Heap.get?_update_other s.heap (Obj.mapSeq f) (Ne.symm hb)).trans hu) ⟨_, q⟩ ?_
  exact ⟨hz, its', _, hv, q⟩
theorem Inv.lnew {its : List Value} {t' : Nat} (I : Inv X pins σ H s) (hv : Vals ys its) (hz : ys.length ≤ sizeLine) :
    Inv X pins σ (upd H s.heap.objs.size (.lst ys)) { s with heap := s.heap.push { cls := .type "list", data := .seq its.toArray }, toks := t' } :=
  I.laid (fun _ _ q => Heap.get?_push_of_some _ q) (Nat.le_refl _) ⟨hz, its, 0, hv, Heap.get?_push_size _ rfl⟩
theorem Inv.fresh (I : Inv X pins σ H s) : H s.heap.objs.size = none := I.hok.fresh (Nat.le_refl _)
theorem Inv.lstM (I : Inv X pins σ H s) (hH : H l = some (.lst xs)) : xs.length ≤ sizeLine ∧ ∃ (its : List Value) (n : Nat), Vals xs its ∧ xs.length = its.length ∧ s.heap.get? l = some { cls := .type "list", data := .seq its.toArray n } := by
  obtain ⟨z, its, n, r, e⟩ := I.hok l _ hH
  exact ⟨z, its, n, r, r.length, e⟩

theorem notLongL {n : Nat} (h : n ≤ sizeLine) : Builtin.List.listTooLong n = false := by
  unfold Builtin.List.listTooLong
  exact decide_eq_false (by omega)
end

section
variable {X : Cx}

/-! ### methods -/
def rAppend : V → List V → Hp → VK → Prop := fun x vs H Q => ∃ l xs y, x = .ref l ∧ vs = [y] ∧ H l = some (.lst xs) ∧ xs.length < sizeLine ∧ Q .non (upd H l (.lst (xs ++ [y])))
theorem mt_append : MtM X "list.append" rAppend := by
  intro pins s σ H x vs v us Q I rx rv h
  obtain ⟨l, xs, y, rfl, rfl, hH, hz, q⟩ := h
  cases rx
  obtain ⟨u, rfl, ru⟩ := rv.one
  obtain ⟨z, its, n, r, hl, e⟩ := I.lstM hH
  refine call_meets F.slot_list_append ⟨_, e, rfl⟩ F.entry_list_append (F.args_list_append_2 _ _) (PySem.list_append l its.toArray n u (by rw [List.size_toArray]; omega)) ⟨e, ?_⟩
  refine ⟨.non, _, I.lset (its' := its ++ [u]) hH e (by simp) (r.append (.cons ru .nil)) ?_, rfl, q⟩
  rw [List.length_append, List.length_singleton]
  omega

def rExtend : V → List V → Hp → VK → Prop := fun x vs H Q => ∃ l b xs zs, x = .ref l ∧ vs = [.ref b] ∧ H l = some (.lst xs) ∧ H b = some (.lst zs) ∧ xs.length + zs.length ≤ sizeLine ∧ Q .non (upd H l (.lst (xs ++ zs)))
theorem mt_extend : MtM X "list.extend" rExtend := by
  intro pins s σ H x vs v us Q I rx rv h
  obtain ⟨l, b, xs, zs, rfl, rfl, hH, hB, hz, q⟩ := h
  cases rx
  obtain ⟨u, rfl, ru⟩ := rv.one
  cases ru
  obtain ⟨z, its, n, r, hl, e⟩ := I.lstM hH
  obtain ⟨z2, its2, n2, r2, hl2, e2⟩ := I.lstM hB
  have hsz : its.toArray.size + its2.toArray.size ≤ sizeLine := by rw [List.size_toArray, List.size_toArray]; omega
  have hlong : ¬ (!its.toArray.isEmpty && Builtin.List.listTooLong (its.toArray.size + its2.toArray.size)) = true := by
    rw [notLongL hsz, Bool.and_false]
    exact Bool.false_ne_true
  refine call_meets F.slot_list_extend ⟨_, e, rfl⟩ F.entry_list_extend (F.args_list_extend_2 _ _)
    (AutoSeq1.list_extend_list_list_0 l its.toArray n b its2.toArray n2 hlong (by rw [List.size_toArray]; omega) (by omega)) ⟨e, e2, ?_⟩
  refine ⟨.non, _, I.lset (its' := its ++ its2) hH e (by simp) (r.append r2) ?_, rfl, q⟩
  rw [List.length_append]
  omega

def rPop : V → List V → Hp → VK → Prop := fun x vs H Q => ∃ l xs y, x = .ref l ∧ vs = [] ∧ H l = some (.lst xs) ∧ xs[xs.length - 1]? = some y ∧ Q y (upd H l (.lst xs.dropLast))
theorem mt_pop : MtM X "list.pop" rPop := by
  intro pins s σ H x vs v us Q I rx rv h
  obtain ⟨l, xs, y, rfl, rfl, hH, hy, q⟩ := h
  cases rx
  have hus := rv.zero
  subst hus
  obtain ⟨z, its, n, r, hl, e⟩ := I.lstM hH
  obtain ⟨u, hu, ru⟩ := r.get hy
  have hy' : its.toArray[its.toArray.size - 1]? = some u := by
    show its.toArray[its.length - 1]? = some u
    rw [← Array.getElem?_toList, ← hl]
    exact hu
  refine call_meets F.slot_list_pop ⟨_, e, rfl⟩ F.entry_list_pop (F.args_list_pop_1 _) (MeetsSeq.list_pop_last l its.toArray n u hy' (by rw [List.size_toArray]; omega)) ⟨e, ?_⟩
  refine ⟨y, _, I.lset (its' := its.dropLast) hH e ?_ r.dropLast ?_, ru, q⟩
  · show its.toArray.eraseIdxIfInBounds (its.toArray.size - 1) = its.dropLast.toArray
    rw [List.size_toArray, List.eraseIdxIfInBounds_toArray, erase_last]
  · rw [List.length_dropLast]
    omega

def rPopAt : V → List V → Hp → VK → Prop := fun x vs H Q => ∃ l xs i k y, x = .ref l ∧ vs = [.int i] ∧ H l = some (.lst xs) ∧ -(2 ^ 63) ≤ i ∧ i < 2 ^ 63 ∧ seqIndex? i xs.length = some k ∧ xs[k]? = some y ∧ Q y (upd H l (.lst (xs.eraseIdx k)))
theorem mt_popAt : MtM X "list.pop" rPopAt := by
  intro pins s σ H x vs v us Q I rx rv h
  obtain ⟨l, xs, i, k, y, rfl, rfl, hH, h1, h2, hk, hy, q⟩ := h
  cases rx
  obtain ⟨u, rfl, ru⟩ := rv.one
  obtain ⟨t, rfl⟩ := ru
  obtain ⟨z, its, n, r, hl, e⟩ := I.lstM hH
  obtain ⟨w, hw, rw'⟩ := r.get hy
  refine call_meets F.slot_list_pop ⟨_, e, rfl⟩ F.entry_list_pop (F.args_list_pop_2 _ _)
    (MeetsSeq.list_pop_at l its.toArray n i t k w (fitsIndex_both h1 h2) (by rw [List.size_toArray, ← hl]; exact hk) (by rw [← Array.getElem?_toList]; exact hw) (by rw [List.size_toArray]; omega)) ⟨e, ?_⟩
  refine ⟨y, _, I.lset (its' := its.eraseIdx k) hH e ?_ (r.eraseIdx k) ?_, rw', q⟩
  · show its.toArray.eraseIdxIfInBounds k = (its.eraseIdx k).toArray
    rw [List.eraseIdxIfInBounds_toArray]
  · have := len_erase xs k
    omega

def rReverse : V → List V → Hp → VK → Prop := fun x vs H Q => ∃ l xs, x = .ref l ∧ vs = [] ∧ H l = some (.lst xs) ∧ Q .non (upd H l (.lst xs.reverse))
theorem mt_reverse : MtM X "list.reverse" rReverse := by
  intro pins s σ H x vs v us Q I rx rv h
  obtain ⟨l, xs, rfl, rfl, hH, q⟩ := h
  cases rx
  have hus := rv.zero
  subst hus
  obtain ⟨z, its, n, r, hl, e⟩ := I.lstM hH
  refine call_meets F.slot_list_reverse ⟨_, e, rfl⟩ F.entry_list_reverse (F.args_list_reverse_1 _) (AutoSeq1.list_reverse_list_0 l its.toArray n (by rw [List.size_toArray]; omega)) ⟨e, ?_⟩
  refine ⟨.non, _, I.lset (its' := its.reverse) hH e (by simp) r.reverse ?_, rfl, q⟩
  rw [List.length_reverse]
  omega

def rClear : V → List V → Hp → VK → Prop := fun x vs H Q => ∃ l xs, x = .ref l ∧ vs = [] ∧ H l = some (.lst xs) ∧ Q .non (upd H l (.lst []))
theorem mt_clear : MtM X "list.clear" rClear := by
  intro pins s σ H x vs v us Q I rx rv h
  obtain ⟨l, xs, rfl, rfl, hH, q⟩ := h
  cases rx
  have hus := rv.zero
  subst hus
  obtain ⟨z, its, n, r, hl, e⟩ := I.lstM hH
  refine call_meets F.slot_list_clear ⟨_, e, rfl⟩ F.entry_list_clear (F.args_list_clear_1 _) (AutoSeq1.list_clear_list_0 l its.toArray n (by rw [List.size_toArray]; omega)) ⟨e, ?_⟩
  exact ⟨.non, _, I.lset (its' := []) (ys := []) hH e rfl .nil (Nat.zero_le _), rfl, q⟩

/-! ### list + list, list += list, list * int -/
def rCat : R2 := fun x y H Q => ∃ l b xs zs, x = .ref l ∧ y = .ref b ∧ H l = some (.lst xs) ∧ H b = some (.lst zs) ∧ xs.length + zs.length ≤ sizeLine ∧ ∀ p, H p = none → Q (.ref p) (upd H p (.lst (xs ++ zs)))
theorem op_cat : OpR X (binaryOp .Add) rCat := by
  intro pins s σ H x y v u Q I rx ry h
  obtain ⟨l, b, xs, zs, rfl, rfl, hH, hB, hz, q⟩ := h
  cases rx
  cases ry
  obtain ⟨z, its, n, r, hl, e⟩ := I.lstM hH
  obtain ⟨z2, its2, n2, r2, hl2, e2⟩ := I.lstM hB
  refine PySem.P.add_list e e2 ?_ (by rw [List.size_toArray, List.size_toArray]; omega)
  have ea : its.toArray ++ its2.toArray = (its ++ its2).toArray := by simp
  rw [ea]
  exact ⟨.ref _, _, I.lnew (t' := s.toks) (r.append r2) (by rw [List.length_append]; omega), rfl, q _ I.fresh⟩
/-- a list times an int (a negative one is nothing) -/
def rRep : R2 := fun x y H Q => ∃ l k xs, x = .ref l ∧ y = .int k ∧ H l = some (.lst xs) ∧ -(2 ^ 63) ≤ k ∧ k < 2 ^ 63 ∧ xs.length * k.toNat ≤ sizeLine ∧
  ∀ p, H p = none → Q (.ref p) (upd H p (.lst (List.replicate k.toNat xs).flatten))
theorem len_rep {α : Type} (xs : List α) (k : Nat) : (List.replicate k xs).flatten.length = k * xs.length := by
  induction k with
  | zero => simp
  | succ k ih => rw [List.replicate_succ, List.flatten_cons, List.length_append, ih, Nat.succ_mul, Nat.add_comm]
theorem op_rep : OpR X (binaryOp .Mult) rRep := by
  intro pins s σ H x y v u Q I rx ry h
  obtain ⟨l, k, xs, rfl, rfl, hH, h1, h2, hz, q⟩ := h
  cases rx
  obtain ⟨t, rfl⟩ := ry
  obtain ⟨z, its, n, r, hl, e⟩ := I.lstM hH
  have hlen : its.toArray.size * k.toNat ≤ sizeLine := by rw [List.size_toArray, ← hl]; exact hz
  have hcap : ¬ its.toArray.size * k.toNat > (2 ^ 63 - 1) / 8 := by
    have : (sizeLine : Nat) ≤ (2 ^ 63 - 1) / 8 := by decide
    omega
  have hfit : ¬ (!Builtin.List.listFitsIndex k) = true := by
    rw [fitsIndex_both h1 h2]
    exact Bool.false_ne_true
  have hlong : ¬ Builtin.List.listTooLong (its.toArray.size * k.toNat) = true := by
    rw [notLongL hlen]
    exact Bool.false_ne_true
  have hnew : List.foldl (fun x1 x2 => x1 ++ x2) #[] (List.replicate (if its.toArray.isEmpty = true then 0 else k.toNat) its.toArray) = (List.replicate k.toNat its).flatten.toArray := by
    have f0 : ∀ m : Nat, List.foldl (fun x1 x2 => x1 ++ x2) #[] (List.replicate m its.toArray) = (List.replicate m its).flatten.toArray := fun m => by
      have := foldl_rep its m []
      rw [List.nil_append] at this
      exact this
    rw [f0]
    cases its with
    | nil => simp
    | cons a r' => rw [if_neg (by simp)]
  refine wpAny_binaryOp_repeat_ref (T := "list") (U := "int") (by decide) ⟨_, e, rfl⟩ (fun s' => typeIs_int s' k t) noFill_list_mul F.fills_int_mul F.slot_int_rmul repeat_list F.slot_int_index.lookup
    (call_meets F.slot_int_rmul (typeIs_int s k t) F.entry_int_rmul (F.args_int_rmul_2 _ _) (int___rmul___int_list k t l its.toArray n)
      ⟨e, rfl, ⟨_, e, rfl⟩, call_meets F.slot_list_mul ⟨_, e, rfl⟩ F.entry_list_mul (F.args_list_mul_2 _ _) (AutoListH.list___mul___list_int_3 l its.toArray n k t hfit hcap hlong) ⟨e, ?_⟩⟩)
  rw [hnew]
  exact ⟨.ref _, _, I.lnew (t' := s.toks) (r.rep k.toNat) (by rw [len_rep, Nat.mul_comm]; exact hz), rfl, q _ I.fresh⟩

/-! ### del xs[i] -/
theorem del_list {pins : List (Addr × Obj)} {s : Shared} {σ : St} {H : Hp} {l : Addr} {xs : List V} {i : Int} {t : Tok} {k : Nat} {Q : Unit → Shared → Prop} (I : Inv X pins σ H s) (hH : H l = some (.lst xs))
    (h1 : -(2 ^ 63) ≤ i) (h2 : i < 2 ^ 63) (hk : seqIndex? i xs.length = some k) (h : ∀ s', Inv X pins σ (upd H l (.lst (xs.eraseIdx k))) s' → Q () s') :
    wpAny (model X.prog X.w) X.A (delItem (.ref l) (.int i t)) Q X.xe s := by
  obtain ⟨z, its, n, r, hl, e⟩ := I.lstM hH
  refine PySem.P.delItem_list (k := k) e (fitsIndex_both h1 h2) (by rw [List.size_toArray, ← hl]; exact hk) (h _ ?_) (by rw [List.size_toArray]; omega)
  refine I.lset (its' := its.eraseIdx k) (t' := s.toks) hH e ?_ (r.eraseIdx k) ?_
  · show its.toArray.eraseIdxIfInBounds k = (its.eraseIdx k).toArray
    rw [List.eraseIdxIfInBounds_toArray]
  · have := len_erase xs k
    omega
end

/-! ### xs[a:b] = ys -/
section
variable {prog : Program} {w : World} {A : Around} {E : Value → Shared → Prop} {s : Shared}
theorem splice_eq (its its2 : List Value) (a c : Nat) : its.toArray.extract 0 a ++ its2.toArray ++ its.toArray.extract c its.toArray.size = (its.take a ++ its2 ++ its.drop c).toArray := by
  apply Array.toList_inj.mp
  first
    | (simp
       exact List.take_of_length_le (by simp))
    | simp [List.take_of_length_le]
    | simp
theorem bounds_run {a c n : Nat} (hac : a ≤ c) (hc : c ≤ n) : sliceBounds (some (a : Int)) (some (c : Int)) none n = ((a : Int), (c : Int), 1) := by
  simp only [sliceBounds, Option.getD_none]
  have h1 : ¬ ((a : Int) < 0) := by omega
  have h2 : ¬ ((c : Int) < 0) := by omega
  simp only [h1, h2, if_false, show (1 : Int) > 0 by decide, if_true]
  congr 1
  · omega
  · congr 1; omega
set_option maxRecDepth 100000 in
/-- list.__setitem__ with a slice of step one and another list -/
theorem setItem_slice {l b sl : Addr} {items new : Array Value} {n n2 : Nat} {vl vu : Value} {a c : Nat} {Q : Unit → Shared → Prop}
    (e : s.heap.get? l = some { cls := .type "list", data := .seq items n }) (e2 : s.heap.get? b = some { cls := .type "list", data := .seq new n2 }) (hne : l ≠ b)
    (hs : s.heap.IsSliceOf sl vl vu .none) (pl : IsPart vl (some (a : Int))) (pu : IsPart vu (some (c : Int))) (hac : a ≤ c) (hc : c ≤ items.size)
    (hsz : items.size + new.size ≤ sizeLine) (h : Q () { s with heap := s.heap.update l (Obj.mapSeq fun xs => xs.extract 0 a ++ new ++ xs.extract c xs.size) }) :
    wpAny (model prog w) A (setItem (.ref l) (.ref sl) (.ref b)) Q E s := by
  have hl : s.heap.IsList l items := PySem.IsL.isList e
  have hb : s.heap.IsList b new := PySem.IsL.isList e2
  obtain ⟨os, hos, hcs, hds⟩ := id hs
  have hTs : s.TypeIs (.ref sl) "slice" := ⟨os, hos, hcs⟩
  have hstep : ¬ ((rawPart none == rawInt 0) = true) := Bool.false_ne_true
  have hsame : Builtin.List.listSameRef (.ref l) (.ref b) = false := by
    unfold Builtin.List.listSameRef
    exact beq_eq_false_iff_ne.mpr hne
  have hmax : (max (a : Int) (c : Int)).toNat = c := by omega
  have hz' : ((fun xs : Array Value => xs.extract 0 a ++ new ++ xs.extract c xs.size) items).size ≤ sizeLine + 1 := by
    simp only [Array.size_append, Array.size_extract]
    omega
  unfold setItem
  try with_reducible refine wpAny_holding ?_
  first | refine wpAny_bind (wpAny_pure ?_) | skip
  refine wpAny_bind (wpAny_sequenceKey hl.typeIs (by decide) ?_)
  refine wpAny_bind (wpAny_callSpecial?_slot (name := Str.ofString "__setitem__") hl.typeIs slot_list_setitem
    (wpAny_call_entry slot_list_setitem hl.typeIs entry_list_setitem ?_ (args_list_setitem _ _ _)))
  show wpAny _ _ (Builtin.List.listSubscript? (.ref sl) >>= _) _ _ s
  refine wpAny_bind ?_
  unfold Builtin.List.listSubscript?
  refine wpAny_bind (wpAny_specialOf hTs slice_no_index ?_)
  simp only [Option.isNone_none, if_true]
  refine wpAny_pure ?_
  show wpAny _ _ (typeOf (.ref sl) >>= _) _ _ s
  refine wpAny_bind (wpAny_typeOf hTs ?_)
  first
    | rw [if_neg (by decide)]
    | refine PySem.W.KFB.if_not (by decide) ?_
  rw [listSliceParts_eq]
  refine wpAny_bind (wpAny_bind (wpAny_field hos hds (x := .none) rfl (wpAny_bind (wpAny_listPart .none ?_))))
  rw [if_neg hstep]
  refine wpAny_bind (wpAny_field hos hds (x := vl) rfl (wpAny_bind (wpAny_listPart pl ?_)))
  refine wpAny_bind (wpAny_field hos hds (x := vu) rfl (wpAny_bind (wpAny_listPart pu (wpAny_pure ?_))))
  first
    | simp only [hsame, Bool.false_eq_true, if_false]
    | refine PySem.W.KFB.if_not hsame ?_
    | (dsimp only
       rw [if_neg (by rw [hsame]; exact Bool.false_ne_true)])
  refine wpAny_bind (m := Builtin.List.listAllItems (.ref b) "must assign iterable to extended slice") ?_
  unfold Builtin.List.listAllItems
  refine wpAny_bind (wpAny_typeOf hb.typeIs ?_)
  first
    | refine PySem.W.KFB.if_so (by decide) ?_
    | rw [if_pos (by decide)]
    | simp only [beq_self_eq_true, Bool.true_or, if_true]
  unfold Builtin.List.listItems
  refine wpAny_bind (wpAny_seqItems e2 rfl (wpAny_pure ?_))
  refine wpAny_bind (wpAny_bind (wpAny_seqItems e rfl (wpAny_pure ?_)))
  refine wpAny_bind (wpAny_of_eq ((sliceIndices_raw (some (a : Int)) (some (c : Int)) none items.size (by simp)).trans (congrArg (pure : Int × Int × Int → Sem (Int × Int × Int)) (bounds_run hac hc))) ?_)
  show wpAny _ _ (if ((1 : Int) == 1) = true then _ else _) _ _ s
  rw [if_pos (by decide)]
  refine wpAny_bind (wpAny_rule ?_)
  first
    | simp only [notLongL hsz, Bool.false_eq_true, if_false]
    | refine PySem.W.KFB.if_not (notLongL hsz) ?_
  first | refine wpAny_bind (wpAny_pure ?_) | skip
  show wpAny _ _ (updateSeq l (fun xs => xs.extract 0 ((a : Int)).toNat ++ new ++ xs.extract (max (a : Int) (c : Int)).toNat xs.size) >>= _) _ _ s
  rw [hmax, Int.toNat_natCast]
  refine wpAny_bind (wpAny_updateSeq (hz := Nat.le_trans (Nat.le_add_right _ _) hsz) (_hz' := hz') e rfl ?_)
  refine wpAny_bind (wpAny_letGo ?_)
  first
    | exact wpAny_bind (wpAny_pure (wpAny_pure ⟨.none, rfl, wpAny_pure h⟩))
    | exact wpAny_pure ⟨.none, rfl, wpAny_pure h⟩
end

section
variable {X : Cx}
/-- xs[a:c] = ys of another list, at the value level: sl is the slice object that was just made -/
theorem set_slice {pins : List (Addr × Obj)} {s : Shared} {σ : St} {H : Hp} {l b sl : Addr} {xs ys : List V} {a c : Int} {vl vu : Value} {Q : Unit → Shared → Prop} (I : Inv X pins σ H s)
    (hH : H l = some (.lst xs)) (hB : H b = some (.lst ys)) (hne : l ≠ b) (hs : s.heap.IsSliceOf sl vl vu .none) (ra : RelV (.int a) vl) (rc : RelV (.int c) vu) (h0 : 0 ≤ a) (hac : a ≤ c) (hc : c ≤ xs.length)
    (hz : xs.length + ys.length ≤ sizeLine) (h : ∀ s', Inv X pins σ (upd H l (.lst (xs.take a.toNat ++ ys ++ xs.drop c.toNat))) s' → Q () s') :
    wpAny (model X.prog X.w) X.A (setItem (.ref l) (.ref sl) (.ref b)) Q X.xe s := by
  obtain ⟨ta, rfl⟩ := ra
  obtain ⟨tc, rfl⟩ := rc
  obtain ⟨z, its, n, r, hl, e⟩ := I.lstM hH
  obtain ⟨z2, its2, n2, r2, hl2, e2⟩ := I.lstM hB
  obtain ⟨a', rfl⟩ := Int.eq_ofNat_of_zero_le h0
  obtain ⟨c', rfl⟩ := Int.eq_ofNat_of_zero_le (Int.le_trans h0 hac)
  simp only [Int.toNat_natCast] at h
  refine setItem_slice (a := a') (c := c') e e2 hne hs (.int _ _) (.int _ _) (by omega) (by rw [List.size_toArray]; omega) (by rw [List.size_toArray, List.size_toArray]; omega) (h _ ?_)
  refine I.lset (its' := its.take a' ++ its2 ++ its.drop c') (t' := s.toks) hH e ?_ (Vals.append (Vals.append (r.take _) r2) (r.drop _)) ?_
  · exact splice_eq its its2 a' c'
  · rw [List.length_append, List.length_append, List.length_take, List.length_drop]
    omega
end
end L2

namespace Att
open PySem PySem.W PySem.Calls PyProof.Rows

/-! ### the script -/
theorem ints_of_wellAll {P : Params} {h : Heap} : ∀ (ns : List Int) (vs : List Value), WellAll P h vs (ns.map WData.int) → IntsAre vs ns := by
  intro ns
  induction ns with
  | nil =>
    intro vs w
    rw [List.map_nil] at w
    cases w
    exact .nil
  | cons n ns ih =>
    intro vs w
    rw [List.map_cons] at w
    cases w with
    | cons a b =>
      cases a
      exact .cons _ _ (ih _ b)

theorem script_of {l : OpenLaw} {n : Nat} (hn : l.most = some n) {P : Params} {h : Heap} {args : List WData} {vals : List Value}
    (hpre : l.row.toRowW.claim.pre args = true) (hwl : WellAll P h vals args) :
    ∃ a vs ns, vals = [Value.ref a] ∧ args = [WData.list (ns.map WData.int)] ∧ h.get? a = some { cls := .type "list", data := .seq vs.toArray } ∧ IntsAre vs ns ∧ ns.length ≤ n := by
  have hsh : WShape.hasAll [] args [.list .int] = true := (pre_splitW hpre).1
  have hc : l.pre.holds [] { args := args } = true := (pre_splitW hpre).2
  obtain ⟨d, r, rfl, h1, h2⟩ := hasAllW_cons hsh
  obtain rfl := hasAllW_nil h2
  obtain ⟨xs, rfl, h3⟩ := hasW_list h1
  obtain ⟨ns, rfl⟩ := items_int h3
  have hlen : ns.length ≤ n := by
    unfold OpenLaw.pre at hc
    have h4 : (WTm.not (.lt (.lit (.int (n : Int))) (.len (.arg 0)))).holds [] { args := [.list (ns.map .int)] } = true := by
      have h4 := (holds_andW hc).1
      rw [hn] at h4
      exact h4
    have h5 := condW_of h4 (w_not (w_lt w_lit (w_len_list (w_arg rfl))))
    rw [List.length_map] at h5
    refine Nat.le_of_not_lt fun q => ?_
    have q' : (n : Int) < ((ns.length : Nat) : Int) := by omega
    first
      | (rw [decide_eq_true q'] at h5; exact absurd h5 (by decide))
      | (simp at h5; omega)
  cases hwl with
  | cons w1 w2 =>
    cases w2
    cases w1 with
    | list ho hall => exact ⟨_, _, ns, rfl, rfl, ho, ints_of_wellAll ns _ hall, hlen⟩

theorem post_true (l : OpenLaw) (args : List WData) : l.row.toRowW.claim.post args (.bool true) args = true :=
  postW_of (r := l.row.toRowW) (X := (true == true))
    (show WShape.has [] (.bool true) .bool = true by first | rfl | decide | simp [WShape.has, WShape.arms, WShape.armsAll])
    (show (WTm.eq .res (.lit (.bool true))).value [] { args := args, res := some (.bool true), after := args } = some (.bool (true == true)) from w_eq_bool (w_res rfl) w_lit) rfl

/-! ### the attachment: holds_open's last premise (the goal 'hc' behind k_head) from a wpAny of the law's body -/
theorem attach {l : OpenLaw} {n : Nat} {q : Program} {loose : List Str} {XP : (Str → Option Value) → Heap → Prop} {YP : World → Heap → Prop} {d : DefRec} {x : Str}
    (hn : l.most = some n) (hdf : d.params.defaults = [])
    (hbind : ∀ pm cd doc v : Value, bindArgs (docDef d.name d.params d.body d.scope pm cd doc) ⟨[v], []⟩ = pure [(x, v)])
    (hx : d.scope.names.lookup x = some .local ∨ d.scope.names.lookup x = some .cell)
    (hk : d.scope.kind = .function) (hco : d.scope.isCoroutine = false) (hgen : d.scope.isGenerator = false)
    (body : ∀ (w : World) (s₀ s₁ s : Shared) (mg mb : Str → Option Value) (fa : Addr) (o : Obj) (pm cd doc : Value) (a : Addr) (vs : List Value) (ns : List Int),
      Ground q loose [] XP w s₀ mg mb s₁.heap → YP w s₁.heap →
      s₁.heap.get? fa = some o → o.data = .func (docDef d.name d.params d.body d.scope pm cd doc) → s₁.heap.CodeRec cd d.name → mg d.name = some (.ref fa) →
      s₁.heap.get? a = some { cls := .type "list", data := .seq vs.toArray } → IntsAre vs ns → ns.length ≤ n →
      s.gens = #[] → s.os = s₁.os →
      Fr s₁.heap s₁.heap.objs.size s.heap (bindL (envOfC d.name d.scope s₁.heap.objs.size fa cd).kindOf [(x, .ref a)] fun _ => none) →
      Cl s₁.heap.objs.size (cellsFrom (s₁.heap.objs.size + 1) d.scope.names []) s.heap (bindC (envOfC d.name d.scope s₁.heap.objs.size fa cd).kindOf [(x, .ref a)] fun _ => none) →
      wpAny (model l.prog w) (callerA.deeper (envOfC d.name d.scope s₁.heap.objs.size fa cd)) (execs d.body (envOfC d.name d.scope s₁.heap.objs.size fa cd))
        (fun f s' => f = .ret (.bool true) ∧ OldK s₁.heap s'.heap ∧ s'.os = s₁.os ∧ AllBare s'.gens) (fun _ _ => False) s) :
    WalkO q loose XP YP l.row.toRowW d [] (fun f vs => PySem.call f vs) := by
  intro w s₀ s₁ mg mb G Y fa o pm cd doc dV kV ho hd hcd hD hmg hg args vals as hpre hlay hrd hwl hlo
  obtain rfl : dV = .none := Dflts.none hD hdf
  obtain rfl : kV = .none := Dflts.noKw hD
  obtain ⟨a, vs, ns, rfl, rfl, hobj, hints, hlen⟩ := script_of hn hpre hwl
  refine enter_call ?_
  refine call_cells_ret (o := o) (by rw [depth_caller]; decide) ho (fd_plain hd) G.T.nolimit hcd (hbind pm cd doc (.ref a)) (fun y hy => ?_) (fun h₁ tk F X => ?_) hco hgen hk
  · obtain rfl : y = (x, Value.ref a) := List.mem_singleton.mp hy
    rcases hx with e | e
    · exact .inl e
    · exact .inr ⟨e, cellsFrom_some _ _ _ (.inl e)⟩
  · refine wpAny_mono (body w s₀ s₁ { s₁ with heap := h₁, toks := tk } mg mb fa o pm cd doc a vs ns G Y ho (fd_plain hd) hcd hmg hobj hints hlen hg rfl F X) (fun f s' hq => ?_) (fun _ _ hq => hq)
    obtain ⟨rfl, h2, h3, h4⟩ := hq
    exact ⟨.inl ⟨.bool true, .bool true, [], rfl, fun _ => rfl, .bool true, post_true l _, fun _ => ⟨List.Pairwise.nil, fun _ hm => (nomatch hm)⟩⟩, h2, h3, h4⟩

/-- the same from a codeAny of the CALL (for a layer whose function contracts speak of calls) -/
theorem attach_call {l : OpenLaw} {n : Nat} {q : Program} {loose : List Str} {XP : (Str → Option Value) → Heap → Prop} {YP : World → Heap → Prop} {d : DefRec}
    (hn : l.most = some n) (hdf : d.params.defaults = [])
    (call : ∀ (w : World) (s₀ s₁ : Shared) (mg mb : Str → Option Value) (fa : Addr) (o : Obj) (pm cd doc : Value) (a : Addr) (vs : List Value) (ns : List Int),
      Ground q loose [] XP w s₀ mg mb s₁.heap → YP w s₁.heap →
      s₁.heap.get? fa = some o → o.data = .func (docDef d.name d.params d.body d.scope pm cd doc) → s₁.heap.CodeRec cd d.name → mg d.name = some (.ref fa) →
      s₁.heap.get? a = some { cls := .type "list", data := .seq vs.toArray } → IntsAre vs ns → ns.length ≤ n → s₁.gens = #[] →
      codeAny (model l.prog w) callerA (.call (.ref fa) ⟨[.ref a], []⟩) (fun r s' => r = .ok (.ret (.bool true)) ∧ OldK s₁.heap s'.heap ∧ s'.os = s₁.os ∧ AllBare s'.gens) s₁) :
    WalkO q loose XP YP l.row.toRowW d [] (fun f vs => PySem.call f vs) := by
  intro w s₀ s₁ mg mb G Y fa o pm cd doc dV kV ho hd hcd hD hmg hg args vals as hpre hlay hrd hwl hlo
  obtain rfl : dV = .none := Dflts.none hD hdf
  obtain rfl : kV = .none := Dflts.noKw hD
  obtain ⟨a, vs, ns, rfl, rfl, hobj, hints, hlen⟩ := script_of hn hpre hwl
  refine enter_call (codeAny_mono (call w s₀ s₁ mg mb fa o pm cd doc a vs ns G Y ho (fd_plain hd) hcd hmg hobj hints hlen hg) fun r s' hq => ?_)
  obtain ⟨rfl, h2, h3, h4⟩ := hq
  exact ⟨.inl ⟨.bool true, .bool true, [], rfl, fun _ => rfl, .bool true, post_true l _, fun _ => ⟨List.Pairwise.nil, fun _ hm => (nomatch hm)⟩⟩, h2, h3, h4⟩

/-- the same where the top left finished generators (o_head chose holds_openN): nothing may have changed at all and no generator may be left -/
theorem attachN {l : OpenLaw} {n : Nat} {q : Program} {loose : List Str} {XP : (Str → Option Value) → Heap → Prop} {YP : World → Heap → Prop} {d : DefRec} {x : Str}
    (hn : l.most = some n) (hdf : d.params.defaults = [])
    (hbind : ∀ pm cd doc v : Value, bindArgs (docDef d.name d.params d.body d.scope pm cd doc) ⟨[v], []⟩ = pure [(x, v)])
    (hx : d.scope.names.lookup x = some .local ∨ d.scope.names.lookup x = some .cell)
    (hk : d.scope.kind = .function) (hco : d.scope.isCoroutine = false) (hgen : d.scope.isGenerator = false)
    (body : ∀ (w : World) (s₀ s₁ s : Shared) (mg mb : Str → Option Value) (fa : Addr) (o : Obj) (pm cd doc : Value) (a : Addr) (vs : List Value) (ns : List Int),
      Ground q loose [] XP w s₀ mg mb s₁.heap → YP w s₁.heap →
      s₁.heap.get? fa = some o → o.data = .func (docDef d.name d.params d.body d.scope pm cd doc) → s₁.heap.CodeRec cd d.name → mg d.name = some (.ref fa) →
      s₁.heap.get? a = some { cls := .type "list", data := .seq vs.toArray } → IntsAre vs ns → ns.length ≤ n →
      s.gens = #[] → s.os = s₁.os →
      Fr s₁.heap s₁.heap.objs.size s.heap (bindL (envOfC d.name d.scope s₁.heap.objs.size fa cd).kindOf [(x, .ref a)] fun _ => none) →
      Cl s₁.heap.objs.size (cellsFrom (s₁.heap.objs.size + 1) d.scope.names []) s.heap (bindC (envOfC d.name d.scope s₁.heap.objs.size fa cd).kindOf [(x, .ref a)] fun _ => none) →
      wpAny (model l.prog w) (callerA.deeper (envOfC d.name d.scope s₁.heap.objs.size fa cd)) (execs d.body (envOfC d.name d.scope s₁.heap.objs.size fa cd))
        (fun f s' => f = .ret (.bool true) ∧ (∀ b o, s₁.heap.get? b = some o → s'.heap.get? b = some o) ∧ s'.os = s₁.os ∧ s'.gens = #[]) (fun _ _ => False) s) :
    WalkN q loose XP YP l.row.toRowW d [] (fun f vs => PySem.call f vs) := by
  intro w s₀ s₁ mg mb G Y fa o pm cd doc dV kV ho hd hcd hD hmg hg args vals as hpre hlay hrd hwl hlo
  obtain rfl : dV = .none := Dflts.none hD hdf
  obtain rfl : kV = .none := Dflts.noKw hD
  obtain ⟨a, vs, ns, rfl, rfl, hobj, hints, hlen⟩ := script_of hn hpre hwl
  refine enter_callW ?_
  refine call_cells_ret (o := o) (by rw [depth_caller]; decide) ho (fd_plain hd) G.T.nolimit hcd (hbind pm cd doc (.ref a)) (fun y hy => ?_) (fun h₁ tk F X => ?_) hco hgen hk
  · obtain rfl : y = (x, Value.ref a) := List.mem_singleton.mp hy
    rcases hx with e | e
    · exact .inl e
    · exact .inr ⟨e, cellsFrom_some _ _ _ (.inl e)⟩
  · refine wpAny_mono (body w s₀ s₁ { s₁ with heap := h₁, toks := tk } mg mb fa o pm cd doc a vs ns G Y ho (fd_plain hd) hcd hmg hobj hints hlen hg rfl F X) (fun f s' hq => ?_) (fun _ _ hq => hq)
    obtain ⟨rfl, h2, h3, h4⟩ := hq
    exact ⟨.inl ⟨.bool true, .bool true, [], rfl, fun _ => rfl, .bool true, post_true l _, fun _ => ⟨List.Pairwise.nil, fun _ hm => (nomatch hm)⟩⟩, h2, h3, h4⟩

/-! ### rules over ANY heap (no ledger) from facts about the written part K: the library's own take a ledger (News) for what they write -/
section
variable {prog : Program} {w : World} {A : Around} {E : Value → Shared → Prop} {s : Shared} {K : Frag}

/-- a def of the module, or a method (qual 'C.m'), entered: the frame is the next address; cells behind it -/
theorem call_fn {R : Result → Shared → Prop} {name qual : Str} {params : Arguments} {body : List Stmt} {scope : Scope} {dV kV doc pm cdv ct oc : Value} {an od : Option Addr} {osl : Array (Option Value)} {f : Addr} {args : Args} {binds : List (Str × Value)}
    (X : K.In s.heap) (hlim : s.heap.NoLimit) (ho : K.lookup f = some ⟨oc, od, .func (fnOf name qual params body scope dV kV doc pm an cdv ct), osl⟩) (hcd : codeIn K cdv qual = true) (hroom : A.depth < recursionLimit)
    (hbind : BindsTo s (fnOf name qual params body scope dV kV doc pm an cdv ct) args binds)
    (hkind : (binds.all fun y => scope.names.lookup y.1 == some .local || scope.names.lookup y.1 == some .cell) = true)
    (h : ∀ s₁, InCallC s s.heap.objs.size (bindL (envOfC qual scope s.heap.objs.size f cdv).kindOf binds fun _ => none) (cellsFrom (s.heap.objs.size + 1) scope.names [])
        (bindC (envOfC qual scope s.heap.objs.size f cdv).kindOf binds fun _ => none) s₁ →
      wpAny (model prog w) (A.deeper (envOfC qual scope s.heap.objs.size f cdv)) (execs body (envOfC qual scope s.heap.objs.size f cdv))
        (fun fl s' => R (.ok (.ret (match fl with | .ret v => v | _ => .none))) s')
        (fun e s' => wpAny (model prog w) (A.deeper (envOfC qual scope s.heap.objs.size f cdv)) (leaving (envOfC qual scope s.heap.objs.size f cdv) e) (fun _ s'' => R (.error e) s'') (fun e' s'' => R (.error e') s'') s') s₁)
    (hco : scope.isCoroutine = false) (hgen : scope.isGenerator = false) (hk : scope.kind = .function) : codeAny (model prog w) A (.call (.ref f) args) R s := by
  refine codeAny_call_function hroom (X _ _ ho) rfl hco hgen rfl (codeRec_of X hcd) (hbind _ _ _ _ ?_)
  refine wpAny_newFunctionEnv_cells hk (kindsX hkind _) fun env he s₁ x => ?_
  subst he
  exact ⟨hlim.keeps x.toInCall.keep, codeAny_func (h s₁ x)⟩

/-- C(..): dict at size, instance at size + 1, then __init__ -/
theorem make_obj {R : Result → Shared → Prop} {C fI : Addr} {rest : List Value} {kw : List (Str × Value)}
    (X : K.In s.heap) (hm : makesIn K C = true) (hi : findIn K (.ref C) "__init__" = some (some (.ref fI))) (hf : isFn K (.ref fI) = true)
    (h : codeAny (model prog w) (A.under (.builtin "type.__call__" ⟨.ref C :: rest, kw⟩)) (.call (.ref fI) ⟨.ref (s.heap.objs.size + 1) :: rest, kw⟩) (InitBack (s.heap.objs.size + 1) R)
      { s with heap := (s.heap.push emptyDict).push (instObj C s.heap.objs.size) }) : codeAny (model prog w) A (.call (.ref C) ⟨rest, kw⟩) R s := by
  obtain ⟨hh, g, d, t, os⟩ := s
  exact make_core (makes_of X hm) (looks_findIn X hi) (fun self => bind_fn X self (beq_iff_eq.mp hf)) (.inl rfl) h

/-- x.name where the instance's dict holds the name and the class does not -/
theorem get_field {x C : Addr} {ox : Obj} {es : List DictEntry} {n : Nat} {name : Str} {expr : Bool} {v : Value} {Q : Value → Shared → Prop}
    (X : K.In s.heap) (I : PySem.W.InstAt s.heap x ox C (some (dictOf es n))) (hg : plainGet K C name = true) (hh : hasDictIn K C = true) (ha : findIn K (.ref C) name = some none)
    (hl : getL name es = some (some v)) (hv : handedIn v = true) (h : Q v { s with toks := s.toks + 1 }) : wpAny (model prog w) A (getAttr (.ref x) name expr) Q E s :=
  get_value X I (plainGet_of hg).1 (findObj_own hh ha rfl hl) hv h

/-- x.m(..): the method found in the class -/
theorem get_method {x C f : Addr} {ox : Obj} {es : List DictEntry} {n : Nat} {name : Str} {pl : Sem Bool} {Q : Value × List Value → Shared → Prop}
    (X : K.In s.heap) (I : PySem.W.InstAt s.heap x ox C (some (dictOf es n))) (hg : plainGet K C name = true) (hf : findIn K (.ref C) name = some (some (.ref f))) (ht : isFn K (.ref f) = true)
    (hl : getL name es = some none) (h : Q (.ref f, [.ref x]) s) : wpAny (model prog w) A (getMethod (.ref x) name pl) Q E s :=
  method_fn X I (plainGet_of hg).1 (plainGet_of hg).2 hf (beq_iff_eq.mp ht) (by show (lookIn name (dictOf es n)).map _ = _; rw [lookIn_dict, hl]; rfl) h

/-! the whole heap as the ledger: makes every rule that writes through a ledger a rule over any heap -/
def noObjs (h : Heap) : Heap := { h with objs := #[] }
theorem noObjs_get (h : Heap) (b : Addr) : (noObjs h).get? b = none := by
  cases e : (noObjs h).get? b with
  | none => rfl
  | some o => exact absurd (Heap.lt_size e) (Nat.not_lt_zero _)
def ledger (h : Heap) (L d : Addr) : List (Addr × Obj) := (List.range h.objs.size).filterMap fun a => if a = L ∨ a = d then none else (h.get? a).map fun o => (a, o)
theorem mem_ledger {h : Heap} {L d a : Addr} {o : Obj} : (a, o) ∈ ledger h L d ↔ a ≠ L ∧ a ≠ d ∧ h.get? a = some o := by
  unfold ledger
  rw [List.mem_filterMap]
  constructor
  · rintro ⟨b, _, e⟩
    split at e
    · cases e
    · rename_i hb
      obtain ⟨o', ho, e'⟩ := Option.map_eq_some_iff.mp e
      cases e'
      exact ⟨fun q => hb (.inl q), fun q => hb (.inr q), ho⟩
  · rintro ⟨n1, n2, ho⟩
    refine ⟨a, List.mem_range.mpr (Heap.lt_size ho), ?_⟩
    rw [if_neg (show ¬ (a = L ∨ a = d) from fun q => q.elim n1 n2), ho] <;> rfl
theorem news_ledger {h : Heap} {L d : Addr} {od : Obj} (hne : d ≠ L) (ho : h.get? d = some od) : News (noObjs h) L h ([] ++ (d, od) :: ledger h L d) := by
  rintro ⟨a, o⟩ hp
  rcases List.mem_cons.mp hp with e | hp
  · cases e
    exact ⟨ho, hne, noObjs_get _ _⟩
  · obtain ⟨n1, n2, e⟩ := mem_ledger.mp hp
    exact ⟨e, n1, noObjs_get _ _⟩
theorem fr_all {h : Heap} {L : Addr} {m : Str → Option Value} (n : h.Ns L m) : Fr (noObjs h) L h m :=
  ⟨n, fun b o e => (by rw [noObjs_get] at e; cases e), Nat.zero_le _⟩
/-- Upd of the head entry (for append_K, setItem_K ..) -/
theorem upd_ledger {h : Heap} {L d : Addr} {o o' : Obj} : Upd d o o' ((d, o) :: ledger h L d) ((d, o') :: ledger h L d) :=
  .head fun ⟨_, _⟩ hp => (mem_ledger.mp hp).2.1

/-- x.name = v over any heap: L is any namespace of the heap (the frame's, say): its map stays, its object is not told; all else but the dict stays -/
theorem set_field {x C dx L : Addr} {ox : Obj} {m : Str → Option Value} {es es' : List DictEntry} {n n' : Nat} {name : Str} {v : Value} {Q : Unit → Shared → Prop}
    (X : K.In s.heap) (I : PySem.W.InstAt s.heap x ox C (some (dictOf es n))) (hd : ox.dict = some dx) (hL : s.heap.Ns L m) (hne : dx ≠ L)
    (hs : findIn K (.ref C) "__setattr__" = some (some (.builtin "object.__setattr__"))) (hp : plainOver K C = true) (ht : takerIn K C name = some none) (hh : hasDictIn K C = true) (hl : (getL name es).isSome = true)
    (e : (putL name (PyData.keyHash w.params name) (.str name (s.toks + 1)) v es, putN name es n) = (es', n')) (hz : es'.length ≤ 1000)
    (h : ∀ h' : Heap, h'.Ns L m → h'.get? dx = some (dictOf es' n') → (∀ b o, b ≠ dx → b ≠ L → s.heap.get? b = some o → h'.get? b = some o) → Q () { s with heap := h', toks := s.toks + 2 }) :
    wpAny (model prog w) A (setAttr (.ref x) name v) Q E s := by
  obtain ⟨e1, e2⟩ := Prod.mk.inj e
  have hdx : s.heap.get? dx = some (dictOf es n) := by
    have := I.dict
    rw [hd] at this
    exact this
  refine set_plain X I hs (osa_dict (s := { s with toks := s.toks + 1 }) (h₀ := noObjs s.heap) (L := L) (m := m) (od := dictOf es n) (od' := dictOf es' n') (es := es') (n := n') (pre := []) (post := ledger s.heap L dx)
    (fr_all hL) (news_ledger hne hdx) X I hd hp ht hh hl (fun _ q => nomatch q) (fun ⟨_, _⟩ q => (mem_ledger.mp q).2.1) (by rw [putName_dict, e1, e2]) rfl hz fun h' F' N' => ?_)
  exact h h' F'.ns (N'.get (List.Mem.head _)) fun b o n1 n2 ho => N'.get (List.Mem.tail _ (mem_ledger.mpr ⟨n2, n1, ho⟩))
end
end Att

namespace L2
open PySem PySem.Spec PyProof.Rows

theorem vals_ints : ∀ {vs : List Value} {ns : List Int}, IntsAre vs ns → Vals (ns.map V.int) vs
  | _, _, .nil => .nil
  | _, _, .cons n t h => .cons ⟨t, rfl⟩ (vals_ints h)

/-- nothing is tracked but the script, known to the object (or it is an object of the module) -/
def Only (H : Hp) : Prop := ∀ b, H b = none ∨ ∃ o xs, H b = some (.frz o (.lst xs))

/-- THE HEAD: the law's promise, at the heap behind the top. F, the promise of the law's def, may use that base is part of the heap (so K.In base, base.Ns mainGlobals mg stand in Mod) -/
theorem law_call {P : Program} {w : World} {K : PySem.W.Frag} {mg mb : Str → Option Value} {CX : CXT} {k : Nat} {fa a : Addr} {fd : FuncData} {x : Str} {sp : Sp} {s₁ : Shared} {vs : List Value} {ns : List Int}
    (KX : K.In s₁.heap) (hns : s₁.heap.Ns mainGlobals mg) (hb : s₁.heap.Ns builtinsNs mb) (hbb : ∀ x : Str, x ≠ "__name__" → mb x = bootBuiltins x) (hlim : s₁.heap.NoLimit) (hg : s₁.gens = #[])
    (ha : s₁.heap.get? a = some { cls := .type "list", data := .seq vs.toArray }) (hi : IntsAre vs ns) (hl : ns.length ≤ sizeLine) (hr : Room k callerA)
    (F : ∀ base : Heap, K.In base → base.Ns mainGlobals mg → FnOk P w K mg base CX k fa fd [x] sp) (hbind : ∀ (s : Shared) (u : Value), BindsTo s fd ⟨[u], []⟩ [(x, u)])
    (hsp : ∀ H : Hp, Only H → SqL K H a (ns.map V.int) → sp [.ref a] H (fun v _ => v = .bl true) fun _ _ _ => False)
    (hCX : ∀ H e s', CX [] H s₁ (fun _ _ _ => False) e s' → False) :
    codeAny (model P w) callerA (.call (.ref fa) ⟨[.ref a], []⟩) (fun r s' => r = .ok (.ret (.bool true)) ∧ OldK s₁.heap s'.heap ∧ s'.os = s₁.os ∧ AllBare s'.gens) s₁ := by
  have rv := vals_ints hi
  have lenV := hi.length
  -- from an abstract heap in which nothing but the script may be tracked
  have core : ∀ H : Hp, Only H → SqL K H a (ns.map V.int) → HOk P w H s₁.heap → (∀ b, H b ≠ none → b = a) → (H a ≠ none → K.lookup a = none) →
      codeAny (model P w) callerA (.call (.ref fa) ⟨[.ref a], []⟩) (fun r s' => r = .ok (.ret (.bool true)) ∧ OldK s₁.heap s'.heap ∧ s'.os = s₁.os ∧ AllBare s'.gens) s₁ := by
    intro H hO hS hok hA hK
    have base_of : ∀ {b : Addr} {o : Obj}, s₁.heap.get? b = some o → H b = none → (hidT s₁.heap H).get? b = some o := fun e n => hidT_get e n
    have noA : ∀ {b : Addr} {o : Obj} {es : Array DictEntry} {ep : Nat}, s₁.heap.get? b = some o → o.data = .dict es ep → H b = none := fun {b o es ep} e d => by
      cases q : H b with
      | none => rfl
      | some u =>
        have e' : b = a := hA b (by rw [q]; simp)
        subst e'
        rw [ha] at e; cases e
        have d' : Data.seq vs.toArray _ = Data.dict es ep := d
        cases d'
    have nsK : ∀ {b : Addr} {m : Str → Option Value}, s₁.heap.Ns b m → (hidT s₁.heap H).Ns b m := fun {b m} ⟨o, es, ep, e, d, r⟩ => ⟨o, es, ep, base_of e (noA e d), d, r⟩
    have hKb : K.In (hidT s₁.heap H) := fun b o e => base_of (KX b o e) (by
      cases q : H b with
      | none => rfl
      | some u =>
        have e' : b = a := hA b (by rw [q]; simp)
        subst e'
        rw [hK (by rw [q]; simp)] at e; cases e)
    have hM : Mod K mg (hidT s₁.heap H) := ⟨hKb, nsK hns, ⟨mb, nsK hb, hbb⟩, let ⟨mc, h1, h2⟩ := hlim; ⟨mc, nsK h1, h2⟩⟩
    have e0 : Env0 P w K mg (hidT s₁.heap H) callerA [] s₁ H := ⟨rfl, hM, fun b o e => of_hidT e, Nat.le_of_eq (hidT_size _ _), trivial, fun b hb => absurd (show b ∈ ([] : List Addr) from hb) (by simp), hok, .of_eq hg⟩
    refine codeAny_mono ((F _ hKb (nsK hns)).run callerA [] s₁ H ⟨[.ref a], []⟩ [.ref a] [.ref a] _ _ hr e0 (hbind s₁ (.ref a)) (.cons rfl .nil) (hsp H hO hS)) fun r s' h => ?_
    cases r with
    | error e => exact (hCX H e s' h).elim
    | ok fl =>
      cases fl with
      | next => exact False.elim h
      | brk => exact False.elim h
      | cont => exact False.elim h
      | ret u =>
        obtain ⟨v, H', os, bare, un, hok', r', q⟩ := h
        have q' : v = .bl true := q
        subst q'
        obtain rfl : u = Value.bool true := r'
        refine ⟨rfl, OldK.of_keep fun b o e => ?_, os, bare⟩
        cases q : H b with
        | none => exact un.keep b o e q (by intro z; exact absurd (show b ∈ ([] : List Addr) from z) (by simp)) (by simp)
        | some u =>
          rcases hO b with z | ⟨ob, xs, z⟩
          · rw [q] at z; cases z
          · have z2 := un.frzs b ob _ z
            obtain ⟨e1, _⟩ := hok b _ z
            obtain ⟨e2, _⟩ := hok' b _ z2
            rw [e] at e1; cases e1
            exact e2
  cases hk : K.lookup a with
  | some o =>
    -- the script is one of the module's own objects
    have e := KX a o hk
    rw [ha] at e
    cases e
    refine core (fun _ => none) (fun _ => .inl rfl) (.inr ⟨_, vs.toArray, _, hk, rfl, rfl, rfl, by rw [List.size_toArray, lenV]; exact hl, by simpa using rv⟩) (fun b u z => by have z' : (none : Option HO) = some u := z; cases z') (fun b z => absurd rfl z) fun z => absurd rfl z
  | none =>
    refine core (fun b => if b = a then some (.frz { cls := .type "list", data := .seq vs.toArray } (.lst (ns.map V.int))) else none) (fun b => ?_) (.inl (.inr ⟨{ cls := .type "list", data := .seq vs.toArray }, if_pos rfl⟩)) (fun b u z => ?_) (fun b z => ?_) fun _ => hk
    · by_cases hb : b = a
      · exact .inr ⟨_, _, if_pos hb⟩
      · exact .inl (if_neg hb)
    · by_cases hb : b = a
      · have z' := (if_pos hb).symm.trans z
        cases z'
        subst hb
        exact ⟨ha, by rw [List.length_map]; exact hl, vs, _, rv, ha⟩
      · have z' := (if_neg hb).symm.trans z
        cases z'
    · by_cases hb : b = a
      · exact hb
      · exact absurd (if_neg hb) z
end L2

namespace L2
open PySem PySem.Spec PyProof.Rows

abbrev KOf {K : PySem.W.Frag} {h : Heap} (_ : K.In h) : PySem.W.Frag := K

/-- the goal that k_head leaves (case hc), from the law's promise. F gives the function object fd (K's own) once, then the promise over every base -/
theorem walk_of {l : PySem.W.OpenLaw} {n k : Nat} {q : Program} {loose : List Str} {XP : (Str → Option Value) → Heap → Prop} {YP : World → Heap → Prop} {d : DefRec} {K : Params → PySem.W.Frag} {CX : World → CXT} {sp : World → Sp} {x : Str}
    (hn : l.most = some n) (hn2 : n ≤ sizeLine) (hdf : d.params.defaults = []) (hr : Room k callerA)
    (hY : ∀ (w : World) (h : Heap), YP w h → (K w.params).In h)
    (F : ∀ (w : World) (mg : Str → Option Value) (fa : Addr) (h : Heap), (K w.params).In h → h.Ns mainGlobals mg → mg d.name = some (.ref fa) →
      ∃ fd : FuncData, (∀ (s : Shared) (u : Value), BindsTo s fd ⟨[u], []⟩ [(x, u)]) ∧
        ∀ base : Heap, (K w.params).In base → base.Ns mainGlobals mg → FnOk l.prog w (K w.params) mg base (CX w) k fa fd [x] (sp w))
    (hsp : ∀ (w : World) (H : Hp) (a : Addr) (ns : List Int), ns.length ≤ n → Only H → SqL (K w.params) H a (ns.map V.int) → sp w [.ref a] H (fun v _ => v = .bl true) fun _ _ _ => False)
    (hCX : ∀ (w : World) (H : Hp) (s : Shared) (e : Value) (s' : Shared), CX w [] H s (fun _ _ _ => False) e s' → False) :
    PySem.W.WalkO q loose XP YP l.row.toRowW d [] (fun f vs => PySem.call f vs) := by
  refine Att.attach_call hn hdf fun w s₀ s₁ mg mb fa o pm cd doc a vs ns G Y ho hd hcd hmg hobj hints hlen hg => ?_
  have KX := hY w _ Y
  obtain ⟨fd, hb, hF⟩ := F w mg fa _ KX G.T.g hmg
  exact law_call KX G.T.g G.T.b G.T.builtins G.T.nolimit hg hobj hints (Nat.le_trans hlen hn2) hr hF hb (fun H hO hS => hsp w H a ns hlen hO hS) fun H e s' => hCX w H s₁ e s'
/-- the same where the promise hangs on the written part alone: (sp := My.sp_law), no hole under a binder -/
theorem walk_ofK {l : PySem.W.OpenLaw} {n k : Nat} {q : Program} {loose : List Str} {XP : (Str → Option Value) → Heap → Prop} {YP : World → Heap → Prop} {d : DefRec} {K : Params → PySem.W.Frag} {CX : CXT} {sp : PySem.W.Frag → Sp} {x : Str}
    (hn : l.most = some n) (hn2 : n ≤ sizeLine) (hdf : d.params.defaults = []) (hr : Room k callerA)
    (hY : ∀ (w : World) (h : Heap), YP w h → (K w.params).In h)
    (F : ∀ (w : World) (mg : Str → Option Value) (fa : Addr) (h : Heap), (K w.params).In h → h.Ns mainGlobals mg → mg d.name = some (.ref fa) →
      ∃ fd : FuncData, (∀ (s : Shared) (u : Value), BindsTo s fd ⟨[u], []⟩ [(x, u)]) ∧
        ∀ base : Heap, (K w.params).In base → base.Ns mainGlobals mg → FnOk l.prog w (K w.params) mg base CX k fa fd [x] (sp (K w.params)))
    (hsp : ∀ (K : PySem.W.Frag) (H : Hp) (a : Addr) (ns : List Int), ns.length ≤ n → Only H → SqL K H a (ns.map V.int) → sp K [.ref a] H (fun v _ => v = .bl true) fun _ _ _ => False)
    (hCX : ∀ (H : Hp) (s : Shared) (e : Value) (s' : Shared), CX [] H s (fun _ _ _ => False) e s' → False) :
    PySem.W.WalkO q loose XP YP l.row.toRowW d [] (fun f vs => PySem.call f vs) :=
  walk_of (K := K) (CX := fun _ => CX) (sp := fun w => sp (K w.params)) hn hn2 hdf hr hY F (fun w H a ns h1 h2 h3 => hsp (K w.params) H a ns h1 h2 h3) fun _ H s e s' => hCX H s e s'
end L2

/- THE LAST THEOREM (shape; LID, My.* are yours):
   My.Adr: a structure of the addresses that your layer names (classes, functions); My.Txt K t: a structure (Prop) of the equations over K;
   My.txt_mk : {K} {implicit addresses ..} (e1 : nsIn K mainGlobals "law" = some (some (.ref f))) (e2 : K.lookup f = some ⟨oc, od, .func (fnOf "law" "law" params body scope dV kV doc pm an cdv ct), sl⟩) (e3 : codeIn K cdv "law" = true) .. : ∃ t, My.Txt K t

set_option maxRecDepth 100000 in
set_option maxHeartbeats 0 in
theorem PySem.Challenge.cw_LID_holds : PySem.Challenge.rw_LID.Holds := by
  w_on; o_law; k_head; (case hw => w_witness2)
  k_fill
  refine L2.walk_of (l := PySem.Challenge.rw_LID) (n := 63) (k := 40) (x := "script") (CX := fun w => ..) (sp := fun _ => My.sp_law) rfl (by decide) rfl ⟨rfl, by decide, by decide⟩ (fun w h Y => PySem.W.kIn_of Y) ?F ?S ?C
  case F =>
    intro w mg fa h KX G hmg
    have T : ∃ t, My.Txt (L2.KOf KX) t := by
      dsimp only [L2.KOf]                          -- K must stand as «<heap const> w.params» for k_is
      refine' My.txt_mk ?e1 ?e2 ?e3 ..
      (case e1 => PySem.W.k_is)                    -- in the order: a name -> its address -> its object -> its parts
      (case e2 => PySem.W.k_is)
      ..
    obtain ⟨t, T⟩ := T
    have e0 := hmg.symm.trans (PySem.W.mg_of KX G T.law)
    cases e0                                       -- fa is the law's own address
    exact ⟨_, fun s u => .of_eq rfl, fun base kb nb => My.law_fn T kb nb⟩     -- if «.of_eq rfl» comes too early: refine' ⟨_, ?b, fun base kb nb => My.law_fn T kb nb⟩; exact fun s u => .of_eq rfl
  case S => exact fun w H a ns hl hO hS => ..
  case C => exact ..
(the tactic k_is has no namespace: write k_is) -/

/-! SHORT WORDS over the layer: a def of the text, its body, what a loop and a test want. -/
namespace L2
open PySem PySem.Spec PyProof.Rows

/-! ### the text by places -/
/-- the j-th statement of a class's body -/
def inClass (s : Stmt) (j : Nat) : Stmt := match s with
  | .ClassDef _ _ _ body _ _ _ _ _ _ _ => body.getD j (.Pass ⟨0, 0, 0, 0⟩)
  | _ => .Pass ⟨0, 0, 0, 0⟩
def defArgs (s : Stmt) : Arguments := match s with
  | .FunctionDef _ a _ _ _ _ _ _ _ _ => a
  | _ => { posonlyargs := [], args := [], vararg := none, kwonlyargs := [], kw_defaults := [], kwarg := none, defaults := [] }
def defBody (s : Stmt) : List Stmt := match s with
  | .FunctionDef _ _ b _ _ _ _ _ _ _ => b
  | _ => []
def defScope (s : Stmt) : Scope := match s with
  | .FunctionDef _ _ _ _ _ _ sc _ _ _ => sc
  | _ => { kind := .function, names := [], isGenerator := false, isCoroutine := false }

/-! ### no exception leaves a def -/
abbrev CX0 : CXT := fun _ _ _ _ _ _ => False
abbrev E0 : XK := fun _ _ _ => False
theorem pass0 {X : Cx} : Passes CX0 X E0 := fun _ _ _ _ _ _ _ h => h.elim

/-! ### a def (or method) of the text as it stands behind the top -/
structure Fun (K : PySem.W.Frag) (x qual : Str) (st : Stmt) (f : Addr) (fd : FuncData) : Prop where
  ex : ∃ (oc : Value) (od : Option Addr) (kV doc pm : Value) (an : Option Addr) (cdv ct : Value) (osl : Array (Option Value)),
    fd = PySem.W.fnOf x qual (defArgs st) (defBody st) (defScope st) .none kV doc pm an cdv ct ∧ K.lookup f = some ⟨oc, od, .func fd, osl⟩ ∧ PySem.W.codeIn K cdv qual = true
  kp : PySem.W.keepIn K (.ref f) = true
section
variable {P : Program} {w : World} {K : PySem.W.Frag} {mg : Str → Option Value} {base : Heap}
/-- THE RULE for a def: its body as a term of rules, and the reading of that term -/
theorem Fun.ok {x qual : Str} {st : Stmt} {f : Addr} {fd : FuncData} {N ps : List Str} {k : Nat} {sp : Sp} (F : Fun K x qual st f fd) (S : FnScope N ps (defScope st)) (len : ∀ vs H Q E, sp vs H Q E → vs.length = ps.length)
    (hbody : ∀ (cdv : Value) (A : Around) (outer : List Env) (s : Shared) (H : Hp) (vs : List V) (Q : VK) (E : XK), Room k (A.deeper (envOfC qual (defScope st) s.heap.objs.size f cdv)) → sp vs H Q E →
      ∃ t, PSs (cxOf CX0 P w K mg base N qual (defScope st) f cdv A outer s H E).nox (defBody st) t ∧ t { nx := fun _ H' => Q .non H', rt := Q } (start N vs) H) : FnOk P w K mg base CX0 (k + 1) f fd ps sp := by
  obtain ⟨oc, od, kV, doc, pm, an, cdv, ct, osl, rfl, lk, hcd⟩ := F.ex
  refine fn_of lk hcd S len fun A outer s H vs Q E hr hsp => ?_
  obtain ⟨t, h, q⟩ := hbody cdv A outer s H vs Q E hr hsp
  exact ⟨t, h.nox, q⟩
/-- how its arguments bind (no defaults): h is «fun _ _ _ _ _ _ us hl => match us, hl with | [_, _], _ => rfl», one _ a parameter -/
theorem Fun.binds {x qual : Str} {st : Stmt} {f : Addr} {fd : FuncData} {ps : List Str} (F : Fun K x qual st f fd)
    (h : ∀ (kV doc pm : Value) (an : Option Addr) (cdv ct : Value) (us : List Value), us.length = ps.length → bindArgs (PySem.W.fnOf x qual (defArgs st) (defBody st) (defScope st) .none kV doc pm an cdv ct) ⟨us, []⟩ = pure (ps.zip us)) : Binds K fd ps [] := by
  obtain ⟨oc, od, kV, doc, pm, an, cdv, ct, osl, rfl, lk, hcd⟩ := F.ex
  exact .all (h kV doc pm an cdv ct)
theorem fun_mk {x qual : Str} {st : Stmt} {f : Addr} {oc : Value} {od an : Option Addr} {osl : Array (Option Value)} {kV doc pm cdv ct : Value} (l : K.lookup f = some ⟨oc, od, .func (PySem.W.fnOf x qual (defArgs st) (defBody st) (defScope st) .none kV doc pm an cdv ct), osl⟩)
    (c : PySem.W.codeIn K cdv qual = true) (k : PySem.W.keepIn K (.ref f) = true) : Fun K x qual st f (PySem.W.fnOf x qual (defArgs st) (defBody st) (defScope st) .none kV doc pm an cdv ct) := ⟨⟨oc, od, kV, doc, pm, an, cdv, ct, osl, rfl, l, c⟩, k⟩
end
theorem hu_of {A : Around} {k : Nat} (hr : Room k A) : A.units + 1 < cLine := Nat.lt_of_le_of_lt (Nat.add_le_add_left (by decide : 1 ≤ 64) _) hr.units
theorem small1000 {n : Nat} (h : n ≤ 1000) : n < sizeLine := Nat.lt_of_le_of_lt h (by decide)

/-! ### expressions in short: the name that stands in the i-th slot -/
section
variable {X : Cx}
theorem pv (i : Nat) {x : Str} {pos : Pos} (hN : X.N[i]? = some x := by rfl) (hv : Vis X.env.scope x := by first | exact Or.inl rfl | exact Or.inr (Or.inl rfl) | exact Or.inr (Or.inr rfl)) (hd : (x == ("__debug__" : Str)) = false := by decide)
    (hcd : (x == ("__classdict__" : Str)) = false := by decide) : PE X (.Name x pos) (tVar i) := pe_var hN hv hd hcd
end

/-! ### tests -/
theorem iteF {A B : Prop} (h : B) : if false = true then A else B := by
  rw [if_neg Bool.false_ne_true]
  exact h
theorem iteT {A B : Prop} (h : A) : if true = true then A else B := by
  rw [if_pos rfl]
  exact h
theorem ite2 {c A B : Prop} [Decidable c] (h1 : c → A) (h2 : ¬ c → B) : if c then A else B := by
  by_cases h : c
  · rw [if_pos h]
    exact h1 h
  · rw [if_neg h]
    exact h2 h
theorem iteNS {c A B : Prop} [Decidable c] (hc : c) (h : B) : if (!decide c) = true then A else B := by
  rw [decide_eq_true hc]
  exact iteF h

/-! ### heaps -/
/-- all that was tracked is as it was -/
def Same (H H' : Hp) : Prop := ∀ b o, H b = some o → H' b = some o
theorem Same.refl (H : Hp) : Same H H := fun _ _ h => h
theorem Same.trans {H H1 H2 : Hp} (a : Same H H1) (b : Same H1 H2) : Same H H2 := fun c o h => b c o (a c o h)
theorem Same.free {H H' : Hp} (e : Same H H') {l : Addr} (h : H' l = Option.none) : H l = Option.none := by
  cases q : H l with
  | none => rfl
  | some o =>
    rw [e l o q] at h
    cases h
theorem Same.seq {K : PySem.W.Frag} {H H' : Hp} {a : Addr} {xs : List V} (e : Same H H') (h : SqL K H a xs) : SqL K H' a xs := by
  rcases h with (h | ⟨o, h⟩) | h
  · exact .inl (.inl (e _ _ h))
  · exact .inl (.inr ⟨o, e _ _ h⟩)
  · exact .inr h

end L2
set_option Elab.async false
set_option linter.all false
set_option maxRecDepth 100000
/-! A comprehension over one clause, as a rule of the hand layer. -/
namespace L2
open PySem PySem.Spec PyProof.Rows

/-- the tests of a clause, one after the other -/
abbrev testsM (ifs : List Expr) (env : Env) : Sem Bool :=
  forIn ifs true fun c r => if r = true then do { let ok ← isTrue c env (eval c env); pure (ForInStep.yield ok) } else pure (ForInStep.yield r)

theorem comp_loop {prog : Program} {w : World} {A : Around} {R : Result → Shared → Prop} {s : Shared} {elt target iter : Expr}
    {ifs : List Expr} {scope : Scope} {pos : Pos} {it acc : Value} {env : Env} (I : Nat → Shared → Prop)
    (turn : ∀ n s, I n s → wpAny (model prog w) A (pyNext it) (fun r s1 => match r with
      | none => R (.ok .next) s1
      | some v => wpAny (model prog w) A (letOwnedTupleGo target it v) (fun _ s2 =>
          wpAny (model prog w) A (assign target env v) (fun _ s3 =>
            wpAny (model prog w) A (testsM ifs env) (fun ok s4 =>
              if ok = true then wpAny (model prog w) A (eval elt env) (fun x s5 =>
                wpAny (model prog w) A (call (.builtin "list.append") [acc, x]) (fun _ s6 => ∃ m, m < n ∧ I m s6)
                  (notedBy (model prog w) A env fun e s' => R (.error e) s') s5)
                  (notedBy (model prog w) A env fun e s' => R (.error e) s') s4
              else ∃ m, m < n ∧ I m s4)
              (notedBy (model prog w) A env fun e s' => R (.error e) s') s3)
            (notedBy (model prog w) A env fun e s' => R (.error e) s') s2)
          (notedBy (model prog w) A env fun e s' => R (.error e) s') s1)
      (notedBy (model prog w) A env fun e s' => R (.error e) s') s)
    (n : Nat) (h : I n s) :
    codeAny (model prog w) A (.compLoop (.ListComp elt [⟨target, iter, ifs, 0⟩] scope pos) 0 it acc env) R s := by
  refine codeAny_loop rfl I (fun n s hI => ?_) n h
  show wpAny _ A ((compTurn (.ListComp elt [⟨target, iter, ifs, 0⟩] scope pos) 0 it acc env).onRaise
    (fun x => do noteFrame x env; theTreesLotGoes x)) _ _ s
  refine wpAny_noted ?_
  rw [compTurn_list]
  refine wpAny_bind (wpAny_standAt (wpAny_bind (wpAny_mono (turn n s hI) (fun r s1 h1 => ?_) fun _ _ z => z)))
  cases r with
  | none => exact wpAny_pure h1
  | some v =>
    refine wpAny_bind (wpAny_mono h1 (fun _ s2 h2 => ?_) fun _ _ z => z)
    refine wpAny_bind (wpAny_mono h2 (fun _ s3 h3 => wpAny_bind (wpAny_mono h3 (fun ok s4 h4 => ?_) fun _ _ z => z)) fun _ _ z => z)
    cases ok with
    | false => exact wpAny_pure ⟨rfl, h4⟩
    | true =>
      refine wpAny_bind (wpAny_bind (wpAny_mono h4 (fun x s5 h5 => wpAny_bind (wpAny_mono h5 (fun _ s6 h6 => ?_) fun _ _ z => z)) fun _ _ z => z))
      exact wpAny_pure (wpAny_pure ⟨rfl, h6⟩)

/-! ### the block's names -/
/-- the cells that a comprehension's block captures -/
def capCells (env : Env) : List (Str × NameKind) → List (Str × Addr) → List (Str × Addr)
  | [], acc => acc
  | (n, k) :: r, acc => capCells env r (if k == .free then match env.cells.lookup n with | some c => (n, c) :: acc | none => acc else acc)

theorem closure_eq {env : Env} : ∀ (names : List (Str × NameKind)) (acc : List (Str × Addr)), (∀ x ∈ names, x.2 = .free → ∃ c, env.cells.lookup x.1 = some c) →
    (forIn names acc fun (x : Str × NameKind) (r : List (Str × Addr)) => (if (x.2 == NameKind.free) = true then do { let c ← cellOf env x.1; pure (ForInStep.yield ((x.1, c) :: r)) } else pure (ForInStep.yield r) : Sem (ForInStep (List (Str × Addr))))) = (pure (capCells env names acc) : Sem _)
  | [], acc, _ => by rw [List.forIn_nil]; rfl
  | (n, k) :: r, acc, h => by
    rw [List.forIn_cons]
    have hr : ∀ x ∈ r, x.2 = .free → ∃ c, env.cells.lookup x.1 = some c := fun x hx => h x (List.mem_cons_of_mem _ hx)
    by_cases hk : k = .free
    · subst hk
      obtain ⟨c, hc⟩ := h (n, .free) List.mem_cons_self rfl
      have hc' : env.cells.lookup n = some c := hc
      simp only [capCells, beq_self_eq_true, if_true, cellOf, hc', pure_bind]
      exact closure_eq r _ hr
    · have hb : (k == NameKind.free) = false := by simpa using hk
      simp only [capCells, hb, Bool.false_eq_true, if_false, pure_bind]
      exact closure_eq r _ hr

theorem closureFor_eq {scope : Scope} {env : Env} (h : ∀ x ∈ scope.names, x.2 = .free → ∃ c, env.cells.lookup x.1 = some c) :
    closureFor scope env = pure (capCells env scope.names []) := by
  unfold closureFor
  exact congrArg (fun m : Sem (List (Str × Addr)) => m >>= fun z => pure z) (closure_eq scope.names [] h)
theorem cap_from {env : Env} : ∀ (names : List (Str × NameKind)) (acc : List (Str × Addr)) {x : Str} {c : Addr}, (capCells env names acc).lookup x = some c →
    env.cells.lookup x = some c ∨ acc.lookup x = some c
  | [], acc, x, c, h => .inr h
  | (n, k) :: r, acc, x, c, h => by
    rcases cap_from r _ h with q | q
    · exact .inl q
    · by_cases hk : (k == NameKind.free) = true
      · rw [if_pos hk] at q
        cases e : env.cells.lookup n with
        | none => rw [e] at q; exact .inr q
        | some c' =>
          rw [e] at q
          simp only [List.lookup_cons] at q
          cases hx : x == n with
          | true =>
            rw [hx] at q
            cases q
            have : x = n := by simpa using hx
            subst this
            exact .inl e
          | false => rw [hx] at q; exact .inr q
      · rw [if_neg hk] at q
        exact .inr q
theorem cap_stay {env : Env} {x : Str} {c : Addr} (hc : env.cells.lookup x = some c) : ∀ (names : List (Str × NameKind)) (acc : List (Str × Addr)),
    acc.lookup x = some c → (capCells env names acc).lookup x = some c
  | [], acc, h => h
  | (n, k) :: r, acc, h => by
    refine cap_stay hc r _ ?_
    by_cases hk : (k == NameKind.free) = true
    · rw [if_pos hk]
      cases e : env.cells.lookup n with
      | none => exact h
      | some c' =>
        simp only [List.lookup_cons]
        cases hx : x == n with
        | true =>
          have : x = n := by simpa using hx
          subst this
          rw [hc] at e
          exact e.symm
        | false => exact h
    · rw [if_neg hk]; exact h
theorem cap_has {env : Env} {x : Str} {c : Addr} (hc : env.cells.lookup x = some c) : ∀ (names : List (Str × NameKind)) (acc : List (Str × Addr)),
    (x, NameKind.free) ∈ names → (capCells env names acc).lookup x = some c
  | [], _, h => absurd h (by simp)
  | (n, k) :: r, acc, h => by
    rcases List.mem_cons.mp h with e | h
    · cases e
      refine cap_stay hc r _ ?_
      rw [if_pos (by simp), hc]
      simp [List.lookup_cons]
    · exact cap_has hc r _ h
theorem relabel_lookup {sc : Scope} {env : Env} {x : Str} {k : NameKind} (h : (relabel sc env).names.lookup x = some k) :
    ∃ k0, sc.names.lookup x = some k0 ∧ (k = k0 ∨ (k = .cell ∧ k0 = .free)) := by
  unfold relabel at h
  dsimp only at h
  generalize sc.names = ns at h ⊢
  induction ns with
  | nil => simp at h
  | cons a r ih =>
    obtain ⟨n, k1⟩ := a
    simp only [List.map_cons] at h
    by_cases hc : (k1 == NameKind.free && env.scope.kind == .function && env.kindOf n == some .cell) = true
    · rw [if_pos hc] at h
      simp only [List.lookup_cons] at h ⊢
      cases hx : x == n with
      | true =>
        rw [hx] at h
        cases h
        refine ⟨k1, rfl, .inr ⟨rfl, ?_⟩⟩
        simp only [Bool.and_eq_true] at hc
        simpa using hc.1.1
      | false => rw [hx] at h; exact ih h
    · rw [if_neg hc] at h
      simp only [List.lookup_cons] at h ⊢
      cases hx : x == n with
      | true => rw [hx] at h; cases h; exact ⟨_, rfl, .inl rfl⟩
      | false => rw [hx] at h; exact ih h
theorem relabel_free {sc : Scope} {env : Env} {x : Str} (h : sc.names.lookup x = some .free) :
    (relabel sc env).names.lookup x = some .cell ∨ (relabel sc env).names.lookup x = some .free := by
  unfold relabel
  dsimp only
  generalize sc.names = ns at h ⊢
  induction ns with
  | nil => simp at h
  | cons a r ih =>
    obtain ⟨n, k1⟩ := a
    simp only [List.map_cons]
    simp only [List.lookup_cons] at h
    by_cases hc : (k1 == NameKind.free && env.scope.kind == .function && env.kindOf n == some .cell) = true
    · rw [if_pos hc]
      simp only [List.lookup_cons]
      cases hx : x == n with
      | true => exact .inl rfl
      | false => rw [hx] at h; exact ih h
    · rw [if_neg hc]
      simp only [List.lookup_cons]
      cases hx : x == n with
      | true => rw [hx] at h; exact .inr h
      | false => rw [hx] at h; exact ih h

/-- what a comprehension's block may be: its names N', of which slot i is the caller's slot j where cap says so -/
structure CS (X : Cx) (sc : Scope) (N' : List Str) (cap : List (Option Nat)) : Prop where
  kind : sc.kind = .function
  nocell : ∀ y ∈ sc.names, y.2 ≠ .cell
  loc : ∀ x ∈ sc.names, x.2 = .local → sc.names.lookup x.1 = some .local
  fr : ∀ x ∈ sc.names, x.2 = .free → X.env.kindOf x.1 = some .cell ∨ X.env.kindOf x.1 = some .free
  len : cap.length = N'.length
  capt : ∀ (i j : Nat), cap[i]? = some (some j) → ∃ x, N'[i]? = some x ∧ X.N[j]? = some x ∧ sc.names.lookup x = some .free

def capSt (cap : List (Option Nat)) (σ : St) : St := cap.map fun o => match o with | some j => (σ[j]?).join | none => none

/-- the block's context -/
def Cx.comp (X : Cx) (N' : List Str) (sc : Scope) (s : Shared) (H : Hp) (fp : List Addr) (xe : Value → Shared → Prop) : Cx :=
  { X with N := N', s₀ := s, H₀ := H, env := compEnvC sc (capCells X.env sc.names []) s.heap.objs.size X.env, outer := X.stack, stack := X.stack, ex := fp, fn := fun _ => false, pn := [], xe := xe }

section
variable {X : Cx} {pins : List (Addr × Obj)} {σ : St} {H : Hp} {s : Shared} {sc : Scope} {N' : List Str} {cap : List (Option Nat)} {fp : List Addr} {xe : Value → Shared → Prop} {h' : Heap}

theorem CS.cells (S : CS X sc N' cap) (I : Inv X pins σ H s) : ∀ x ∈ sc.names, x.2 = .free → ∃ c, X.env.cells.lookup x.1 = some c := fun x hx hf =>
  I.ok.has x.1 (S.fr x hx hf)

theorem Inv.compIn {t : Nat} (I : Inv X pins σ H s) (S : CS X sc N' cap) (hf : ∀ b ∈ fp, FpOk X pins H b) (hlt : ∀ b ∈ fp, b < s.heap.objs.size)
    (hns : h'.Ns s.heap.objs.size fun _ => none) (hk : ∀ b o, s.heap.get? b = some o → h'.get? b = some o) :
    Inv (X.comp N' sc s H fp xe) [] (capSt cap σ) H { s with heap := h', toks := t } := by
  have hfrom : ∀ {x c}, (capCells X.env sc.names []).lookup x = some c → X.env.cells.lookup x = some c := fun {x c} q => by
    rcases cap_from _ _ q with z | z
    · exact z
    · simp at z
  have hlook : ∀ {x}, ((relabel sc X.env).names.lookup x = some .cell ∨ (relabel sc X.env).names.lookup x = some .free) → sc.names.lookup x = some .free := fun {x} q => by
    rcases q with q | q
    · obtain ⟨k0, e, z⟩ := relabel_lookup q
      rcases z with z | z
      · subst z; exact absurd rfl (S.nocell _ (PySem.mem_of_lookup e))
      · rw [e, z.2]
    · obtain ⟨k0, e, z⟩ := relabel_lookup q
      rcases z with z | z
      · rw [e, z]
      · cases z.1
  refine ⟨⟨I.ok.mod, ?_, I.ok.glob, I.ok.blt, Nat.le_refl _, fun x y c h1 h2 => I.ok.inj x y c (hfrom h1) (hfrom h2), fun x hx => ?_, fun x c q => absurd (show false = true from q) (by decide), I.ok.hd, I.ok.frames, .inl rfl, fun b hb => ⟨?_, fun x c q => ?_⟩,
      I.bs, Nat.le_trans I.ok.bsz I.sz, fun b o e hb => ?_, fun b hb hz => ?_, I.stack, I.stkFree⟩,
    rfl, I.bare, Un.kept hk, ⟨_, hns, fun i x v h1 h2 h3 => ?_⟩, fun x c q => ?_, I.hok.fresh (Nat.le_refl _), fun x c q => I.freeC x c (hfrom q), fun p hp => absurd (show p ∈ ([] : List (Addr × Obj)) from hp) (by simp), I.hok.kept hk, ?_⟩
  · exact S.kind
  · have e := hlook hx
    have e2 := PySem.mem_of_lookup e
    obtain ⟨c, hc⟩ := I.ok.has x (S.fr _ e2 rfl)
    exact ⟨c, cap_has hc _ _ e2⟩
  · exact Nat.ne_of_lt (hlt b hb)
  · exact (hf b hb).2.2.2.2.1 x c (hfrom q)
  · rcases (hf b hb).2.2.2.1 with z | z
    · exact I.ok.noex b o e z
    · exact absurd (Nat.lt_of_lt_of_le (Heap.lt_size e) (Nat.le_trans I.ok.bsz z)) (Nat.lt_irrefl _)
  · rcases List.mem_cons.mp (I.stkSub b hz) with z | z
    · exact (hf b hb).2.1 z
    · exact (hf b hb).2.2.1 z
  · have h2' : (cap.map fun o => match o with | some j => (σ[j]?).join | none => none)[i]? = some (some v) := h2
    rw [List.getElem?_map] at h2'
    cases e : cap[i]? with
    | none => rw [e] at h2'; cases h2'
    | some o =>
      rw [e] at h2'
      cases o with
      | none => simp at h2'
      | some j =>
        have hj : σ[j]? = some (some v) := by
          have h4 : (σ[j]?).join = some v := by simpa using h2'
          cases e2 : σ[j]? with
          | none => rw [e2] at h4; simp at h4
          | some o2 => rw [e2] at h4; simp at h4; rw [h4]
        obtain ⟨y, n1, n2, n3⟩ := S.capt i j e
        have ey : y = x := by
          have h1' : N'[i]? = some x := h1
          rw [n1] at h1'; exact Option.some.inj h1'
        subst ey
        have hm := PySem.mem_of_lookup n3
        have hkind := S.fr _ hm rfl
        obtain ⟨m, hn, hl⟩ := I.loc
        have vis : Vis X.env.scope y := by
          rcases hkind with z | z
          · exact .inr (.inl z)
          · exact .inr (.inr z)
        obtain ⟨u, r, l⟩ := hl j y v n2 hj vis
        refine ⟨u, r, .inr ?_⟩
        rcases l with ⟨z, _⟩ | ⟨_, c, hc, hcell⟩
        · have z' : X.env.kindOf y = some .local := z
          rcases hkind with q | q <;> (have q' : X.env.kindOf y = _ := q; rw [z'] at q'; cases q')
        · obtain ⟨o, ho, hd⟩ := hcell
          exact ⟨relabel_free n3, c, cap_has hc _ _ hm, o, hk c o ho, hd⟩
  · obtain ⟨v, o, ho, hd⟩ := I.cell x c (hfrom q)
    exact ⟨v, o, hk c o ho, hd⟩
  · show (cap.map _).length = N'.length
    rw [List.length_map]; exact S.len

theorem Inv.compOut {pins' : List (Addr × Obj)} {σ' : St} {H' : Hp} {s' : Shared} (I : Inv X pins σ H s) (hf : ∀ b ∈ fp, FpOk X pins H b)
    (J : Inv (X.comp N' sc s H fp xe) pins' σ' H' s') (hs : Heap.SameBut s.heap.objs.size s'.heap h') : Inv X pins σ H' { s' with heap := h' } := by
  have hu : Un (frs X.stack) fp H H' s.heap s'.heap := J.base
  have hC : H' s.heap.objs.size = none := J.free
  have lt : ∀ {b : Addr} {o : Obj}, s.heap.get? b = some o → b ≠ s.heap.objs.size := fun e => Nat.ne_of_lt (Heap.lt_size e)
  refine I.call' (s' := { s' with heap := h' }) (ch := fp) J.os ⟨fun b o e n h1 h2 => ?_, fun b o e n h1 h2 => ?_, hu.free, fun b o e h1 => ?_, hu.tups, hu.frzs, hu.tbls⟩ (fun b u e => ?_) J.bare (fun b hb => ⟨(hf b hb).2.2.2.1, (hf b hb).2.1, (hf b hb).2.2.2.2.1, (hf b hb).2.2.2.2.2⟩)
  · exact (hs.2 b (lt e)).trans (hu.keep b o e n h1 h2)
  · obtain ⟨sl, q⟩ := hu.slot b o e n h1 h2
    exact ⟨sl, (hs.2 b (lt e)).trans q⟩
  · obtain ⟨o', q⟩ := hu.there b o e h1
    exact ⟨o', (hs.2 b (lt e)).trans q⟩
  · refine (J.hok b u e).stay (fun c v hc q => ?_) (fun _ q => q) fun _ _ q => q
    have ne : c ≠ s.heap.objs.size := by
      rintro rfl
      rcases hc with z | z
      · rw [← z, hC] at e; cases e
      · rw [hC] at z; cases z
    exact (hs.2 c ne).trans q
end
end L2
set_option Elab.async false
set_option linter.all false
set_option maxRecDepth 100000
namespace L2
open PySem PySem.Spec PyProof.Rows

/-- the tests of a clause -/
def PTs (X : Cx) (ifs : List Expr) (t : TT) : Prop :=
  ∀ (pins : List (Addr × Obj)) (s : Shared) (σ : St) (H : Hp) (Q : Bool → Hp → Prop), Inv X pins σ H s → t σ H Q → wpAny (model X.prog X.w) X.A (testsM ifs X.env) (TP X pins σ Q) X.xe s
def tTests0 : TT := fun _ H Q => Q true H
def tTests (t r : TT) : TT := fun σ H Q => t σ H fun b H1 => if b = true then r σ H1 Q else Q false H1
theorem tests_off {X : Cx} {E : Value → Shared → Prop} {Q : Bool → Shared → Prop} : ∀ {ifs : List Expr} {s : Shared}, Q false s →
    wpAny (model X.prog X.w) X.A (forIn ifs false fun c r => if r = true then do { let ok ← isTrue c X.env (eval c X.env); pure (ForInStep.yield ok) } else pure (ForInStep.yield r)) Q E s
  | [], s, h => by rw [List.forIn_nil]; exact wpAny_pure h
  | c :: r, s, h => by
    rw [List.forIn_cons]
    refine wpAny_bind ?_
    rw [if_neg (by decide)]
    exact wpAny_pure (tests_off h)
theorem pts_nil {X : Cx} : PTs X [] tTests0 := fun pins s σ H Q I h => by
  unfold testsM
  rw [List.forIn_nil]
  exact wpAny_pure ⟨H, I, h⟩
theorem pts_cons {X : Cx} {c : Expr} {r : List Expr} {t u : TT} (h1 : PT X c t) (h2 : PTs X r u) : PTs X (c :: r) (tTests t u) := fun pins s σ H Q I h => by
  unfold testsM
  rw [List.forIn_cons]
  refine wpAny_bind ?_
  rw [if_pos rfl]
  refine wpAny_bind (thn (h1 pins s σ H _ I h) fun b s1 ⟨H1, I1, q1⟩ => wpAny_pure ?_)
  cases b with
  | true => exact h2 pins s1 σ H1 Q I1 (by simpa using q1)
  | false => exact tests_off ⟨H1, I1, by simpa using q1⟩

/-- the comprehension's reading -/
def compRun (cap : List (Option Nat)) (g : TG) (ti : TT) (te : TE) (σ : St) (J : It) (D : Addr) (Q : Hp → Prop) (H : Hp) : Prop :=
  ∃ W : Nat → Nat → Hp → Prop, (∃ m, W 0 m H) ∧ ∀ i m H, W i m H →
    (J.stop i H ∧ Q H) ∨ (J.go i H ∧ ∀ x H1, J.yld i H x H1 → g x (capSt cap σ) H1 fun σ2 H2 => (∀ (j : Nat) v, (capSt cap σ)[j]? = some (some v) → σ2[j]? = some (some v)) ∧
      ti σ2 H2 fun ok H3 => if ok = true then te σ2 H3 fun v H4 => ∃ acc, H4 D = some (.lst acc) ∧ acc.length < sizeLine ∧ ∃ m', m' < m ∧ W (i + 1) m' (upd H4 D (.lst (acc ++ [v])))
        else ∃ m', m' < m ∧ W (i + 1) m' H3)

section
variable {X : Cx} {elt tg iter : Expr} {ifs : List Expr} {sc : Scope} {pos : Pos} {N' : List Str} {cap : List (Option Nat)} {g : TG} {ti : TT} {te : TE}

theorem comp_core {pins : List (Addr × Obj)} {σ : St} {H2 : Hp} {s2 : Shared} {it : Addr} {fp : List Addr} {tn : Nat → Heap → Prop} {J : It} {E : Value → Shared → Prop} {RR : Value → Addr → Result → Shared → Prop} {Q : Addr → Hp → Prop}
    (hc : X.calm = true) (S : CS X sc N' cap) (hg : ∀ s H fp xe, PG (X.comp N' sc s H fp xe) tg g) (ht : ∀ s H fp xe, PTs (X.comp N' sc s H fp xe) ifs ti) (he : ∀ s H fp xe, PE (X.comp N' sc s H fp xe) elt te)
    (I2 : Inv X pins σ H2 s2) (T : Turn X.prog X.w X.K tg J fp it tn) (st2 : tn 0 s2.heap) (f2 : ∀ b ∈ fp, FpOk X pins H2 b)
    (hq : ∀ D, H2 D = none → compRun cap g ti te σ J D (Q D) (upd H2 D (.lst [])))
    (hRR : ∀ (D : Addr) (s3 : Shared) (H3 : Hp) (xe : Value → Shared → Prop) (H' : Hp) (pins' : List (Addr × Obj)) (σ' : St) (s' : Shared), Inv X pins σ H3 s3 → (∀ b ∈ fp, FpOk X pins H3 b) → Inv (X.comp N' sc s3 H3 fp xe) pins' σ' H' s' → Q D H' → RR (.ref D) s3.heap.objs.size (.ok .next) s') :
    wpAny (model X.prog X.w) X.A (newList []) (fun acc s3 => wpAny (model X.prog X.w) X.A (newFunctionEnv sc X.env.globals (capCells X.env sc.names []) [] X.env.qual none .none (some X.env)) (fun cenv s4 =>
      codeAny (model X.prog X.w) X.A (.compStart (.ListComp elt [⟨tg, iter, ifs, 0⟩] sc pos) 0 (.ref it) acc { cenv with scope := relabel sc X.env }) (RR acc cenv.locals) s4) E s3) E s2 := by
  refine wpAny_newObj_type ?_
  have I3 := I2.lnew (ys := []) (its := []) (t' := s2.toks) .nil (Nat.zero_le _)
  have hfr : H2 s2.heap.objs.size = none := I2.fresh
  have lt2 : ∀ b ∈ fp, b < s2.heap.objs.size := fun b hb => by
    obtain ⟨o, e, _⟩ := T.obj _ _ st2 b hb
    exact Heap.lt_size e
  generalize hD : s2.heap.objs.size = D at I3 hfr lt2 ⊢
  have r0 := hq D hfr
  generalize hs3 : ({ s2 with heap := s2.heap.push { cls := .type "list", data := .seq ([] : List Value).toArray }, toks := s2.toks } : Shared) = s3 at I3
  have f3 : ∀ b ∈ fp, FpOk X pins (upd H2 D (.lst [])) b := fun b hb => ⟨by rw [upd_ne (Nat.ne_of_lt (lt2 b hb))]; exact (f2 b hb).1, (f2 b hb).2⟩
  have kp3 : ∀ b o, s2.heap.get? b = some o → s3.heap.get? b = some o := fun b o e => by rw [← hs3]; exact Heap.get?_push_of_some _ e
  have st3 : tn 0 s3.heap := T.keep _ _ _ st2 fun b hb o e => kp3 b o e
  have lt3 : ∀ b ∈ fp, b < s3.heap.objs.size := fun b hb => by
    obtain ⟨o, e, _⟩ := T.obj _ _ st3 b hb
    exact Heap.lt_size e
  generalize upd H2 D (.lst []) = H3 at I3 r0 f3
  refine wpAny_newFunctionEnv S.nocell (fun x hx => absurd hx (by simp)) (fun h1 hns hsb => ?_) S.kind
  have kp4 : ∀ b o, s3.heap.get? b = some o → h1.get? b = some o := fun b o e => by
    rw [hsb.2 b (Nat.ne_of_lt (Heap.lt_size e))]
    exact Heap.get?_push_of_some _ e
  have hns' : h1.Ns s3.heap.objs.size fun _ => none := hns
  have st4 : tn 0 h1 := T.keep _ _ _ st3 fun b hb o e => kp4 b o e
  have frees : ∀ b ∈ fp, H3 b = none := fun b hb => (f3 b hb).1
  -- the loop
  have loop : codeAny (model X.prog X.w) X.A (.compLoop (.ListComp elt [⟨tg, iter, ifs, 0⟩] sc pos) 0 (.ref it) (.ref D) (compEnvC sc (capCells X.env sc.names []) s3.heap.objs.size X.env))
      (RR (.ref D) s3.heap.objs.size) { s3 with heap := h1, toks := s3.toks + ([] : List (Str × Value)).length } := by
    let xe : Value → Shared → Prop := notedBy (model X.prog X.w) X.A (compEnvC sc (capCells X.env sc.names []) s3.heap.objs.size X.env) fun e s' => RR (.ref D) s3.heap.objs.size (.error e) s'
    have I4 : Inv (X.comp N' sc s3 H3 fp xe) [] (capSt cap σ) H3 { s3 with heap := h1, toks := s3.toks + ([] : List (Str × Value)).length } := I3.compIn S f3 lt3 hns' kp4
    have stat : ∀ {H' : Hp}, (∀ b ∈ fp, H' b = none) → ∀ b ∈ fp, FpOk (X.comp N' sc s3 H3 fp xe) [] H' b := fun hn b hb => by
      obtain ⟨q1, q2⟩ := I4.ok.exf b hb
      exact ⟨hn b hb, q1, I4.ok.exfs b hb, .inl hb, q2, fun p hp => absurd (show p ∈ ([] : List (Addr × Obj)) from hp) (by simp)⟩
    obtain ⟨W, ⟨m0, w0⟩, turn⟩ := r0
    refine comp_loop (fun n s' => ∃ i H', Inv (X.comp N' sc s3 H3 fp xe) [] (capSt cap σ) H' s' ∧ tn i s'.heap ∧ (∀ b ∈ fp, H' b = none) ∧ W i n H') ?_ m0 ⟨0, H3, I4, st4, frees, w0⟩
    rintro n s5 ⟨i, H5, I5, st5, fr5, w5⟩
    rcases turn i n H5 w5 with ⟨stop, qn⟩ | ⟨go, step⟩
    · refine thn (T.done (X.comp N' sc s3 H3 fp xe) rfl rfl rfl hc i [] s5 _ H5 xe I5 (stat fr5) st5 stop) fun r s6 ⟨hr, I6⟩ => ?_
      subst hr
      exact hRR D s3 H3 xe H5 [] _ s6 I3 f3 I6 qn
    · refine thn (T.item (X.comp N' sc s3 H3 fp xe) rfl rfl rfl hc i [] s5 _ H5 xe I5 (stat fr5) st5 go) fun r s6 ⟨u, hr, h6⟩ => ?_
      subst hr
      refine thn h6 fun _ s7 ⟨x, H7, I7, r7, y7, st7, fr7⟩ => ?_
      have I7' := I7.pinned (stat fr7) (T.obj _ _ st7)
      refine thn (hg s3 H3 fp xe _ s7 _ H7 x u _ I7' r7 (step x H7 y7)) fun _ s8 ⟨σ8, H8, I8, k8, q8⟩ => ?_
      refine thn (ht s3 H3 fp xe _ s8 σ8 H8 _ I8 q8) fun ok s9 ⟨H9, I9, q9⟩ => ?_
      have again : ∀ {σa : St} {Ha : Hp} {sa : Shared}, Inv (X.comp N' sc s3 H3 fp xe) ([] ++ pinsAt fp s7.heap) σa Ha sa → (∀ (j : Nat) v, (capSt cap σ)[j]? = some (some v) → σa[j]? = some (some v)) →
          Inv (X.comp N' sc s3 H3 fp xe) [] (capSt cap σ) Ha sa ∧ tn (i + 1) sa.heap ∧ ∀ b ∈ fp, Ha b = none := fun {σa Ha sa} Ia ka => by
        refine ⟨Ia.unpinned.weak (I5.len.trans Ia.len.symm) ka, T.keep _ _ _ st7 fun b hb o e => (Ia.pin (b, o) (List.mem_append_right _ (List.mem_append_right _ (mem_pinsAt hb e)))).1, fun b hb => ?_⟩
        obtain ⟨o, e, d⟩ := T.obj _ _ st7 b hb
        exact (Ia.pin (b, o) (List.mem_append_right _ (List.mem_append_right _ (mem_pinsAt hb e)))).2.1
      cases ok with
      | false =>
        have q9' : ∃ m', m' < n ∧ W (i + 1) m' H9 := by simpa using q9
        obtain ⟨m', hm, w9⟩ := q9'
        obtain ⟨a1, a2, a3⟩ := again I9 k8
        exact ⟨m', hm, i + 1, H9, a1, a2, a3, w9⟩
      | true =>
        rw [if_pos rfl] at q9
        refine thn (he s3 H3 fp xe _ s9 σ8 H9 _ I9 q9) fun v sa ⟨y, Ha, Ia, ra, acc, ea, za, m', hm, wa⟩ => ?_
        refine thn (mt_append (X := X.comp N' sc s3 H3 fp xe) _ sa σ8 Ha (.ref D) [y] (.ref D) [v] (fun _ H' => H' = upd Ha D (.lst (acc ++ [y]))) Ia rfl (.cons ra .nil) ⟨D, acc, y, rfl, rfl, ea, za, rfl⟩) fun _ sb ⟨_, Hb, Ib, _, eb⟩ => ?_
        subst eb
        obtain ⟨a1, a2, a3⟩ := again Ib k8
        exact ⟨m', hm, i + 1, _, a1, a2, a3, wa⟩
  exact codeAny_compStart_list loop (T.self _ 0 _ _ _ st4 loop)

/-- [elt for tg in iter if ..] -/
def tComp (cap : List (Option Nat)) (wi : TI) (g : TG) (ti : TT) (te : TE) : TE := fun σ H Q => wi σ H fun J H1 => ∀ D, H1 D = none → compRun cap g ti te σ J D (fun H' => Q (.ref D) H') (upd H1 D (.lst []))

theorem pe_comp {wi : TI} (hc : X.calm = true) (S : CS X sc N' cap) (hi : PI X tg iter wi) (hg : ∀ s H fp xe, PG (X.comp N' sc s H fp xe) tg g) (ht : ∀ s H fp xe, PTs (X.comp N' sc s H fp xe) ifs ti)
    (he : ∀ s H fp xe, PE (X.comp N' sc s H fp xe) elt te) (hs : ∀ x, foldedSetIterable iter X.env x = pure x := by intro _; rfl) : PE X (.ListComp elt [⟨tg, iter, ifs, 0⟩] sc pos) (tComp cap wi g ti te) := by
  intro pins s σ H Q I h
  rw [eval_ListComp]
  refine wpAny_comprehension_free (use := none) rfl hs (closureFor_eq (S.cells I)) S.kind S.loc (thn (hi pins s σ H _ I h) fun v s1 h1 => thn h1 fun itv s2 h2 => ?_)
  obtain ⟨it, fp, tn, J, H2, e, I2, T, st2, f2, rq⟩ := h2
  subst e
  refine comp_core (RR := fun acc C => compPost (model X.prog X.w) X.A X.xe none (EP X pins σ Q) acc C) (Q := fun D H' => Q (.ref D) H') hc S hg ht he I2 T st2 f2 rq ?_
  intro D s3 H3 xe H' pins' σ' s' I3 f3 J3 q
  obtain ⟨m, hn, _⟩ := id J3.loc
  exact ⟨m, hn, fun h' hs => ⟨.ref D, H', I3.compOut f3 J3 hs, rfl, q⟩⟩

/-- y = [elt for tg in iter if ..], y a plain local name -/
def sComp (cap : List (Option Nat)) (wi : TI) (g : TG) (ti : TT) (te : TE) (i : Nat) : TS := fun D σ H => wi σ H fun J H1 => ∀ d, H1 d = none → compRun cap g ti te σ J d (fun H' => D.nx (σ.set i (some (.ref d))) H') (upd H1 d (.lst []))

theorem ps_comp {wi : TI} {y : Str} {py spos : Pos} {i : Nat} (hc : X.calm = true) (S : CS X sc N' cap) (hi : PI X tg iter wi) (hg : ∀ s H fp xe, PG (X.comp N' sc s H fp xe) tg g) (ht : ∀ s H fp xe, PTs (X.comp N' sc s H fp xe) ifs ti)
    (he : ∀ s H fp xe, PE (X.comp N' sc s H fp xe) elt te) (hN : X.N.Nodup) (hy : X.N[i]? = some y) (hl : X.env.scope.names.lookup y = some .local)
    (hsw : swapsWith (.ListComp elt [⟨tg, iter, ifs, 0⟩] sc pos) (some (.Name y py)) spos.line X.env = pure true := by rfl) (hs : ∀ x, foldedSetIterable iter X.env x = pure x := by intro _; rfl) :
    PS X (.Assign [.Name y py] (.ListComp elt [⟨tg, iter, ifs, 0⟩] sc pos) spos) (sComp cap wi g ti te i) := by
  intro pins s σ H D I h
  rw [exec_Assign_Name_used _ _ _ _ hsw]
  refine wpAny_bind (wpAny_standAt (wpAny_bind ?_))
  show wpAny _ X.A (do let _ ← comprehension (.ListComp elt [⟨tg, iter, ifs, 0⟩] sc pos) sc X.env _ (newList []) false (eval iter X.env) (some (assign (.Name y py) X.env))) _ _ s
  refine wpAny_bind (wpAny_mono (wpAny_comprehension_free (use := some (assign (.Name y py) X.env)) (Q := fun _ s' => SP X pins D .next s') rfl hs (closureFor_eq (S.cells I)) S.kind S.loc
    (thn (hi pins s σ H _ I h) fun v s1 h1 => thn h1 fun itv s2 h2 => ?_)) (fun _ s' hq => wpAny_pure (wpAny_pure hq)) fun _ _ z => z)
  obtain ⟨it, fp, tn, J, H2, e, I2, T, st2, f2, rq⟩ := h2
  subst e
  refine comp_core (RR := fun acc C => compPost (model X.prog X.w) X.A X.xe (some (assign (.Name y py) X.env)) (fun _ s' => SP X pins D .next s') acc C) (Q := fun d H' => D.nx (σ.set i (some (.ref d))) H') hc S hg ht he I2 T st2 f2 rq ?_
  intro d s3 H3 xe H' pins' σ' s' I3 f3 J3 q
  obtain ⟨m, hn, _⟩ := id J3.loc
  have Is : Inv X pins σ H' s' := I3.compOut (h' := s'.heap) f3 J3 (Heap.SameBut.refl _ _)
  obtain ⟨oC, es, ep, hoC, hdC, hrC⟩ := id hn
  have hC : H' s3.heap.objs.size = none := J3.free
  have neL : s3.heap.objs.size ≠ X.env.locals := Nat.ne_of_gt I3.lt
  have nfs : s3.heap.objs.size ∉ X.fs := I3.nofs (Nat.le_refl _)
  have Ip : Inv X (pins ++ [(s3.heap.objs.size, oC)]) σ H' s' := Is.pins_of fun p hp => by
    rcases List.mem_append.mp hp with z | z
    · exact Is.pin p (List.mem_append_right _ z)
    · obtain rfl : p = (s3.heap.objs.size, oC) := by simpa using z
      exact ⟨hoC, hC, neL, nfs, fun v hv => by have hdC' : oC.data = _ := hdC; rw [hdC'] at hv; cases hv⟩
  show wpAny _ X.A (assign (.Name y py) X.env (.ref d)) _ _ s'
  refine thn (pg_name (X := X) (i := i) hN hy (.inl hl) (.inr hl) _ s' σ H' (.ref d) (.ref d) (fun σ2 H2 => D.nx σ2 H2) Ip rfl q) fun _ s4 ⟨σ4, H4, I4, q4⟩ => ?_
  have pn := I4.pin (s3.heap.objs.size, oC) (List.mem_append_right _ (List.mem_append_right _ (by simp)))
  refine ⟨m, ⟨oC, es, ep, pn.1, hdC, hrC⟩, fun h' hs => ⟨σ4, H4, ?_, q4⟩⟩
  have I4u : Inv X pins σ4 H4 s4 := I4.unpinned
  -- the block's names are let go: an object that is neither tracked nor the frame
  have st := I4u.step (g' := s4.gens) (t' := s4.toks) (d' := s4.drawn) (h' := h') (H' := H4) (ch := [s3.heap.objs.size]) (fun b hb => ?_) (fun b o _ _ hc e _ => (hs.2 b (by simpa using hc)).trans e)
    (fun b o _ _ hc e _ => ⟨o.slots, (hs.2 b (by simpa using hc)).trans e⟩) (fun _ _ _ _ n => n) (fun b o hc e => ⟨o, (hs.2 b (by simpa using hc)).trans e⟩) (fun _ _ e => e) (fun _ _ _ e => e) (fun b ps e => ⟨#[], by rw [e]; simp⟩) (fun m hm => ?_) (fun b u e => ?_) I4u.bare
  · exact st
  · have e : b = s3.heap.objs.size := by simpa using hb
    subst e
    refine ⟨.inr I3.sz, neL, fun x c e2 z => ?_, fun p hp z => ?_⟩
    · obtain ⟨v, q2⟩ := I3.cell x c e2
      exact absurd q2.lt (by rw [z]; exact Nat.lt_irrefl _)
    · have e3 := (I3.pin p hp).1
      exact absurd (Heap.lt_size e3) (by rw [z]; exact Nat.lt_irrefl _)
  · obtain ⟨o, es', ep', ho', r'⟩ := hm
    exact ⟨o, es', ep', (hs.2 _ (Ne.symm neL)).trans ho', r'⟩
  · refine (I4u.hok b u e).stay (fun c v hc q => ?_) (fun _ q => q) fun _ _ q => q
    have n4 : H4 s3.heap.objs.size = none := pn.2.1
    have ne : c ≠ s3.heap.objs.size := by
      rintro rfl
      rcases hc with z | z
      · rw [← z, n4] at e; cases e
      · rw [n4] at z; cases z
    exact (hs.2 c ne).trans q
end
end L2
set_option Elab.async false
set_option linter.all false
set_option maxRecDepth 100000
/-! Plain data instead of the heap: what a body does, as a function on data. -/
namespace FT
open PySem PySem.Spec PyProof.Rows L2

/-- a value: tuples (and lists that nobody changes) by what is in them, lists that may change by their number -/
inductive D where
  | non | bl (b : Bool) | int (i : Int) | str (x : Str) | tup (xs : List D) | fl (xs : List D) | ref (n : Nat)
inductive O where
  | lst (xs : List D)
  | set (ks : List Key)
abbrev AH := List O
abbrev G := List (Option D)
structure Exn where
  cls : Str
  fs : List (Str × D)
inductive Res (α : Type) where
  | ok (a : α) (h : AH) | err (x : Exn) (h : AH) | bad
abbrev M (α : Type) := AH → Res α
def M.pure {α : Type} (a : α) : M α := fun h => .ok a h
def M.bind {α β : Type} (m : M α) (f : α → M β) : M β := fun h => match m h with
  | .ok a h1 => f a h1
  | .err x h1 => .err x h1
  | .bad => .bad
instance : Monad M where
  pure := M.pure
  bind := M.bind
def bad {α : Type} : M α := fun _ => .bad
theorem M.bind_eq {α β : Type} (m : M α) (f : α → M β) (h : AH) : (m >>= f) h = match m h with
  | .ok a h1 => f a h1
  | .err x h1 => .err x h1
  | .bad => .bad := rfl
theorem M.pure_eq {α : Type} (a : α) (h : AH) : (Pure.pure a : M α) h = .ok a h := rfl
theorem M.bind_ok {α β : Type} {m : M α} {f : α → M β} {h h1 : AH} {a : α} (e : m h = .ok a h1) : (m >>= f) h = f a h1 := by rw [M.bind_eq, e]

/-- a list that is never written -/
def SqLP (K : PySem.W.Frag) (H : Hp) (a : Addr) (xs : List V) : Prop :=
  (∃ o, H a = some (.frz o (.lst xs))) ∨
    ∃ (o : Obj) (its : Array Value) (n : Nat), K.lookup a = some o ∧ o.cls = .type "list" ∧ o.dict = none ∧ o.data = .seq its n ∧ its.size ≤ sizeLine ∧ Vals xs its.toList
theorem SqLP.sq {K : PySem.W.Frag} {H : Hp} {a : Addr} {xs : List V} (h : SqLP K H a xs) : SqL K H a xs := by
  rcases h with ⟨o, h⟩ | h
  · exact .inl (.inr ⟨o, h⟩)
  · exact .inr h

mutual
def RD (K : PySem.W.Frag) (ρ : List Addr) (H : Hp) : D → V → Prop
  | .non, v => v = .non
  | .bl b, v => v = .bl b
  | .int i, v => v = .int i
  | .str x, v => v = .str x
  | .tup ds, v => ∃ a xs, v = .ref a ∧ SqT K H a xs ∧ RDs K ρ H ds xs
  | .fl ds, v => ∃ a xs, v = .ref a ∧ SqLP K H a xs ∧ RDs K ρ H ds xs
  | .ref n, v => ∃ a, v = .ref a ∧ ρ[n]? = some a
def RDs (K : PySem.W.Frag) (ρ : List Addr) (H : Hp) : List D → List V → Prop
  | [], xs => xs = []
  | d :: ds, xs => ∃ x r, xs = x :: r ∧ RD K ρ H d x ∧ RDs K ρ H ds r
end

def Pre (ρ ρ' : List Addr) : Prop := ∀ (n : Nat) a, ρ[n]? = some a → ρ'[n]? = some a
theorem Pre.refl (ρ : List Addr) : Pre ρ ρ := fun _ _ h => h
theorem Pre.trans {a b c : List Addr} (x : Pre a b) (y : Pre b c) : Pre a c := fun n z h => y n z (x n z h)
theorem Pre.app (ρ r : List Addr) : Pre ρ (ρ ++ r) := fun n a h => by
  rw [List.getElem?_append_left (List.getElem?_eq_some_iff.mp h).1]; exact h

structure Ext (K : PySem.W.Frag) (H H' : Hp) : Prop where
  t : ∀ a xs, SqT K H a xs → SqT K H' a xs
  l : ∀ a xs, SqLP K H a xs → SqLP K H' a xs
theorem Ext.refl (K : PySem.W.Frag) (H : Hp) : Ext K H H := ⟨fun _ _ h => h, fun _ _ h => h⟩
theorem Ext.trans {K : PySem.W.Frag} {a b c : Hp} (x : Ext K a b) (y : Ext K b c) : Ext K a c := ⟨fun z xs h => y.t z xs (x.t z xs h), fun z xs h => y.l z xs (x.l z xs h)⟩
/-- an address that bears no tuple and no frozen list is written -/
def Trk : HO → Prop
  | .lst _ => True
  | .set _ => True
  | _ => False
theorem Ext.upd {K : PySem.W.Frag} {H : Hp} {p : Addr} {o : HO} (h : H p = none ∨ ∃ u, H p = some u ∧ Trk u) : Ext K H (upd H p o) := by
  have ne : ∀ {b : Addr} {u : HO}, H b = some u → ¬ Trk u → b ≠ p := fun {b u} e n z => by
    subst z
    rcases h with h | ⟨u', h, tr⟩
    · rw [h] at e; cases e
    · rw [h] at e; cases e; exact n tr
  refine ⟨fun a xs q => ?_, fun a xs q => ?_⟩
  · rcases q with (q | ⟨u, q⟩) | q
    · exact .inl (.inl (by rw [upd_ne (ne q (fun z => z))]; exact q))
    · exact .inl (.inr ⟨u, by rw [upd_ne (ne q (fun z => z))]; exact q⟩)
    · exact .inr q
  · rcases q with ⟨u, q⟩ | q
    · exact .inl ⟨u, by rw [upd_ne (ne q (fun z => z))]; exact q⟩
    · exact .inr q

section
variable {K : PySem.W.Frag} {ρ ρ' : List Addr} {H H' : Hp}
mutual
theorem RD.mono (p : Pre ρ ρ') (e : Ext K H H') : ∀ {d : D} {v : V}, RD K ρ H d v → RD K ρ' H' d v
  | .non, v, h => by simpa [RD] using h
  | .bl b, v, h => by simpa [RD] using h
  | .int b, v, h => by simpa [RD] using h
  | .str b, v, h => by simpa [RD] using h
  | .tup ds, v, h => by
    simp only [RD] at h ⊢
    obtain ⟨a, xs, h1, h2, h3⟩ := h
    exact ⟨a, xs, h1, e.t a xs h2, RDs.mono p e h3⟩
  | .fl ds, v, h => by
    simp only [RD] at h ⊢
    obtain ⟨a, xs, h1, h2, h3⟩ := h
    exact ⟨a, xs, h1, e.l a xs h2, RDs.mono p e h3⟩
  | .ref n, v, h => by
    simp only [RD] at h ⊢
    obtain ⟨a, h1, h2⟩ := h
    exact ⟨a, h1, p n a h2⟩
theorem RDs.mono (p : Pre ρ ρ') (e : Ext K H H') : ∀ {ds : List D} {xs : List V}, RDs K ρ H ds xs → RDs K ρ' H' ds xs
  | [], xs, h => by simpa [RDs] using h
  | d :: ds, xs, h => by
    simp only [RDs] at h ⊢
    obtain ⟨x, r, h1, h2, h3⟩ := h
    exact ⟨x, r, h1, RD.mono p e h2, RDs.mono p e h3⟩
end
theorem RDs.nil : RDs K ρ H [] [] := by simp [RDs]
theorem RDs.cons {d : D} {ds : List D} {x : V} {xs : List V} (h : RD K ρ H d x) (t : RDs K ρ H ds xs) : RDs K ρ H (d :: ds) (x :: xs) := by
  simp only [RDs]; exact ⟨x, xs, rfl, h, t⟩
theorem RDs.pair : ∀ {ds : List D} {xs : List V}, RDs K ρ H ds xs → Paired (RD K ρ H) ds xs
  | [], xs, h => by simp only [RDs] at h; subst h; exact .nil
  | d :: ds, xs, h => by
    simp only [RDs] at h
    obtain ⟨x, r, rfl, h2, h3⟩ := h
    exact .cons h2 h3.pair
theorem RDs.of : ∀ {ds : List D} {xs : List V}, Paired (RD K ρ H) ds xs → RDs K ρ H ds xs
  | _, _, .nil => RDs.nil
  | _, _, .cons a b => RDs.cons a (RDs.of b)
theorem RDs.length {ds : List D} {xs : List V} (h : RDs K ρ H ds xs) : ds.length = xs.length := Paired.length h.pair
theorem RDs.append {a b : List D} {xs ys : List V} (h : RDs K ρ H a xs) (t : RDs K ρ H b ys) : RDs K ρ H (a ++ b) (xs ++ ys) := by
  induction a generalizing xs with
  | nil => simp only [RDs] at h; subst h; exact t
  | cons d ds ih =>
    simp only [RDs] at h
    obtain ⟨x, r, rfl, h2, h3⟩ := h
    exact RDs.cons h2 (ih h3)
theorem RDs.get {ds : List D} {xs : List V} {i : Nat} {d : D} (h : RDs K ρ H ds xs) (e : ds[i]? = some d) : ∃ x, xs[i]? = some x ∧ RD K ρ H d x := by
  induction ds generalizing xs i with
  | nil => simp at e
  | cons a ds ih =>
    simp only [RDs] at h
    obtain ⟨x, r, rfl, h2, h3⟩ := h
    cases i with
    | zero => simp at e; subst e; exact ⟨x, rfl, h2⟩
    | succ i =>
      obtain ⟨y, h4, h5⟩ := ih h3 (by simpa using e)
      exact ⟨y, by simpa using h4, h5⟩
theorem RDs.getV {ds : List D} {xs : List V} {i : Nat} {x : V} (h : RDs K ρ H ds xs) (e : xs[i]? = some x) : ∃ d, ds[i]? = some d ∧ RD K ρ H d x := by
  have hl := h.length
  have hi := (List.getElem?_eq_some_iff.mp e).1
  obtain ⟨y, h1, h2⟩ := h.get (List.getElem?_eq_getElem (l := ds) (i := i) (by omega))
  rw [e] at h1; cases h1
  exact ⟨_, List.getElem?_eq_getElem (by omega), h2⟩
theorem RDs.drop {ds : List D} {xs : List V} (n : Nat) (h : RDs K ρ H ds xs) : RDs K ρ H (ds.drop n) (xs.drop n) := by
  induction n generalizing ds xs with
  | zero => exact h
  | succ n ih => cases ds with
    | nil => simp only [RDs] at h; subst h; exact RDs.nil
    | cons d ds => simp only [RDs] at h; obtain ⟨x, r, rfl, h2, h3⟩ := h; exact ih h3
theorem RDs.take {ds : List D} {xs : List V} (n : Nat) (h : RDs K ρ H ds xs) : RDs K ρ H (ds.take n) (xs.take n) := by
  induction n generalizing ds xs with
  | zero => exact RDs.nil
  | succ n ih => cases ds with
    | nil => simp only [RDs] at h; subst h; exact RDs.nil
    | cons d ds => simp only [RDs] at h; obtain ⟨x, r, rfl, h2, h3⟩ := h; exact RDs.cons h2 (ih h3)
theorem RDs.set {ds : List D} {xs : List V} {d : D} {x : V} (n : Nat) (h : RDs K ρ H ds xs) (hd : RD K ρ H d x) : RDs K ρ H (ds.set n d) (xs.set n x) := by
  induction n generalizing ds xs with
  | zero => cases ds with
    | nil => simp only [RDs] at h; subst h; exact RDs.nil
    | cons a ds => simp only [RDs] at h; obtain ⟨y, r, rfl, h2, h3⟩ := h; exact RDs.cons hd h3
  | succ n ih => cases ds with
    | nil => simp only [RDs] at h; subst h; exact RDs.nil
    | cons a ds => simp only [RDs] at h; obtain ⟨y, r, rfl, h2, h3⟩ := h; exact RDs.cons h2 (ih h3)
theorem RDs.eraseIdx {ds : List D} {xs : List V} (n : Nat) (h : RDs K ρ H ds xs) : RDs K ρ H (ds.eraseIdx n) (xs.eraseIdx n) := by
  induction n generalizing ds xs with
  | zero => cases ds with
    | nil => simp only [RDs] at h; subst h; exact RDs.nil
    | cons a ds => simp only [RDs] at h; obtain ⟨y, r, rfl, h2, h3⟩ := h; exact h3
  | succ n ih => cases ds with
    | nil => simp only [RDs] at h; subst h; exact RDs.nil
    | cons a ds => simp only [RDs] at h; obtain ⟨y, r, rfl, h2, h3⟩ := h; exact RDs.cons h2 (ih h3)
theorem RDs.flat {ds : List D} {xs : List V} (n : Nat) (h : RDs K ρ H ds xs) : RDs K ρ H (List.replicate n ds).flatten (List.replicate n xs).flatten := by
  induction n with
  | zero => exact RDs.nil
  | succ n ih => rw [List.replicate_succ, List.flatten_cons, List.replicate_succ, List.flatten_cons]; exact h.append ih

/-! ### the heap -/
def RO (K : PySem.W.Frag) (ρ : List Addr) (H : Hp) (o : O) (a : Addr) : Prop := match o with
  | .lst ds => ∃ xs, H a = some (.lst xs) ∧ RDs K ρ H ds xs
  | .set ks => H a = some (.set ks)
structure RH (K : PySem.W.Frag) (ρ : List Addr) (h : AH) (H : Hp) : Prop where
  len : ρ.length = h.length
  nd : ∀ (i j : Nat) a, ρ[i]? = some a → ρ[j]? = some a → i = j
  obj : ∀ (n : Nat) o a, h[n]? = some o → ρ[n]? = some a → RO K ρ H o a
theorem RH.at {h : AH} (r : RH K ρ h H) {n : Nat} {o : O} (e : h[n]? = some o) : ∃ a, ρ[n]? = some a ∧ RO K ρ H o a := by
  have hi := (List.getElem?_eq_some_iff.mp e).1
  have hj : n < ρ.length := by rw [r.len]; exact hi
  have q : ρ[n]? = some ρ[n] := List.getElem?_eq_getElem hj
  exact ⟨_, q, r.obj n o _ e q⟩
theorem RH.tracked {h : AH} (r : RH K ρ h H) {n : Nat} {a : Addr} (e : ρ[n]? = some a) : ∃ u, H a = some u ∧ Trk u := by
  have hi := (List.getElem?_eq_some_iff.mp e).1
  have hj : n < h.length := by rw [← r.len]; exact hi
  have q : h[n]? = some h[n] := List.getElem?_eq_getElem hj
  have z := r.obj n _ a q e
  cases ho : h[n] with
  | lst ds => rw [ho] at z; obtain ⟨xs, z, _⟩ := z; exact ⟨_, z, trivial⟩
  | set ks => rw [ho] at z; exact ⟨_, z, trivial⟩
theorem RO.mono {o : O} {a : Addr} (p : Pre ρ ρ') (e : Ext K H H') (hs : H' a = H a) (r : RO K ρ H o a) : RO K ρ' H' o a := by
  cases o with
  | lst ds => obtain ⟨xs, h1, h2⟩ := r; exact ⟨xs, hs.trans h1, h2.mono p e⟩
  | set ks => exact hs.trans r
/-- something untracked is laid -/
theorem RH.other {h : AH} {p : Addr} {o : HO} (r : RH K ρ h H) (hp : H p = none) : RH K ρ h (upd H p o) :=
  ⟨r.len, r.nd, fun n u a h1 h2 => (r.obj n u a h1 h2).mono (Pre.refl _) (Ext.upd (.inl hp)) (by
    obtain ⟨u, q, _⟩ := r.tracked h2
    exact upd_ne (ne_of_none q hp))⟩
theorem RH.pushO {h : AH} {p : Addr} {o' : O} {u : HO} (r : RH K ρ h H) (hp : H p = none) (hd : RO K (ρ ++ [p]) (upd H p u) o' p) : RH K (ρ ++ [p]) (h ++ [o']) (upd H p u) := by
  have ne : ∀ {n : Nat} {a : Addr}, ρ[n]? = some a → a ≠ p := fun e => by
    obtain ⟨xs, q, _⟩ := r.tracked e
    exact ne_of_none q hp
  have ext : Ext K H (L2.upd H p u) := Ext.upd (.inl hp)
  refine ⟨by simp [r.len], fun i j a h1 h2 => ?_, fun n o a h1 h2 => ?_⟩
  · rw [List.getElem?_append] at h1 h2
    split at h1 <;> split at h2
    · exact r.nd i j a h1 h2
    · rename_i hi hj
      rw [List.getElem?_singleton] at h2
      split at h2
      · cases h2; exact absurd rfl (ne h1)
      · cases h2
    · rename_i hi hj
      rw [List.getElem?_singleton] at h1
      split at h1
      · cases h1; exact absurd rfl (ne h2)
      · cases h1
    · rename_i hi hj
      rw [List.getElem?_singleton] at h1 h2
      split at h1
      · split at h2
        · omega
        · cases h2
      · cases h1
  · rw [List.getElem?_append] at h1 h2
    rw [r.len] at h2
    split at h1
    · rename_i hn
      rw [if_pos hn] at h2
      exact (r.obj n o a h1 h2).mono (Pre.app _ _) ext (upd_ne (ne h2))
    · rename_i hn
      rw [if_neg hn] at h2
      rw [List.getElem?_singleton] at h1 h2
      split at h1
      · rename_i h0
        rw [if_pos h0] at h2
        cases h1; cases h2
        exact hd
      · cases h1
theorem RH.push {h : AH} {p : Addr} {ds : List D} {xs : List V} (r : RH K ρ h H) (hp : H p = none) (hd : RDs K ρ H ds xs) : RH K (ρ ++ [p]) (h ++ [.lst ds]) (upd H p (.lst xs)) :=
  r.pushO hp ⟨xs, upd_same, hd.mono (Pre.app _ _) (Ext.upd (.inl hp))⟩
theorem RH.pushS {h : AH} {p : Addr} {ks : List Key} (r : RH K ρ h H) (hp : H p = none) : RH K (ρ ++ [p]) (h ++ [.set ks]) (upd H p (.set ks)) := r.pushO hp upd_same
theorem RH.setO {h : AH} {n : Nat} {a : Addr} {o0 o' : O} {u : HO} (r : RH K ρ h H) (e : h[n]? = some o0) (ea : ρ[n]? = some a) (hd : RO K ρ (upd H a u) o' a) : RH K ρ (h.set n o') (upd H a u) := by
  have ext : Ext K H (L2.upd H a u) := Ext.upd (.inr (r.tracked ea))
  refine ⟨by simp [r.len], r.nd, fun m o b h1 h2 => ?_⟩
  by_cases hm : m = n
  · subst hm
    rw [ea] at h2; cases h2
    have hi := (List.getElem?_eq_some_iff.mp e).1
    rw [List.getElem?_set_self hi] at h1
    cases h1
    exact hd
  · rw [List.getElem?_set_ne (fun z => hm z.symm)] at h1
    exact (r.obj m o b h1 h2).mono (Pre.refl _) ext (upd_ne fun z => hm (r.nd m n b h2 (by rw [z]; exact ea)))

theorem RH.set {h : AH} {n : Nat} {a : Addr} {ds0 ds : List D} {xs : List V} (r : RH K ρ h H) (e : h[n]? = some (.lst ds0)) (ea : ρ[n]? = some a) (hd : RDs K ρ H ds xs) : RH K ρ (h.set n (.lst ds)) (upd H a (.lst xs)) :=
  r.setO e ea ⟨xs, upd_same, hd.mono (Pre.refl _) (Ext.upd (.inr (r.tracked ea)))⟩
theorem RH.setS {h : AH} {n : Nat} {a : Addr} {o0 : O} {ks : List Key} (r : RH K ρ h H) (e : h[n]? = some o0) (ea : ρ[n]? = some a) : RH K ρ (h.set n (.set ks)) (upd H a (.set ks)) := r.setO e ea upd_same
/-! ### the frame -/
structure RG (K : PySem.W.Frag) (ρ : List Addr) (H : Hp) (γ : G) (σ : L2.St) : Prop where
  len : γ.length = σ.length
  var : ∀ (i : Nat) d, γ[i]? = some (some d) → ∃ v, σ[i]? = some (some v) ∧ RD K ρ H d v
theorem RG.mono {γ : G} {σ : L2.St} (p : Pre ρ ρ') (e : Ext K H H') (r : RG K ρ H γ σ) : RG K ρ' H' γ σ :=
  ⟨r.len, fun i d h => let ⟨v, h1, h2⟩ := r.var i d h; ⟨v, h1, h2.mono p e⟩⟩
theorem RG.set {γ : G} {σ : L2.St} {d : D} {v : V} (r : RG K ρ H γ σ) (i : Nat) (hd : RD K ρ H d v) : RG K ρ H (γ.set i (some d)) (σ.set i (some v)) := by
  refine ⟨by simp [r.len], fun j d' h => ?_⟩
  by_cases hj : i = j
  · subst hj
    have hi : i < γ.length := by
      have := (List.getElem?_eq_some_iff.mp h).1
      simpa using this
    rw [List.getElem?_set_self hi] at h
    cases h
    exact ⟨v, List.getElem?_set_self (by rw [← r.len]; exact hi), hd⟩
  · rw [List.getElem?_set_ne hj] at h ⊢
    exact r.var j d' h
structure Rel (K : PySem.W.Frag) (ρ : List Addr) (γ : G) (h : AH) (σ : L2.St) (H : Hp) : Prop where
  g : RG K ρ H γ σ
  h : RH K ρ h H

/-! ### the ends -/
abbrev XX := Exn → List Addr → AH → Hp → Prop
def Fin {α : Type} (K : PySem.W.Frag) (EX : XX) (ρ : List Addr) (H : Hp) (P : α → List Addr → AH → Hp → Prop) : Res α → Prop
  | .ok a h' => ∀ ρ' H', Pre ρ ρ' → Ext K H H' → RH K ρ' h' H' → P a ρ' h' H'
  | .err x h' => ∀ ρ' H', Pre ρ ρ' → Ext K H H' → RH K ρ' h' H' → EX x ρ' h' H'
  | .bad => False
variable {EX : XX} {α β : Type}
theorem Fin.up {P : α → List Addr → AH → Hp → Prop} {r : Res α} (p : Pre ρ ρ') (e : Ext K H H') (f : Fin K EX ρ H P r) : Fin K EX ρ' H' P r := by
  cases r with
  | ok a h => exact fun ρ2 H2 p2 e2 r2 => f ρ2 H2 (p.trans p2) (e.trans e2) r2
  | err x h => exact fun ρ2 H2 p2 e2 r2 => f ρ2 H2 (p.trans p2) (e.trans e2) r2
  | bad => exact f
theorem Fin.mono {P P' : α → List Addr → AH → Hp → Prop} {r : Res α} (f : Fin K EX ρ H P r) (h : ∀ a ρ' h' H', Pre ρ ρ' → Ext K H H' → RH K ρ' h' H' → P a ρ' h' H' → P' a ρ' h' H') : Fin K EX ρ H P' r := by
  cases r with
  | ok a h1 => exact fun ρ2 H2 p2 e2 r2 => h a ρ2 h1 H2 p2 e2 r2 (f ρ2 H2 p2 e2 r2)
  | err x h1 => exact f
  | bad => exact f
theorem Fin.bind {P : β → List Addr → AH → Hp → Prop} {m : M α} {f : α → M β} {h : AH} (z : Fin K EX ρ H P ((m >>= f) h)) : Fin K EX ρ H (fun a ρ1 h1 H1 => Fin K EX ρ1 H1 P (f a h1)) (m h) := by
  rw [M.bind_eq] at z
  cases e : m h with
  | ok a h1 => rw [e] at z; exact fun ρ2 H2 p2 e2 r2 => Fin.up p2 e2 z
  | err x h1 => rw [e] at z; exact z
  | bad => rw [e] at z; exact z
end

/-- what an expression, a test, an argument list, a block does -/
def tE (K : PySem.W.Frag) (EX : XX) (m : G → M D) : TE := fun σ H Q => ∃ ρ γ h, Rel K ρ γ h σ H ∧ Fin K EX ρ H (fun d ρ' _ H' => ∀ v, RD K ρ' H' d v → Q v H') (m γ h)
def tT (K : PySem.W.Frag) (EX : XX) (m : G → M Bool) : TT := fun σ H Q => ∃ ρ γ h, Rel K ρ γ h σ H ∧ Fin K EX ρ H (fun b _ _ H' => Q b H') (m γ h)
def tL (K : PySem.W.Frag) (EX : XX) (m : G → M (List D)) : TA := fun σ H Q => ∃ ρ γ h, Rel K ρ γ h σ H ∧ Fin K EX ρ H (fun ds ρ' _ H' => ∀ vs, RDs K ρ' H' ds vs → Q vs H') (m γ h)
inductive Out where
  | nx (γ : G) | rt (d : D) | bk (γ : G) | ct (γ : G)
def OutP (K : PySem.W.Frag) (D : Ends) (o : Out) (ρ : List Addr) (H : Hp) : Prop := match o with
  | .nx γ => ∀ σ, RG K ρ H γ σ → D.nx σ H
  | .rt d => ∀ v, RD K ρ H d v → D.rt v H
  | .bk γ => ∀ σ, RG K ρ H γ σ → D.bk σ H
  | .ct γ => ∀ σ, RG K ρ H γ σ → D.ct σ H
def tB (K : PySem.W.Frag) (EX : XX) (m : G → M Out) : TS := fun D σ H => ∃ ρ γ h, Rel K ρ γ h σ H ∧ Fin K EX ρ H (fun o ρ' _ H' => OutP K D o ρ' H') (m γ h)

structure SE (X : Cx) (EX : XX) (e : Expr) (m : G → M D) : Prop where
  h : PE X e (tE X.K EX m)
structure SC (X : Cx) (EX : XX) (e : Expr) (m : G → M Bool) : Prop where
  h : PT X e (tT X.K EX m)
structure SA (X : Cx) (EX : XX) (es : List Expr) (m : G → M (List D)) : Prop where
  h : PA X es (tL X.K EX m)
structure S1 (X : Cx) (EX : XX) (st : Stmt) (m : G → M Out) : Prop where
  h : PS X st (tB X.K EX m)
structure SB (X : Cx) (EX : XX) (st : List Stmt) (m : G → M Out) : Prop where
  h : PSs X st (tB X.K EX m)

theorem PE.imp {X : Cx} {e : Expr} {t t' : TE} (h : PE X e t) (f : ∀ σ H Q, t' σ H Q → t σ H Q) : PE X e t' := fun pins s σ H Q I z => h pins s σ H Q I (f σ H Q z)
theorem PT.imp {X : Cx} {e : Expr} {t t' : TT} (h : PT X e t) (f : ∀ σ H Q, t' σ H Q → t σ H Q) : PT X e t' := fun pins s σ H Q I z => h pins s σ H Q I (f σ H Q z)
theorem PA.imp {X : Cx} {e : List Expr} {t t' : TA} (h : PA X e t) (f : ∀ σ H Q, t' σ H Q → t σ H Q) : PA X e t' := fun pos pins s σ H Q I z => h pos pins s σ H Q I (f σ H Q z)
theorem PS.imp {X : Cx} {e : Stmt} {t t' : TS} (h : PS X e t) (f : ∀ σ H Q, t' Q σ H → t Q σ H) : PS X e t' := fun pins s σ H Q I z => h pins s σ H Q I (f σ H Q z)
theorem PSs.imp {X : Cx} {e : List Stmt} {t t' : TS} (h : PSs X e t) (f : ∀ σ H Q, t' Q σ H → t Q σ H) : PSs X e t' := fun pins s σ H Q I z => h pins s σ H Q I (f σ H Q z)
end FT
set_option Elab.async false
set_option linter.all false
set_option maxRecDepth 100000
/-! The constructs, each as a function on data, with its rule. -/
namespace FT
open PySem PySem.Spec PyProof.Rows L2

abbrev FE (K : PySem.W.Frag) (EX : XX) (ρ : List Addr) (H : Hp) (Q : VK) (r : Res D) : Prop := Fin K EX ρ H (fun d ρ' _ H' => ∀ v, RD K ρ' H' d v → Q v H') r
theorem FE.here {K : PySem.W.Frag} {EX : XX} {ρ : List Addr} {H : Hp} {Q : VK} {d : D} {h : AH} {v : V} (f : FE K EX ρ H Q (.ok d h)) (r : RH K ρ h H) (rd : RD K ρ H d v) : Q v H := f ρ H (Pre.refl _) (Ext.refl _ _) r v rd
theorem FE.tup {K : PySem.W.Frag} {EX : XX} {ρ : List Addr} {H : Hp} {Q : VK} {ds : List D} {xs : List V} {h : AH} {p : Addr} (f : FE K EX ρ H Q (.ok (.tup ds) h)) (r : RH K ρ h H) (hd : RDs K ρ H ds xs) (hp : H p = none) : Q (.ref p) (upd H p (.tup xs)) := by
  have e : Ext K H (L2.upd H p (.tup xs)) := Ext.upd (.inl hp)
  refine f ρ _ (Pre.refl _) e (r.other hp) _ ?_
  simp only [RD]
  exact ⟨p, xs, rfl, SqT.of upd_same, hd.mono (Pre.refl _) e⟩
theorem FE.lst {K : PySem.W.Frag} {EX : XX} {ρ : List Addr} {H : Hp} {Q : VK} {ds : List D} {xs : List V} {h : AH} {p : Addr} (f : FE K EX ρ H Q (.ok (.ref h.length) (h ++ [.lst ds]))) (r : RH K ρ h H) (hd : RDs K ρ H ds xs) (hp : H p = none) : Q (.ref p) (upd H p (.lst xs)) := by
  refine f (ρ ++ [p]) _ (Pre.app _ _) (Ext.upd (.inl hp)) (r.push hp hd) _ ?_
  simp only [RD]
  refine ⟨p, rfl, ?_⟩
  rw [← r.len]; simp

/-! ### lists -/
def getL (n : Nat) : M (List D) := fun h => match h[n]? with
  | some (.lst xs) => .ok xs h
  | _ => .bad
def newL (xs : List D) : M D := fun h => if xs.length ≤ sizeLine then .ok (.ref h.length) (h ++ [.lst xs]) else .bad
def setL (n : Nat) (xs : List D) : M D := fun h => if xs.length ≤ sizeLine then .ok .non (h.set n (.lst xs)) else .bad

section
variable {X : Cx} {EX : XX} {a b c e : Expr} {pos : Pos} {ma mb mc : G → M D}

/-! ### names, constants -/
def eVar (i : Nat) : G → M D := fun γ => match γ[i]? with
  | some (some d) => pure d
  | _ => bad
theorem se_var (i : Nat) {x : Str} (hN : X.N[i]? = some x := by rfl) (hv : Vis X.env.scope x := by first | exact Or.inl rfl | exact Or.inr (Or.inl rfl) | exact Or.inr (Or.inr rfl))
    (hd : (x == ("__debug__" : Str)) = false := by decide) (hcd : (x == ("__classdict__" : Str)) = false := by decide) : SE X EX (.Name x pos) (eVar i) :=
  ⟨PE.imp (pe_var hN hv hd hcd) fun σ H Q ⟨ρ, γ, h, rel, f⟩ => by
    have f' : FE X.K EX ρ H Q (eVar i γ h) := f
    unfold eVar at f'
    cases e : γ[i]? with
    | none => rw [e] at f'; exact f'.elim
    | some o => cases o with
      | none => rw [e] at f'; exact f'.elim
      | some d =>
        rw [e] at f'
        obtain ⟨v, h1, h2⟩ := rel.g.var i d e
        exact ⟨v, h1, FE.here f' rel.h h2⟩⟩
theorem se_const {d : D} {v : V} (h : PE X e (tC v)) (r : ∀ ρ H, RD X.K ρ H d v) : SE X EX e (fun _ => pure d) :=
  ⟨PE.imp h fun σ H Q ⟨ρ, γ, h, rel, f⟩ => FE.here f rel.h (r ρ H)⟩
theorem se_int {i : Int} {j : Nat} : SE X EX (.Constant (.int i) j pos) (fun _ => pure (.int i)) := se_const pe_int fun _ _ => by simp [RD]
theorem se_bl {i : Bool} {j : Nat} : SE X EX (.Constant (.bool i) j pos) (fun _ => pure (.bl i)) := se_const pe_bl fun _ _ => by simp [RD]
theorem se_non {j : Nat} : SE X EX (.Constant .none j pos) (fun _ => pure .non) := se_const pe_non fun _ _ => by simp [RD]
theorem se_str {i : Str} {j : Nat} : SE X EX (.Constant (.str i) j pos) (fun _ => pure (.str i)) := se_const pe_str fun _ _ => by simp [RD]
/-- a constant of the module -/
theorem se_glob {x : Str} {d : D} {v : V} {u : Value} (hg : Gl X x) (hm : X.mg x = some u) (r : RelV v u) (hr : ∀ ρ H, RD X.K ρ H d v) (hd : (x == ("__debug__" : Str)) = false := by decide) : SE X EX (.Name x pos) (fun _ => pure d) :=
  se_const (pe_glob hg hm r hd) hr

/-! ### two operands -/
def BR (K : PySem.W.Frag) (EX : XX) (r : R2) (f : D → D → M D) : Prop := ∀ ρ h H x y v u Q, RH K ρ h H → RD K ρ H x v → RD K ρ H y u → FE K EX ρ H Q (f x y h) → r v u H Q
def e2 (f : D → D → M D) (ma mb : G → M D) : G → M D := fun γ => do
  let x ← ma γ
  let y ← mb γ
  f x y
theorem se_two {r : R2} {f : D → D → M D} {ta tb : TE} (h : PE X e (tOp r (tE X.K EX ma) (tE X.K EX mb))) (hr : BR X.K EX r f) : SE X EX e (e2 f ma mb) :=
  ⟨PE.imp h fun σ H Q ⟨ρ, γ, h, rel, fin⟩ => ⟨ρ, γ, h, rel, (Fin.bind fin).mono fun x ρ1 h1 H1 p1 e1 r1 f1 v rv => ⟨ρ1, γ, h1, ⟨rel.g.mono p1 e1, r1⟩, (Fin.bind f1).mono fun y ρ2 h2 H2 p2 e2 r2 f2 u ru =>
    hr ρ2 h2 H2 x y v u Q r2 (rv.mono p2 e2) ru f2⟩⟩⟩
theorem se_op {op : Operator} {r : R2} {f : D → D → M D} (ho : OpR X (binaryOp op) r) (hr : BR X.K EX r f) (ha : SE X EX a ma) (hb : SE X EX b mb) : SE X EX (.BinOp a op b pos) (e2 f ma mb) :=
  se_two (ta := tE X.K EX ma) (tb := tE X.K EX mb) (pe_op ho ha.h hb.h) hr
theorem se_cmp {op : CmpOp} {r : R2} {f : D → D → M D} (ho : OpR X (compareOp op) r) (hr : BR X.K EX r f) (ha : SE X EX a ma) (hb : SE X EX b mb) (hm : behindInMarks op b = false) : SE X EX (.Compare a [op] [b] pos) (e2 f ma mb) :=
  se_two (ta := tE X.K EX ma) (tb := tE X.K EX mb) (pe_cmpR ho ha.h hb.h hm) hr
theorem BR.or {K : PySem.W.Frag} {r r' : R2} {f g f' : D → D → M D} (h : BR K EX r f) (h' : BR K EX r' g) (e : ∀ x y, (∀ z, f' x y z = f x y z) ∨ (∀ z, f' x y z = g x y z)) : BR K EX (fun x y H Q => r x y H Q ∨ r' x y H Q) f' := by
  intro ρ h0 H x y v u Q r0 rx ry fin
  rcases e x y with z | z
  · exact .inl (h ρ h0 H x y v u Q r0 rx ry (by rw [← z h0]; exact fin))
  · exact .inr (h' ρ h0 H x y v u Q r0 rx ry (by rw [← z h0]; exact fin))

/-- ints -/
def fI (g : Int → Int → D) : D → D → M D
  | .int i, .int j => pure (g i j)
  | _, _ => bad
theorem br_I0 {K : PySem.W.Frag} {g : Int → Int → D} {g' : Int → Int → V} (hg : ∀ i j ρ H, RD K ρ H (g i j) (g' i j)) : BR K EX (rI0 g') (fI g) := by
  intro ρ h H x y v u Q r rx ry fin
  unfold fI at fin
  split at fin
  · simp only [RD] at rx ry
    subst rx; subst ry
    exact ⟨_, _, rfl, rfl, FE.here fin r (hg _ _ _ _)⟩
  · exact fin.elim
def fIC (C : Int → Int → Bool) (g : Int → Int → D) : D → D → M D
  | .int i, .int j => if C i j then pure (g i j) else bad
  | _, _ => bad
theorem br_IC {K : PySem.W.Frag} {C : Int → Int → Bool} {C' : Int → Int → Prop} {g : Int → Int → D} {g' : Int → Int → V} (hc : ∀ i j, C i j = true → C' i j) (hg : ∀ i j ρ H, RD K ρ H (g i j) (g' i j)) : BR K EX (rI C' g') (fIC C g) := by
  intro ρ h H x y v u Q r rx ry fin
  unfold fIC at fin
  split at fin
  · simp only [RD] at rx ry
    subst rx; subst ry
    split at fin
    · rename_i hC
      exact ⟨_, _, rfl, rfl, hc _ _ hC, FE.here fin r (hg _ _ _ _)⟩
    · exact fin.elim
  · exact fin.elim
def fSub := fI fun i j => .int (i - j)
def fDiv := fIC (fun _ j => decide (0 < j) && decide (j < 1073741824)) fun i j => .int (i / j)
def fMod := fIC (fun _ j => decide (0 < j)) fun i j => .int (i % j)
def fPow := fIC (fun i j => decide (0 ≤ j) && decide (j ≤ 1000) && decide (-(2 ^ 64) < i) && decide (i < 2 ^ 64)) fun i j => .int (i ^ j.toNat)
def fShr := fIC (fun _ j => decide (0 ≤ j)) fun i j => .int (i / 2 ^ j.toNat)
def fAnd := fI fun i j => .int (Builtin.bitAnd i j)
theorem se_sub (ha : SE X EX a ma) (hb : SE X EX b mb) : SE X EX (.BinOp a .Sub b pos) (e2 fSub ma mb) := se_op op_sub (br_I0 fun i j ρ H => by simp [RD]) ha hb
theorem se_div (ha : SE X EX a ma) (hb : SE X EX b mb) : SE X EX (.BinOp a .FloorDiv b pos) (e2 fDiv ma mb) := se_op op_fdiv (br_IC (fun i j h => by simp at h; exact h) fun i j ρ H => by simp [RD]) ha hb
theorem se_mod (ha : SE X EX a ma) (hb : SE X EX b mb) : SE X EX (.BinOp a .Mod b pos) (e2 fMod ma mb) := se_op op_mod (br_IC (fun i j h => by simpa using h) fun i j ρ H => by simp [RD]) ha hb
theorem se_pow (ha : SE X EX a ma) (hb : SE X EX b mb) : SE X EX (.BinOp a .Pow b pos) (e2 fPow ma mb) := se_op op_pow (br_IC (fun i j h => by
  simp at h
  refine ⟨h.1.1.1, by omega, ?_⟩
  have h1 := h.1.2
  have h2 := h.2
  omega) fun i j ρ H => by simp [RD]) ha hb
theorem se_shr (ha : SE X EX a ma) (hb : SE X EX b mb) : SE X EX (.BinOp a .RShift b pos) (e2 fShr ma mb) := se_op op_shr (br_IC (fun i j h => by simpa using h) fun i j ρ H => by simp [RD]) ha hb
theorem se_and (ha : SE X EX a ma) (hb : SE X EX b mb) : SE X EX (.BinOp a .BitAnd b pos) (e2 fAnd ma mb) := se_op op_and (br_I0 fun i j ρ H => by simp [RD]) ha hb

/-! ### + -/
def fAdd : D → D → M D
  | .int i, .int j => pure (.int (i + j))
  | .str i, .str j => if i.length + j.length ≤ sizeLine then pure (.str (i ++ j)) else bad
  | .ref i, .ref j => do
    let x ← getL i
    let y ← getL j
    newL (x ++ y)
  | .tup x, .tup y => if x.isEmpty || !decide (x.length + y.length ≤ sizeLine) then bad else pure (.tup (x ++ y))
  | _, _ => bad
theorem getL_ok {n : Nat} {h h1 : AH} {xs : List D} (e : getL n h = .ok xs h1) : h1 = h ∧ h[n]? = some (.lst xs) := by
  unfold getL at e
  split at e
  · rename_i q; cases e; exact ⟨rfl, q⟩
  · cases e
theorem getL_no {n : Nat} {h h1 : AH} {x : Exn} (e : getL n h = .err x h1) : False := by
  unfold getL at e
  split at e <;> cases e
theorem op_plus : OpR X (binaryOp .Add) (fun x y H Q => rI0 (fun i j => .int (i + j)) x y H Q ∨ (∃ i j, x = .str i ∧ y = .str j ∧ i.length + j.length ≤ sizeLine ∧ Q (.str (i ++ j)) H) ∨ rCat x y H Q ∨ rCatT X.K x y H Q) :=
  op_add.or (op_add_str.or (op_cat.or op_catT))
theorem br_plus : BR X.K EX (fun x y H Q => rI0 (fun i j => .int (i + j)) x y H Q ∨ (∃ i j, x = .str i ∧ y = .str j ∧ i.length + j.length ≤ sizeLine ∧ Q (.str (i ++ j)) H) ∨ rCat x y H Q ∨ rCatT X.K x y H Q) fAdd := by
  intro ρ h H x y v u Q r rx ry fin
  unfold fAdd at fin
  split at fin
  · simp only [RD] at rx ry; subst rx; subst ry
    exact .inl ⟨_, _, rfl, rfl, FE.here fin r (by simp [RD])⟩
  · simp only [RD] at rx ry; subst rx; subst ry
    split at fin
    · rename_i hl
      exact .inr (.inl ⟨_, _, rfl, rfl, hl, FE.here fin r (by simp [RD])⟩)
    · exact fin.elim
  · rename_i i j
    simp only [RD] at rx ry
    obtain ⟨ai, rfl, hi⟩ := rx
    obtain ⟨aj, rfl, hj⟩ := ry
    have f1 := Fin.bind fin
    cases e : getL i h with
    | bad => rw [e] at f1; exact f1.elim
    | err z hz => exact (getL_no e).elim
    | ok xs h1 =>
      obtain ⟨rfl, q1⟩ := getL_ok e
      rw [e] at f1
      have f2 := Fin.bind (f1 ρ H (Pre.refl _) (Ext.refl _ _) r)
      cases e3 : getL j h1 with
      | bad => rw [e3] at f2; exact f2.elim
      | err z hz => exact (getL_no e3).elim
      | ok ys h2 =>
        obtain ⟨rfl, q2⟩ := getL_ok e3
        rw [e3] at f2
        have f3 := f2 ρ H (Pre.refl _) (Ext.refl _ _) r
        dsimp only at f3
        unfold newL at f3
        split at f3
        · rename_i hl
          obtain ⟨a1, n1, xs1, o1, d1⟩ := r.at q1
          obtain ⟨a2, n2, xs2, o2, d2⟩ := r.at q2
          rw [hi] at n1; cases n1
          rw [hj] at n2; cases n2
          refine .inr (.inr (.inl ⟨_, _, _, _, rfl, rfl, o1, o2, ?_, fun p hp => FE.lst f3 r (d1.append d2) hp⟩))
          rw [← d1.length, ← d2.length, ← List.length_append]; exact hl
        · exact f3.elim
  · rename_i x y
    simp only [RD] at rx ry
    obtain ⟨ax, xs, rfl, hx, dx⟩ := rx
    obtain ⟨ay, ys, rfl, hy, dy⟩ := ry
    split at fin
    · exact fin.elim
    · rename_i hc
      simp at hc
      have l1 := dx.length
      have l2 := dy.length
      refine .inr (.inr (.inr ⟨ax, ay, xs, ys, rfl, rfl, hx, hy, ?_, by omega, fun e => ?_, fun e p hp => FE.tup fin r (dx.append dy) hp⟩))
      · intro z; subst z; simp at l1; exact hc.1 l1
      · subst e
        refine FE.here fin r ?_
        simp only [RD]
        have : y = [] := by simpa using l2
        subst this
        exact ⟨ax, xs, rfl, hx, by simpa using dx⟩
  · exact fin.elim
theorem se_add (ha : SE X EX a ma) (hb : SE X EX b mb) : SE X EX (.BinOp a .Add b pos) (e2 fAdd ma mb) := se_op op_plus br_plus ha hb

/-! ### * -/
def fMul : D → D → M D
  | .int i, .int j => if (decide (-(2 ^ 64) < i) && decide (i < 2 ^ 64)) || (decide (-(2 ^ 64) < j) && decide (j < 2 ^ 64)) then pure (.int (i * j)) else bad
  | .ref i, .int j => do
    let x ← getL i
    if decide (-(2 ^ 63) ≤ j) && decide (j < 2 ^ 63) then newL (List.replicate j.toNat x).flatten else bad
  | _, _ => bad
theorem br_mul : BR X.K EX (fun x y H Q => rI CMul (fun i j => .int (i * j)) x y H Q ∨ rRep x y H Q) fMul := by
  intro ρ h H x y v u Q r rx ry fin
  unfold fMul at fin
  split at fin
  · simp only [RD] at rx ry; subst rx; subst ry
    split at fin
    · rename_i hc
      refine .inl ⟨_, _, rfl, rfl, ?_, FE.here fin r (by simp [RD])⟩
      simp only [Bool.or_eq_true, Bool.and_eq_true, decide_eq_true_eq] at hc
      exact hc
    · exact fin.elim
  · rename_i i j
    simp only [RD] at rx ry
    obtain ⟨ai, rfl, hi⟩ := rx
    subst ry
    have f1 := Fin.bind fin
    cases e : getL i h with
    | bad => rw [e] at f1; exact f1.elim
    | err z hz => exact (getL_no e).elim
    | ok xs h1 =>
      obtain ⟨rfl, q1⟩ := getL_ok e
      rw [e] at f1
      have f2 := f1 ρ H (Pre.refl _) (Ext.refl _ _) r
      dsimp only at f2
      split at f2
      · rename_i hb
        simp only [Bool.and_eq_true, decide_eq_true_eq] at hb
        unfold newL at f2
        split at f2
        · rename_i hl
          obtain ⟨a1, n1, xs1, o1, d1⟩ := r.at q1
          rw [hi] at n1; cases n1
          refine .inr ⟨_, _, _, rfl, rfl, o1, hb.1, hb.2, ?_, fun p hp => FE.lst f2 r (d1.flat j.toNat) hp⟩
          rw [L2.len_rep, d1.length] at hl
          rw [Nat.mul_comm]; exact hl
        · exact f2.elim
      · exact f2.elim
  · exact fin.elim
theorem se_mul (ha : SE X EX a ma) (hb : SE X EX b mb) : SE X EX (.BinOp a .Mult b pos) (e2 fMul ma mb) := se_op (op_mul.or op_rep) br_mul ha hb

/-! ### comparisons -/
def fCmp (g : Int → Int → Bool) : D → D → M D := fI fun i j => .bl (g i j)
theorem se_lt_of {op : CmpOp} {g : Int → Int → Bool} (ho : OpR X (compareOp op) (rI0 fun i j => .bl (g i j))) (ha : SE X EX a ma) (hb : SE X EX b mb) (hm : behindInMarks op b = false) : SE X EX (.Compare a [op] [b] pos) (e2 (fCmp g) ma mb) :=
  se_cmp ho (br_I0 fun i j ρ H => by simp [RD]) ha hb hm
/-- < and <= of ints and of texts -/
def fLt : D → D → M D
  | .int i, .int j => pure (.bl (decide (i < j)))
  | .str i, .str j => pure (.bl (decide (i.cps.toList < j.cps.toList)))
  | _, _ => bad
def fLe : D → D → M D
  | .int i, .int j => pure (.bl (decide (i ≤ j)))
  | .str i, .str j => pure (.bl (!decide (j.cps.toList < i.cps.toList)))
  | _, _ => bad
def fGt : D → D → M D := fCmp fun i j => decide (j < i)
def fGe : D → D → M D := fCmp fun i j => decide (j ≤ i)
theorem op_le_str : OpR X (compareOp .LtE) (fun x y H Q => ∃ i j, x = .str i ∧ y = .str j ∧ Q (.bl (!decide (j.cps.toList < i.cps.toList))) H) := by
  intro pins s σ H x y v u Q I rx ry h
  obtain ⟨i, j, rfl, rfl, q⟩ := h
  obtain ⟨t, rfl⟩ := rx
  obtain ⟨t', rfl⟩ := ry
  exact PySem.P.le_str ⟨.bl _, H, I, rfl, q⟩
theorem br_lt {K : PySem.W.Frag} : BR K EX (fun x y H Q => rI0 (fun i j => .bl (decide (i < j))) x y H Q ∨ ∃ i j, x = .str i ∧ y = .str j ∧ Q (.bl (decide (i.cps.toList < j.cps.toList))) H) fLt := by
  intro ρ h H x y v u Q r rx ry fin
  unfold fLt at fin
  split at fin
  · simp only [RD] at rx ry; subst rx; subst ry
    exact .inl ⟨_, _, rfl, rfl, FE.here fin r (by simp [RD])⟩
  · simp only [RD] at rx ry; subst rx; subst ry
    exact .inr ⟨_, _, rfl, rfl, FE.here fin r (by simp [RD])⟩
  · exact fin.elim
theorem br_le {K : PySem.W.Frag} : BR K EX (fun x y H Q => rI0 (fun i j => .bl (decide (i ≤ j))) x y H Q ∨ ∃ i j, x = .str i ∧ y = .str j ∧ Q (.bl (!decide (j.cps.toList < i.cps.toList))) H) fLe := by
  intro ρ h H x y v u Q r rx ry fin
  unfold fLe at fin
  split at fin
  · simp only [RD] at rx ry; subst rx; subst ry
    exact .inl ⟨_, _, rfl, rfl, FE.here fin r (by simp [RD])⟩
  · simp only [RD] at rx ry; subst rx; subst ry
    exact .inr ⟨_, _, rfl, rfl, FE.here fin r (by simp [RD])⟩
  · exact fin.elim
theorem se_lt (ha : SE X EX a ma) (hb : SE X EX b mb) : SE X EX (.Compare a [.Lt] [b] pos) (e2 fLt ma mb) := se_cmp (op_lt.or op_lt_str) br_lt ha hb (nomark _)
theorem se_le (ha : SE X EX a ma) (hb : SE X EX b mb) : SE X EX (.Compare a [.LtE] [b] pos) (e2 fLe ma mb) := se_cmp (op_le.or op_le_str) br_le ha hb (nomark _)
theorem se_gt (ha : SE X EX a ma) (hb : SE X EX b mb) : SE X EX (.Compare a [.Gt] [b] pos) (e2 fGt ma mb) := se_lt_of op_gt ha hb (nomark _)
theorem se_ge (ha : SE X EX a ma) (hb : SE X EX b mb) : SE X EX (.Compare a [.GtE] [b] pos) (e2 fGe ma mb) := se_lt_of op_ge ha hb (nomark _)
/-- == of scalars -/
def eqD : D → D → Option Bool
  | .int i, .int j => some (decide (i = j))
  | .str i, .str j => some (decide (i = j))
  | .bl i, .bl j => some (decide (i = j))
  | .non, .non => some true
  | .int _, .str _ => some false
  | .str _, .int _ => some false
  | .non, .int _ => some false
  | .int _, .non => some false
  | .non, .str _ => some false
  | .str _, .non => some false
  | _, _ => none
def fEq (neg : Bool) : D → D → M D := fun x y => match eqD x y with
  | some b => pure (.bl (b != neg))
  | none => bad
theorem eqD_rel {K : PySem.W.Frag} {ρ : List Addr} {H : Hp} {x y : D} {v u : V} {k : Bool} (e : eqD x y = some k) (rx : RD K ρ H x v) (ry : RD K ρ H y u) : scal v u = true ∧ decide (v = u) = k := by
  cases x <;> cases y <;> first
    | (have e' : none = some k := e
       exact nomatch e')
    | (simp only [eqD] at e
       simp only [RD] at rx ry
       subst rx
       subst ry
       cases e
       exact ⟨rfl, by simp⟩)
theorem br_eq {K : PySem.W.Frag} : BR K EX rEq (fEq false) := by
  intro ρ h H x y v u Q r rx ry fin
  unfold fEq at fin
  cases hk : eqD x y with
  | none => rw [hk] at fin; exact fin.elim
  | some k =>
    rw [hk] at fin
    obtain ⟨h1, h2⟩ := eqD_rel hk rx ry
    refine ⟨h1, ?_⟩
    rw [h2]
    refine FE.here fin r ?_
    cases k <;> simp [RD]
theorem br_ne {K : PySem.W.Frag} : BR K EX rNe (fEq true) := by
  intro ρ h H x y v u Q r rx ry fin
  unfold fEq at fin
  cases hk : eqD x y with
  | none => rw [hk] at fin; exact fin.elim
  | some k =>
    rw [hk] at fin
    obtain ⟨h1, h2⟩ := eqD_rel hk rx ry
    refine ⟨h1, ?_⟩
    rw [h2]
    refine FE.here fin r ?_
    cases k <;> simp [RD]
theorem se_eq (ha : SE X EX a ma) (hb : SE X EX b mb) : SE X EX (.Compare a [.Eq] [b] pos) (e2 (fEq false) ma mb) := se_cmp op_eq br_eq ha hb (nomark _)
theorem se_ne (ha : SE X EX a ma) (hb : SE X EX b mb) : SE X EX (.Compare a [.NotEq] [b] pos) (e2 (fEq true) ma mb) := se_cmp op_ne br_ne ha hb (nomark _)

/-! ### in -/
def flatD : D → Bool
  | .non => true
  | .bl _ => true
  | .int _ => true
  | .str _ => true
  | _ => false
def eqF : D → D → Bool
  | .non, .non => true
  | .bl a, .bl b => a == b
  | .bl a, .int b => (if a then 1 else 0) == b
  | .int a, .bl b => a == (if b then 1 else 0)
  | .int a, .int b => a == b
  | .str a, .str b => a == b
  | _, _ => false
def seqD : D → M (List D)
  | .tup xs => pure xs
  | .fl xs => pure xs
  | .ref n => getL n
  | _ => bad
def fIn (neg : Bool) : D → D → M D := fun x y => do
  let ys ← seqD y
  if flatD x && ys.all flatD then pure (.bl ((ys.any fun z => eqF z x) != neg)) else bad
theorem flat_rel {K : PySem.W.Frag} {ρ : List Addr} {H : Hp} {x : D} {v : V} (f : flatD x = true) (r : RD K ρ H x v) : flatV v = true := by
  cases x <;> simp only [RD] at r <;> first | (subst r; rfl) | cases f
theorem eqF_rel {K : PySem.W.Frag} {ρ : List Addr} {H : Hp} {x y : D} {v u : V} (f : flatD x = true) (f' : flatD y = true) (r : RD K ρ H x v) (r' : RD K ρ H y u) : eqV v u = eqF x y := by
  cases x with
  | non => simp only [RD] at r; subst r; cases y <;> first | (simp only [RD] at r'; subst r'; rfl) | cases f'
  | bl b => simp only [RD] at r; subst r; cases y <;> first | (simp only [RD] at r'; subst r'; rfl) | cases f'
  | int b => simp only [RD] at r; subst r; cases y <;> first | (simp only [RD] at r'; subst r'; rfl) | cases f'
  | str b => simp only [RD] at r; subst r; cases y <;> first | (simp only [RD] at r'; subst r'; rfl) | cases f'
  | tup b => cases f
  | fl b => cases f
  | ref b => cases f
theorem flats_rel {K : PySem.W.Frag} {ρ : List Addr} {H : Hp} : ∀ {xs : List D} {vs : List V}, RDs K ρ H xs vs → xs.all flatD = true → vs.all flatV = true
  | [], vs, r, _ => by simp only [RDs] at r; subst r; rfl
  | x :: xs, vs, r, f => by
    simp only [RDs] at r
    obtain ⟨v, r2, rfl, h1, h2⟩ := r
    rw [List.all_cons, Bool.and_eq_true] at f ⊢
    exact ⟨flat_rel f.1 h1, flats_rel h2 f.2⟩
theorem any_rel {K : PySem.W.Frag} {ρ : List Addr} {H : Hp} {x : D} {v : V} (f : flatD x = true) (r : RD K ρ H x v) : ∀ {xs : List D} {vs : List V}, RDs K ρ H xs vs → xs.all flatD = true → (vs.any fun y => eqV y v) = xs.any fun z => eqF z x
  | [], vs, rs, _ => by simp only [RDs] at rs; subst rs; rfl
  | y :: xs, vs, rs, fs => by
    simp only [RDs] at rs
    obtain ⟨u, r2, rfl, h1, h2⟩ := rs
    rw [List.all_cons, Bool.and_eq_true] at fs
    rw [List.any_cons, List.any_cons, eqF_rel fs.1 f h1 r, any_rel f r h2 fs.2]
/-- what seqD reads -/
theorem seqD_rel {K : PySem.W.Frag} {ρ : List Addr} {h h1 : AH} {H : Hp} {y : D} {u : V} {ys : List D} (r : RH K ρ h H) (ry : RD K ρ H y u) (e : seqD y h = .ok ys h1) : h1 = h ∧ ∃ p xs, u = .ref p ∧ (SqL K H p xs ∨ SqT K H p xs) ∧ RDs K ρ H ys xs := by
  unfold seqD at e
  split at e
  · cases e; simp only [RD] at ry; obtain ⟨p, xs, rfl, h2, h3⟩ := ry; exact ⟨rfl, p, xs, rfl, .inr h2, h3⟩
  · cases e; simp only [RD] at ry; obtain ⟨p, xs, rfl, h2, h3⟩ := ry; exact ⟨rfl, p, xs, rfl, .inl h2.sq, h3⟩
  · obtain ⟨rfl, q⟩ := getL_ok e
    simp only [RD] at ry; obtain ⟨p, rfl, h2⟩ := ry
    obtain ⟨a, n1, xs, o1, d1⟩ := r.at q
    rw [h2] at n1; cases n1
    exact ⟨rfl, p, xs, rfl, .inl (SqL.of o1), d1⟩
  · cases e
theorem seqD_no {y : D} {h h1 : AH} {x : Exn} (e : seqD y h = .err x h1) : False := by
  unfold seqD at e
  split at e
  · cases e
  · cases e
  · exact getL_no e
  · cases e
theorem br_in {K : PySem.W.Frag} {neg : Bool} : BR K EX (rIn K neg) (fIn neg) := by
  intro ρ h H x y v u Q r rx ry fin
  have f1 := Fin.bind fin
  cases e : seqD y h with
  | bad => rw [e] at f1; exact f1.elim
  | err z hz => exact (seqD_no e).elim
  | ok ys h1 =>
    obtain ⟨rfl, p, xs, rfl, hs, hd⟩ := seqD_rel r ry e
    rw [e] at f1
    have f2 := f1 ρ H (Pre.refl _) (Ext.refl _ _) r
    dsimp only at f2
    split at f2
    · rename_i hc
      rw [Bool.and_eq_true] at hc
      refine ⟨p, xs, rfl, hs, flat_rel hc.1 rx, flats_rel hd hc.2, ?_⟩
      refine FE.here f2 r ?_
      unfold inV
      rw [any_rel hc.1 rx hd hc.2]
      cases neg <;> simp [RD]
    · exact f2.elim
theorem se_in (ha : SE X EX a ma) (hb : SE X EX b mb) (hm : behindInMarks .In b = false := by with_unfolding_all rfl) : SE X EX (.Compare a [.In] [b] pos) (e2 (fIn false) ma mb) := se_cmp op_in_seq br_in ha hb hm
theorem se_notin (ha : SE X EX a ma) (hb : SE X EX b mb) (hm : behindInMarks .NotIn b = false := by with_unfolding_all rfl) : SE X EX (.Compare a [.NotIn] [b] pos) (e2 (fIn true) ma mb) := se_cmp op_notIn_seq br_in ha hb hm
end
end FT
set_option Elab.async false
set_option linter.all false
set_option maxRecDepth 100000
namespace FT
open PySem PySem.Spec PyProof.Rows L2

/-! argument lists without a star -/
section
variable {env : Env} {es : List Expr}
theorem st_Constant {c k p} : starEach (.Constant c k p :: es) env = (false, eval (.Constant c k p) env) :: starEach es env := rfl
theorem st_Name {c p} : starEach (.Name c p :: es) env = (false, eval (.Name c p) env) :: starEach es env := rfl
theorem st_Call {a b c p} : starEach (.Call a b c p :: es) env = (false, eval (.Call a b c p) env) :: starEach es env := rfl
theorem st_BinOp {a b c p} : starEach (.BinOp a b c p :: es) env = (false, eval (.BinOp a b c p) env) :: starEach es env := rfl
theorem st_Compare {a b c p} : starEach (.Compare a b c p :: es) env = (false, eval (.Compare a b c p) env) :: starEach es env := rfl
theorem st_Subscript {a b p} : starEach (.Subscript a b p :: es) env = (false, eval (.Subscript a b p) env) :: starEach es env := rfl
theorem st_Tuple {a b p} : starEach (.Tuple a b p :: es) env = (false, eval (.Tuple a b p) env) :: starEach es env := rfl
theorem st_List {a p} : starEach (.List a p :: es) env = (false, eval (.List a p) env) :: starEach es env := rfl
theorem st_UnaryOp {a b p} : starEach (.UnaryOp a b p :: es) env = (false, eval (.UnaryOp a b p) env) :: starEach es env := rfl
theorem st_ListComp {a b c p} : starEach (.ListComp a b c p :: es) env = (false, eval (.ListComp a b c p) env) :: starEach es env := rfl
end
section
variable {X : Cx} {EX : XX} {a b c e : Expr} {pos : Pos} {ma mb mc : G → M D}

/-! ### comparisons, bundled -/
def CO (X : Cx) (EX : XX) (op : CmpOp) (f : D → D → M D) : Prop := ∃ r, OpR X (compareOp op) r ∧ BR X.K EX r f
theorem co_lt : CO X EX .Lt fLt := ⟨_, op_lt.or op_lt_str, br_lt⟩
theorem co_le : CO X EX .LtE fLe := ⟨_, op_le.or op_le_str, br_le⟩
theorem co_gt : CO X EX .Gt fGt := ⟨_, op_gt, br_I0 fun i j ρ H => by simp [RD]⟩
theorem co_ge : CO X EX .GtE fGe := ⟨_, op_ge, br_I0 fun i j ρ H => by simp [RD]⟩
theorem co_eq : CO X EX .Eq (fEq false) := ⟨_, op_eq, br_eq⟩
theorem co_ne : CO X EX .NotEq (fEq true) := ⟨_, op_ne, br_ne⟩
theorem co_in : CO X EX .In (fIn false) := ⟨_, op_in_seq, br_in⟩
theorem co_notin : CO X EX .NotIn (fIn true) := ⟨_, op_notIn_seq, br_in⟩
/-- x is True, x is None .. -/
def fIs (neg : Bool) : D → D → M D := fun x y => match y with
  | .non => (match x with
    | .non => pure (.bl (true != neg))
    | .bl _ => pure (.bl (false != neg))
    | .int _ => pure (.bl (false != neg))
    | .str _ => pure (.bl (false != neg))
    | .tup _ => pure (.bl (false != neg))
    | _ => bad)
  | .bl k => (match x with
    | .bl j => pure (.bl ((j == k) != neg))
    | .non => pure (.bl (false != neg))
    | .int _ => pure (.bl (false != neg))
    | .str _ => pure (.bl (false != neg))
    | .tup _ => pure (.bl (false != neg))
    | _ => bad)
  | _ => bad
theorem op_is_bl (neg : Bool) : OpR X (compareOp (if neg then .IsNot else .Is)) (fun x y H Q => (y = .non ∧ Q (.bl ((decide (x = .non)) != neg)) H) ∨ ∃ k, y = .bl k ∧ Q (.bl ((decide (x = .bl k)) != neg)) H) := by
  intro pins s σ H x y v u Q I rx ry h
  have pl : ∀ {a b : Value}, plainIs a b = true → EP X pins σ Q (.bool ((a == b) != neg)) s → wpAny (model X.prog X.w) X.A (compareOp (if neg then .IsNot else .Is) a b) (EP X pins σ Q) X.xe s := fun {a b} hp hq => by
    cases neg with
    | false => exact wpAny_is_plain hp (by simpa using hq)
    | true => exact wpAny_isNot_plain hp (by simpa using hq)
  rcases h with ⟨rfl, q⟩ | ⟨k, rfl, q⟩
  · cases ry
    have fin : ∀ {a : Value} {w : Bool}, w = decide (x = .non) → (a == Value.none) = w → EP X pins σ Q (.bool ((a == Value.none) != neg)) s := fun {a w} e1 e2 => by
      rw [e2, e1]; exact ⟨.bl _, H, I, rfl, q⟩
    cases x with
    | non => cases rx; exact pl rfl (fin (w := true) (by simp) rfl)
    | bl j => cases rx; exact pl rfl (fin (w := false) (by simp) rfl)
    | int j => obtain ⟨t, rfl⟩ := rx; exact pl rfl (fin (w := false) (by simp) rfl)
    | str j => obtain ⟨t, rfl⟩ := rx; exact pl rfl (fin (w := false) (by simp) rfl)
    | byt j => obtain ⟨t, rfl⟩ := rx; exact pl rfl (fin (w := false) (by simp) rfl)
    | flt j => obtain ⟨t, rfl⟩ := rx; exact pl rfl (fin (w := false) (by simp) rfl)
    | ref j => cases rx; exact pl rfl (fin (w := false) (by simp) rfl)
    | ty j => cases rx; exact pl rfl (fin (w := false) (by simp) rfl)
  · cases ry
    have fin : ∀ {a : Value} {w : Bool}, w = decide (x = .bl k) → (a == Value.bool k) = w → EP X pins σ Q (.bool ((a == Value.bool k) != neg)) s := fun {a w} e1 e2 => by
      rw [e2, e1]; exact ⟨.bl _, H, I, rfl, q⟩
    cases x with
    | non => cases rx; exact pl rfl (fin (w := false) (by simp) rfl)
    | bl j => cases rx; exact pl rfl (fin (w := (j == k)) (by rw [Bool.eq_iff_iff]; simp) (by cases j <;> cases k <;> rfl))
    | int j => obtain ⟨t, rfl⟩ := rx; exact pl rfl (fin (w := false) (by simp) rfl)
    | str j => obtain ⟨t, rfl⟩ := rx; exact pl rfl (fin (w := false) (by simp) rfl)
    | byt j => obtain ⟨t, rfl⟩ := rx; exact pl rfl (fin (w := false) (by simp) rfl)
    | flt j => obtain ⟨t, rfl⟩ := rx; exact pl rfl (fin (w := false) (by simp) rfl)
    | ref j => cases rx; exact pl rfl (fin (w := false) (by simp) rfl)
    | ty j => cases rx; exact pl rfl (fin (w := false) (by simp) rfl)

theorem isnon_rel {K : PySem.W.Frag} {ρ : List Addr} {H : Hp} {x : D} {v : V} (rx : RD K ρ H x v) : decide (v = .non) = (match x with | .non => true | _ => false) := by
  cases x <;> simp only [RD] at rx
  case non => subst rx; simp
  case bl => subst rx; simp
  case int => subst rx; simp
  case str => subst rx; simp
  case tup => obtain ⟨a, xs, rfl, _⟩ := rx; simp
  case fl => obtain ⟨a, xs, rfl, _⟩ := rx; simp
  case ref => obtain ⟨a, rfl, _⟩ := rx; simp
theorem isbl_rel {K : PySem.W.Frag} {ρ : List Addr} {H : Hp} {x : D} {v : V} {k : Bool} (rx : RD K ρ H x v) : decide (v = .bl k) = (match x with | .bl j => j == k | _ => false) := by
  cases x <;> simp only [RD] at rx
  case non => subst rx; simp
  case bl j => subst rx; cases j <;> cases k <;> rfl
  case int => subst rx; simp
  case str => subst rx; simp
  case tup => obtain ⟨a, xs, rfl, _⟩ := rx; simp
  case fl => obtain ⟨a, xs, rfl, _⟩ := rx; simp
  case ref => obtain ⟨a, rfl, _⟩ := rx; simp
theorem br_is {K : PySem.W.Frag} (neg : Bool) : BR K EX (fun x y H Q => (y = .non ∧ Q (.bl ((decide (x = .non)) != neg)) H) ∨ ∃ k, y = .bl k ∧ Q (.bl ((decide (x = .bl k)) != neg)) H) (fIs neg) := by
  intro ρ h H x y v u Q r rx ry fin
  cases y with
  | non =>
    simp only [RD] at ry
    refine .inl ⟨ry, ?_⟩
    rw [isnon_rel rx]
    cases x <;> first | exact (show False from fin).elim | exact FE.here fin r (by simp [RD])
  | bl k =>
    simp only [RD] at ry
    refine .inr ⟨k, ry, ?_⟩
    rw [isbl_rel rx]
    cases x <;> first | exact (show False from fin).elim | exact FE.here fin r (by simp [RD])
  | _ => exact (show False from fin).elim
theorem co_is : CO X EX .Is (fIs false) := ⟨_, op_is_bl false, br_is false⟩
theorem co_isnot : CO X EX .IsNot (fIs true) := ⟨_, op_is_bl true, br_is true⟩
theorem se_c {op : CmpOp} {f : D → D → M D} (h : CO X EX op f) (ha : SE X EX a ma) (hb : SE X EX b mb) (hm : behindInMarks op b = false := by first | exact nomark _ | with_unfolding_all rfl) : SE X EX (.Compare a [op] [b] pos) (e2 f ma mb) := by
  obtain ⟨r, h1, h2⟩ := h
  exact se_cmp h1 h2 ha hb hm

/-! ### tests -/
def asB : D → M Bool
  | .bl b => pure b
  | _ => bad
theorem tT_of {t : TE} {m : G → M D} (h : ∀ σ H Q, tE X.K EX m σ H Q → t σ H Q) : ∀ σ H Q, tT X.K EX (fun γ => do let d ← m γ; asB d) σ H Q → tTest t σ H Q := by
  intro σ H Q ⟨ρ, γ, h0, rel, fin⟩
  refine h σ H _ ⟨ρ, γ, h0, rel, (Fin.bind fin).mono fun d ρ1 h1 H1 p1 e1 r1 f1 v rv => ?_⟩
  cases d <;> first | exact (show False from f1).elim | skip
  rename_i b
  simp only [RD] at rv
  exact ⟨b, rv, f1 ρ1 H1 (Pre.refl _) (Ext.refl _ _) r1⟩
theorem sc_c {op : CmpOp} {f : D → D → M D} (h : CO X EX op f) (ha : SE X EX a ma) (hb : SE X EX b mb) (hm : behindInMarks op b = false := by first | exact nomark _ | with_unfolding_all rfl) : SC X EX (.Compare a [op] [b] pos) (fun γ => do let d ← e2 f ma mb γ; asB d) := by
  constructor
  obtain ⟨r, h1, h2⟩ := h
  refine PT.imp (pt_cmpR h1 ha.h hb.h hm) (tT_of fun σ H Q ⟨ρ, γ, h, rel, fin⟩ => ?_)
  exact ⟨ρ, γ, h, rel, (Fin.bind fin).mono fun x ρ1 h1 H1 p1 e1 r1 f1 v rv => ⟨ρ1, γ, h1, ⟨rel.g.mono p1 e1, r1⟩, (Fin.bind f1).mono fun y ρ2 h3 H2 p2 e2 r2 f2 u ru =>
    h2 ρ2 h3 H2 x y v u Q r2 (rv.mono p2 e2) ru f2⟩⟩
/-- a op b op' c -/
def e3 (f g : D → D → M D) (ma mb mc : G → M D) : G → M D := fun γ => do
  let x ← ma γ
  let y ← mb γ
  let k ← f x y
  let t ← asB k
  if t then do
    let z ← mc γ
    g y z
  else pure (.bl false)
theorem chain_of {r r' : R2} {f g : D → D → M D} (h2 : BR X.K EX r f) (h4 : BR X.K EX r' g) : ∀ σ H Q, tE X.K EX (e3 f g ma mb mc) σ H Q → tChain r r' (tE X.K EX ma) (tE X.K EX mb) (tE X.K EX mc) σ H Q := by
  intro σ H Q ⟨ρ, γ, h, rel, fin⟩
  refine ⟨ρ, γ, h, rel, (Fin.bind fin).mono fun x ρ1 h1 H1 p1 e1 r1 f1 v rv => ⟨ρ1, γ, h1, ⟨rel.g.mono p1 e1, r1⟩, (Fin.bind f1).mono fun y ρ2 h3 H2 p2 e2 r2 f2 u ru => ?_⟩⟩
  refine h2 ρ2 h3 H2 x y v u _ r2 (rv.mono p2 e2) ru ((Fin.bind f2).mono fun k ρ3 h5 H3 p3 e3 r3 f3 z rz => ?_)
  cases k <;> first | exact (show False from f3).elim | skip
  rename_i t
  simp only [RD] at rz
  refine ⟨t, rz, ?_⟩
  cases t with
  | false =>
    rw [if_neg (by decide)]
    exact FE.here (d := .bl false) (h := h5) (ρ := ρ3) f3 r3 (by simp [RD])
  | true =>
    rw [if_pos rfl]
    have f4 : Fin X.K EX ρ3 H3 (fun d ρ' _ H' => ∀ v, RD X.K ρ' H' d v → Q v H') ((mc γ >>= fun z => g y z) h5) := f3
    exact ⟨ρ3, γ, h5, ⟨((rel.g.mono p1 e1).mono p2 e2).mono p3 e3, r3⟩, (Fin.bind f4).mono fun w ρ4 h6 H4 p4 e4 r4 f5 q rq => h4 ρ4 h6 H4 y w u q Q r4 ((ru.mono p3 e3).mono p4 e4) rq f5⟩
theorem se_c2 {op op' : CmpOp} {f g : D → D → M D} (h : CO X EX op f) (h' : CO X EX op' g) (ha : SE X EX a ma) (hb : SE X EX b mb) (hc : SE X EX c mc) (hm : lastMarks [op, op'] [b, c] = false := by with_unfolding_all rfl) : SE X EX (.Compare a [op, op'] [b, c] pos) (e3 f g ma mb mc) := by
  constructor
  obtain ⟨r, h1, h2⟩ := h
  obtain ⟨r', h3, h4⟩ := h'
  exact PE.imp (pe_chain h1 h3 ha.h hb.h hc.h hm) (chain_of h2 h4)
theorem sc_c2 {op op' : CmpOp} {f g : D → D → M D} (h : CO X EX op f) (h' : CO X EX op' g) (ha : SE X EX a ma) (hb : SE X EX b mb) (hc : SE X EX c mc) (hm : lastMarks [op, op'] [b, c] = false := by with_unfolding_all rfl) : SC X EX (.Compare a [op, op'] [b, c] pos) (fun γ => do let d ← e3 f g ma mb mc γ; asB d) := by
  constructor
  obtain ⟨r, h1, h2⟩ := h
  obtain ⟨r', h3, h4⟩ := h'
  exact PT.imp (pt_chain h1 h3 ha.h hb.h hc.h hm) (tT_of (chain_of h2 h4))

/-! ### and, or, not, if else -/
def eAnd (ma mb : G → M D) : G → M D := fun γ => do
  let x ← ma γ
  let t ← asB x
  if t then mb γ else pure (.bl false)
def eOr (ma mb : G → M D) : G → M D := fun γ => do
  let x ← ma γ
  let t ← asB x
  if t then pure (.bl true) else mb γ
def eNot (ma : G → M D) : G → M D := fun γ => do
  let x ← ma γ
  let t ← asB x
  pure (.bl (!t))
variable {rest : List Expr}
theorem se_one {op : PySem.BoolOp} (ha : SE X EX a ma) : SE X EX (.BoolOp op [a] pos) ma := ⟨pe_one ha.h⟩
theorem se_band (ha : SE X EX a ma) (hb : SE X EX (.BoolOp .And (b :: rest) pos) mb) : SE X EX (.BoolOp .And (a :: b :: rest) pos) (eAnd ma mb) :=
  ⟨PE.imp (pe_and ha.h hb.h) fun σ H Q ⟨ρ, γ, h, rel, fin⟩ => ⟨ρ, γ, h, rel, (Fin.bind fin).mono fun x ρ1 h1 H1 p1 e1 r1 f1 v rv => by
    cases x <;> first | exact (show False from f1).elim | skip
    rename_i t
    simp only [RD] at rv
    refine ⟨t, rv, ?_⟩
    cases t with
    | true => exact ⟨ρ1, γ, h1, ⟨rel.g.mono p1 e1, r1⟩, f1⟩
    | false => exact FE.here (d := .bl false) (h := h1) (ρ := ρ1) f1 r1 (by simp [RD])⟩⟩
theorem se_bor (ha : SE X EX a ma) (hb : SE X EX (.BoolOp .Or (b :: rest) pos) mb) : SE X EX (.BoolOp .Or (a :: b :: rest) pos) (eOr ma mb) :=
  ⟨PE.imp (pe_or ha.h hb.h) fun σ H Q ⟨ρ, γ, h, rel, fin⟩ => ⟨ρ, γ, h, rel, (Fin.bind fin).mono fun x ρ1 h1 H1 p1 e1 r1 f1 v rv => by
    cases x <;> first | exact (show False from f1).elim | skip
    rename_i t
    simp only [RD] at rv
    refine ⟨t, rv, ?_⟩
    cases t with
    | false => exact ⟨ρ1, γ, h1, ⟨rel.g.mono p1 e1, r1⟩, f1⟩
    | true => exact FE.here (d := .bl true) (h := h1) (ρ := ρ1) f1 r1 (by simp [RD])⟩⟩
theorem se_bnot (ha : SE X EX a ma) : SE X EX (.UnaryOp .Not a pos) (eNot ma) :=
  ⟨PE.imp (pe_not ha.h) fun σ H Q ⟨ρ, γ, h, rel, fin⟩ => ⟨ρ, γ, h, rel, (Fin.bind fin).mono fun x ρ1 h1 H1 p1 e1 r1 f1 v rv => by
    cases x <;> first | exact (show False from f1).elim | skip
    rename_i t
    simp only [RD] at rv
    exact ⟨t, rv, FE.here (d := .bl (!t)) (h := h1) (ρ := ρ1) f1 r1 (by simp [RD])⟩⟩⟩
/-- tests -/
structure SW (X : Cx) (EX : XX) (e : Expr) (m : G → M Bool) : Prop where
  h : PW X e (tT X.K EX m)
theorem PW.imp {X : Cx} {e : Expr} {t t' : TT} (h : PW X e t) (f : ∀ σ H Q, t' σ H Q → t σ H Q) : PW X e t' := fun w pins s σ H Q I z => h w pins s σ H Q I (f σ H Q z)
variable {ka kb kc : G → M Bool}
def cAnd (ka kb : G → M Bool) : G → M Bool := fun γ => do
  let t ← ka γ
  if t then kb γ else pure false
def cOr (ka kb : G → M Bool) : G → M Bool := fun γ => do
  let t ← ka γ
  if t then pure true else kb γ
def cNot (ka : G → M Bool) : G → M Bool := fun γ => do
  let t ← ka γ
  pure (!t)
theorem sw_and1 (ha : SC X EX a ka) : SW X EX (.BoolOp .And [a] pos) ka := ⟨pw_and1 ha.h⟩
theorem sw_or1 (ha : SC X EX a ka) : SW X EX (.BoolOp .Or [a] pos) ka := ⟨pw_or1 ha.h⟩
theorem sw_and (ha : SC X EX a ka) (hb : SW X EX (.BoolOp .And (b :: rest) pos) kb) : SW X EX (.BoolOp .And (a :: b :: rest) pos) (cAnd ka kb) :=
  ⟨PW.imp (pw_and ha.h hb.h) fun σ H Q ⟨ρ, γ, h, rel, fin⟩ => ⟨ρ, γ, h, rel, (Fin.bind fin).mono fun t ρ1 h1 H1 p1 e1 r1 f1 => by
    cases t with
    | true => exact ⟨ρ1, γ, h1, ⟨rel.g.mono p1 e1, r1⟩, f1⟩
    | false => exact f1 ρ1 H1 (Pre.refl _) (Ext.refl _ _) r1⟩⟩
theorem sw_or (ha : SC X EX a ka) (hb : SW X EX (.BoolOp .Or (b :: rest) pos) kb) : SW X EX (.BoolOp .Or (a :: b :: rest) pos) (cOr ka kb) :=
  ⟨PW.imp (pw_or ha.h hb.h) fun σ H Q ⟨ρ, γ, h, rel, fin⟩ => ⟨ρ, γ, h, rel, (Fin.bind fin).mono fun t ρ1 h1 H1 p1 e1 r1 f1 => by
    cases t with
    | false => exact ⟨ρ1, γ, h1, ⟨rel.g.mono p1 e1, r1⟩, f1⟩
    | true => exact f1 ρ1 H1 (Pre.refl _) (Ext.refl _ _) r1⟩⟩
theorem SW.sc (h : SW X EX e ka) : SC X EX e ka := ⟨PW.pt h.h⟩
theorem sc_not (ha : SC X EX a ka) : SC X EX (.UnaryOp .Not a pos) (cNot ka) :=
  ⟨PT.imp (pt_not ha.h) fun σ H Q ⟨ρ, γ, h, rel, fin⟩ => ⟨ρ, γ, h, rel, (Fin.bind fin).mono fun t ρ1 h1 H1 p1 e1 r1 f1 => f1 ρ1 H1 (Pre.refl _) (Ext.refl _ _) r1⟩⟩
/-- a value's truth -/
def truD : D → M Bool
  | .non => pure false
  | .bl b => pure b
  | .int i => pure (i != 0)
  | .str y => if y.length ≤ sizeLine then pure (decide (y.length ≠ 0)) else bad
  | .tup xs => pure (!xs.isEmpty)
  | .fl xs => pure (!xs.isEmpty)
  | .ref n => do
    let xs ← getL n
    pure (!xs.isEmpty)
def cVal (ma : G → M D) : G → M Bool := fun γ => do
  let x ← ma γ
  truD x
theorem isE {K : PySem.W.Frag} {ρ : List Addr} {H : Hp} {ds : List D} {xs : List V} (h : RDs K ρ H ds xs) : ds.isEmpty = xs.isEmpty := by
  have := h.length
  cases ds <;> cases xs <;> simp at this ⊢
theorem tru_rel {ρ : List Addr} {h : AH} {H : Hp} {x : D} {v : V} {Q : Bool → Hp → Prop} (r : RH X.K ρ h H) (rx : RD X.K ρ H x v) (f : Fin X.K EX ρ H (fun b _ _ H' => Q b H') (truD x h)) : ∃ k, TruV X.K v H k ∧ Q k H := by
  cases x with
  | non => simp only [RD] at rx; subst rx; exact ⟨false, rfl, f ρ H (Pre.refl _) (Ext.refl _ _) r⟩
  | bl b => simp only [RD] at rx; subst rx; exact ⟨b, rfl, f ρ H (Pre.refl _) (Ext.refl _ _) r⟩
  | int b => simp only [RD] at rx; subst rx; exact ⟨_, rfl, f ρ H (Pre.refl _) (Ext.refl _ _) r⟩
  | str y =>
    simp only [RD] at rx; subst rx
    have f' : Fin X.K EX ρ H (fun b _ _ H' => Q b H') ((if y.length ≤ sizeLine then pure (decide (y.length ≠ 0)) else bad : M Bool) h) := f
    by_cases hl : y.length ≤ sizeLine
    · rw [if_pos hl] at f'
      refine ⟨decide (y.length ≠ 0), ⟨hl, ?_⟩, f' ρ H (Pre.refl _) (Ext.refl _ _) r⟩
      rw [Bool.eq_iff_iff]; simp
    · rw [if_neg hl] at f'; exact f'.elim
  | tup xs =>
    simp only [RD] at rx; obtain ⟨a, vs, rfl, h1, h2⟩ := rx
    exact ⟨!xs.isEmpty, .inr (.inl ⟨vs, h1, by rw [isE h2]⟩), f ρ H (Pre.refl _) (Ext.refl _ _) r⟩
  | fl xs =>
    simp only [RD] at rx; obtain ⟨a, vs, rfl, h1, h2⟩ := rx
    exact ⟨!xs.isEmpty, .inl ⟨vs, h1.sq, by rw [isE h2]⟩, f ρ H (Pre.refl _) (Ext.refl _ _) r⟩
  | ref n =>
    have f1 := Fin.bind f
    cases e : getL n h with
    | bad => rw [e] at f1; exact f1.elim
    | err z hz => exact (getL_no e).elim
    | ok xs h1 =>
      obtain ⟨rfl, q1⟩ := getL_ok e
      rw [e] at f1
      have f2 := f1 ρ H (Pre.refl _) (Ext.refl _ _) r
      simp only [RD] at rx; obtain ⟨a, rfl, h2⟩ := rx
      obtain ⟨a1, n1, vs, o1, d1⟩ := r.at q1
      rw [h2] at n1; cases n1
      exact ⟨!xs.isEmpty, .inl ⟨vs, SqL.of o1, by rw [isE d1]⟩, f2 ρ H (Pre.refl _) (Ext.refl _ _) r⟩
theorem sc_val (ha : SE X EX a ma) (he : ∀ whole, isTrue a X.env whole = (do let v ← whole; standAt a.pos; holding [v] (truthy v)) := by intro _; rfl) : SC X EX a (cVal ma) :=
  ⟨PT.imp (pt_truth ha.h he) fun σ H Q ⟨ρ, γ, h, rel, fin⟩ => ⟨ρ, γ, h, rel, (Fin.bind fin).mono fun x ρ1 h1 H1 p1 e1 r1 f1 v rv => tru_rel r1 rv f1⟩⟩
def eIf (k : G → M Bool) (ma mb : G → M D) : G → M D := fun γ => do
  let t ← k γ
  if t then ma γ else mb γ
theorem se_if (hc : SC X EX c kc) (ha : SE X EX a ma) (hb : SE X EX b mb) : SE X EX (.IfExp c a b pos) (eIf kc ma mb) :=
  ⟨PE.imp (pe_ifExp hc.h ha.h hb.h) fun σ H Q ⟨ρ, γ, h, rel, fin⟩ => ⟨ρ, γ, h, rel, (Fin.bind fin).mono fun t ρ1 h1 H1 p1 e1 r1 f1 => by
    cases t with
    | true => exact ⟨ρ1, γ, h1, ⟨rel.g.mono p1 e1, r1⟩, f1⟩
    | false => exact ⟨ρ1, γ, h1, ⟨rel.g.mono p1 e1, r1⟩, f1⟩⟩⟩
/-! ### argument lists, displays -/
def aNil : G → M (List D) := fun _ => pure []
def aCons (ma : G → M D) (mr : G → M (List D)) : G → M (List D) := fun γ => do
  let x ← ma γ
  let r ← mr γ
  pure (x :: r)
variable {es : List Expr} {mr : G → M (List D)}
theorem sa_nil : SA X EX [] aNil := ⟨PA.imp pa_nil fun σ H Q ⟨ρ, γ, h, rel, fin⟩ => fin ρ H (Pre.refl _) (Ext.refl _ _) rel.h [] RDs.nil⟩
theorem sa_cons (ha : SE X EX a ma) (hr : SA X EX es mr) (hs : starEach (a :: es) X.env = (false, eval a X.env) :: starEach es X.env := by first | exact st_Constant | exact st_Name | exact st_Call | exact st_BinOp | exact st_Compare | exact st_Subscript | exact st_Tuple | exact st_List | exact st_UnaryOp | exact st_ListComp | rfl) : SA X EX (a :: es) (aCons ma mr) :=
  ⟨PA.imp (pa_cons ha.h hr.h hs) fun σ H Q ⟨ρ, γ, h, rel, fin⟩ => ⟨ρ, γ, h, rel, (Fin.bind fin).mono fun x ρ1 h1 H1 p1 e1 r1 f1 v rv => ⟨ρ1, γ, h1, ⟨rel.g.mono p1 e1, r1⟩, (Fin.bind f1).mono fun ds ρ2 h2 H2 p2 e2 r2 f2 vs rvs =>
    f2 ρ2 H2 (Pre.refl _) (Ext.refl _ _) r2 (v :: vs) (RDs.cons (rv.mono p2 e2) rvs)⟩⟩⟩
def eTup (mr : G → M (List D)) : G → M D := fun γ => do
  let xs ← mr γ
  if xs.length ≤ sizeLine then pure (.tup xs) else bad
def eLst (mr : G → M (List D)) : G → M D := fun γ => do
  let xs ← mr γ
  newL xs
theorem se_tup {k : Nat} (h : SA X EX es mr) : SE X EX (.Tuple es k pos) (eTup mr) :=
  ⟨PE.imp (pe_tup h.h) fun σ H Q ⟨ρ, γ, h, rel, fin⟩ => ⟨ρ, γ, h, rel, (Fin.bind fin).mono fun xs ρ1 h1 H1 p1 e1 r1 f1 vs rvs => by
    by_cases hl : xs.length ≤ sizeLine
    · rw [if_pos hl] at f1
      exact ⟨by rw [← rvs.length]; exact hl, fun p hp => FE.tup (h := h1) f1 r1 rvs hp⟩
    · rw [if_neg hl] at f1; exact (show False from f1).elim⟩⟩
theorem se_lst (h : SA X EX es mr) : SE X EX (.List es pos) (eLst mr) :=
  ⟨PE.imp (pe_lst h.h) fun σ H Q ⟨ρ, γ, h, rel, fin⟩ => ⟨ρ, γ, h, rel, (Fin.bind fin).mono fun xs ρ1 h1 H1 p1 e1 r1 f1 vs rvs => by
    unfold newL at f1
    split at f1
    · rename_i hl
      exact ⟨by rw [← rvs.length]; exact hl, fun p hp => FE.lst (h := h1) f1 r1 rvs hp⟩
    · exact (show False from f1).elim⟩⟩
/-! ### items -/
def fIx : D → D → M D
  | .str z, .int i => if z.length ≤ sizeLine then (match atI z.cps.toList i with
    | some c => pure (.str ⟨#[c]⟩)
    | none => bad) else bad
  | x, .int i => do
    let xs ← seqD x
    match atI xs i with
    | some d => pure d
    | none => bad
  | _, _ => bad
theorem atI_rel {K : PySem.W.Frag} {ρ : List Addr} {H : Hp} {ds : List D} {xs : List V} {i : Int} {d : D} (h : RDs K ρ H ds xs) (e : atI ds i = some d) : ∃ x, atI xs i = some x ∧ RD K ρ H d x := by
  unfold atI at e ⊢
  rw [← h.length]
  cases q : ixN ds.length i with
  | none => rw [q] at e; cases e
  | some j => rw [q] at e; exact h.get e
theorem br_ix : BR X.K EX (rIx X.K) fIx := by
  intro ρ h H x y v u Q r rx ry fin
  unfold fIx at fin
  split at fin
  · simp only [RD] at rx ry; subst rx; subst ry
    rename_i z i
    by_cases hl : z.length ≤ sizeLine
    · rw [if_pos hl] at fin
      cases hc : atI z.cps.toList i with
      | none => rw [hc] at fin; exact fin.elim
      | some c =>
        rw [hc] at fin
        exact .inr (.inr ⟨_, _, c, rfl, rfl, hl, hc, FE.here fin r (by simp [RD])⟩)
    · rw [if_neg hl] at fin; exact fin.elim
  · rename_i i _
    simp only [RD] at ry; subst ry
    have f1 := Fin.bind fin
    cases e : seqD x h with
    | bad => rw [e] at f1; exact f1.elim
    | err z hz => exact (seqD_no e).elim
    | ok ys h1 =>
      obtain ⟨rfl, p, xs, rfl, hs, hd⟩ := seqD_rel r rx e
      rw [e] at f1
      have f2 := f1 ρ H (Pre.refl _) (Ext.refl _ _) r
      dsimp only at f2
      cases q : atI ys i with
      | none => rw [q] at f2; exact f2.elim
      | some d =>
        rw [q] at f2
        obtain ⟨w, h2, h3⟩ := atI_rel hd q
        rcases hs with hs | hs
        · exact .inl ⟨p, xs, i, w, rfl, rfl, hs, h2, FE.here f2 r h3⟩
        · exact .inr (.inl ⟨p, xs, i, w, rfl, rfl, hs, h2, FE.here f2 r h3⟩)
  · exact fin.elim
theorem se_ix (ha : SE X EX a ma) (hb : SE X EX b mb) (hs : PlainIx b := by intro _ _; rfl) : SE X EX (.Subscript a b pos) (e2 fIx ma mb) :=
  se_two (ta := tE X.K EX ma) (tb := tE X.K EX mb) (pe_ix ix_seq ha.h hb.h hs) br_ix
end
end FT
set_option Elab.async false
set_option linter.all false
set_option maxRecDepth 100000
namespace FT
open PySem PySem.Spec PyProof.Rows L2

section
variable {X : Cx} {EX : XX} {a b c e : Expr} {pos p p2 : Pos} {ma mb mc : G → M D} {es : List Expr} {mr : G → M (List D)}

/-! ### built-in functions -/
def AR (K : PySem.W.Frag) (EX : XX) (r : List V → Hp → VK → Prop) (f : List D → M D) : Prop := ∀ ρ h H ds vs Q, RH K ρ h H → RDs K ρ H ds vs → FE K EX ρ H Q (f ds h) → r vs H Q
def eCall (f : List D → M D) (mr : G → M (List D)) : G → M D := fun γ => do
  let xs ← mr γ
  f xs
theorem se_args {r : List V → Hp → VK → Prop} {f : List D → M D} (h : PE X e (tCB r (tL X.K EX mr))) (hr : AR X.K EX r f) : SE X EX e (eCall f mr) :=
  ⟨PE.imp h fun σ H Q ⟨ρ, γ, h, rel, fin⟩ => ⟨ρ, γ, h, rel, (Fin.bind fin).mono fun xs ρ1 h1 H1 p1 e1 r1 f1 vs rvs => hr ρ1 h1 H1 xs vs Q r1 rvs f1⟩⟩
theorem rds1 {K : PySem.W.Frag} {ρ : List Addr} {H : Hp} {d : D} {vs : List V} (h : RDs K ρ H [d] vs) : ∃ v, vs = [v] ∧ RD K ρ H d v := by
  simp only [RDs] at h
  obtain ⟨x, r, rfl, h2, rfl⟩ := h
  exact ⟨x, rfl, h2⟩
def fLen : List D → M D
  | [.str z] => if z.length ≤ sizeLine then pure (.int z.length) else bad
  | [x] => do
    let xs ← seqD x
    pure (.int xs.length)
  | _ => bad
theorem ar_len : AR X.K EX (fun xs H Q => ∃ x n, xs = [x] ∧ LenV X.K x H n ∧ Q (.int n) H) fLen := by
  intro ρ h H ds vs Q r rd fin
  unfold fLen at fin
  split at fin
  · rename_i z
    obtain ⟨v, rfl, rv⟩ := rds1 rd
    simp only [RD] at rv; subst rv
    by_cases hl : z.length ≤ sizeLine
    · rw [if_pos hl] at fin
      exact ⟨_, z.length, rfl, ⟨hl, rfl⟩, FE.here fin r (by simp [RD])⟩
    · rw [if_neg hl] at fin; exact fin.elim
  · rename_i x _
    obtain ⟨v, rfl, rv⟩ := rds1 rd
    have f1 := Fin.bind fin
    cases e : seqD x h with
    | bad => rw [e] at f1; exact f1.elim
    | err z hz => exact (seqD_no e).elim
    | ok ys h1 =>
      obtain ⟨rfl, p, xs, rfl, hs, hd⟩ := seqD_rel r rv e
      rw [e] at f1
      have f2 := f1 ρ H (Pre.refl _) (Ext.refl _ _) r
      refine ⟨_, ys.length, rfl, ?_, FE.here f2 r (by simp [RD])⟩
      rw [hd.length]
      rcases hs with hs | hs
      · exact .inl ⟨xs, hs, rfl⟩
      · exact .inr ⟨xs, hs, rfl⟩
  · exact fin.elim
theorem se_len (hg : Gl X "len") (hm : X.mg "len" = none) (ha : SA X EX [a] mr) (he : starEach [a] X.env = [(false, eval a X.env)] := by rfl) : SE X EX (.Call (.Name "len" p) [a] [] pos) (eCall fLen mr) :=
  se_args (pe_callB call_len hg hm PySem.boot_len ha.h (by decide) (by decide) he rfl) ar_len
def fTuple : List D → M D
  | [.tup xs] => pure (.tup xs)
  | [x] => do
    let xs ← seqD x
    pure (.tup xs)
  | _ => bad
theorem ar_tuple : AR X.K EX (fun xs H Q => ∃ p ys, xs = [.ref p] ∧ ((SqL X.K H p ys ∧ ∀ l, H l = none → Q (.ref l) (upd H l (.tup ys))) ∨ (SqT X.K H p ys ∧ Q (.ref p) H))) fTuple := by
  intro ρ h H ds vs Q r rd fin
  unfold fTuple at fin
  split at fin
  · obtain ⟨v, rfl, rv⟩ := rds1 rd
    have rv' := rv
    simp only [RD] at rv
    obtain ⟨q, xs, rfl, h1, h2⟩ := rv
    exact ⟨q, xs, rfl, .inr ⟨h1, FE.here fin r rv'⟩⟩
  · rename_i x hx
    obtain ⟨v, rfl, rv⟩ := rds1 rd
    have f1 := Fin.bind fin
    cases e : seqD x h with
    | bad => rw [e] at f1; exact f1.elim
    | err z hz => exact (seqD_no e).elim
    | ok ys h1 =>
      obtain ⟨rfl, q, xs, rfl, hs, hd⟩ := seqD_rel r rv e
      rw [e] at f1
      have f2 := f1 ρ H (Pre.refl _) (Ext.refl _ _) r
      refine ⟨q, xs, rfl, ?_⟩
      rcases hs with hs | hs
      · exact .inl ⟨hs, fun l hl => FE.tup f2 r hd hl⟩
      · refine .inr ⟨hs, FE.here f2 r ?_⟩
        simp only [RD]
        exact ⟨q, xs, rfl, hs, hd⟩
  · exact fin.elim
theorem se_tuple (hg : Gl X "tuple") (hm : X.mg "tuple" = none) (ha : SA X EX [a] mr) (he : starEach [a] X.env = [(false, eval a X.env)] := by rfl) : SE X EX (.Call (.Name "tuple" p) [a] [] pos) (eCall fTuple mr) :=
  se_args (pe_callTy call_tuple_of hg hm (by decide +kernel) ha.h (by decide) (by decide) he rfl) ar_tuple
def fList : List D → M D
  | [x] => do
    let xs ← seqD x
    newL xs
  | _ => bad
theorem ar_list : AR X.K EX (fun xs H Q => ∃ p ys, xs = [.ref p] ∧ (SqL X.K H p ys ∨ SqT X.K H p ys) ∧ ∀ l, H l = none → Q (.ref l) (upd H l (.lst ys))) fList := by
  intro ρ h H ds vs Q r rd fin
  unfold fList at fin
  split at fin
  · rename_i x
    obtain ⟨v, rfl, rv⟩ := rds1 rd
    have f1 := Fin.bind fin
    cases e : seqD x h with
    | bad => rw [e] at f1; exact f1.elim
    | err z hz => exact (seqD_no e).elim
    | ok ys h1 =>
      obtain ⟨rfl, q, xs, rfl, hs, hd⟩ := seqD_rel r rv e
      rw [e] at f1
      have f2 := f1 ρ H (Pre.refl _) (Ext.refl _ _) r
      unfold newL at f2
      dsimp only at f2
      split at f2
      · exact ⟨q, xs, rfl, hs, fun l hl => FE.lst f2 r hd hl⟩
      · exact f2.elim
  · exact fin.elim
theorem se_list (hg : Gl X "list") (hm : X.mg "list" = none) (ha : SA X EX [a] mr) (he : starEach [a] X.env = [(false, eval a X.env)] := by rfl) : SE X EX (.Call (.Name "list" p) [a] [] pos) (eCall fList mr) :=
  se_args (pe_callTy call_list_of hg hm (by decide +kernel) ha.h (by decide) (by decide) he rfl) ar_list

/-! ### isinstance(x, T), T a built-in type -/
def tyD : D → M String
  | .non => pure "NoneType"
  | .bl _ => pure "bool"
  | .int _ => pure "int"
  | .str _ => pure "str"
  | .tup _ => pure "tuple"
  | .fl _ => pure "list"
  | .ref n => do
    let _ ← getL n
    pure "list"
def subT (t T : String) : Bool := t == T || (t == "bool" && T == "int")
def tyNames : List String := ["NoneType", "bool", "int", "str", "tuple", "list", "dict"]
def tyAsked : List String := ["bool", "int", "str", "tuple", "list", "dict"]
theorem kit_all : tyNames.all (fun t => tyAsked.all fun T => decide (PySem.W.kitOne [] (.type t) (.type T) = some (subT t T))) = true := by decide +kernel
theorem kit_ty {K : PySem.W.Frag} {t T : String} (h1 : t ∈ tyNames) (h2 : T ∈ tyAsked) : PySem.W.kitOne K (.type t) (.type T) = some (subT t T) := by
  have q := kit_all
  rw [List.all_eq_true] at q
  have q2 := q t h1
  rw [List.all_eq_true] at q2
  have q3 := q2 T h2
  exact of_decide_eq_true q3
def fIsi (T : String) : D → M D := fun x => do
  let t ← tyD x
  pure (.bl (subT t T))
theorem isi_seq {pins : List (Addr × Obj)} {σ : L2.St} {H : Hp} {s : Shared} {E : Value → Shared → Prop} {Q : Value → Shared → Prop} {q : Addr} {c : Value} {k : Bool} {xs : List V} (I : Inv X pins σ H s) (h : SqT X.K H q xs) (e : PySem.W.kitOne X.K (.type "tuple") c = some k) (hQ : ∀ tk, Q (.bool k) { s with toks := tk }) :
    wpAny (model X.prog X.w) X.A (call (.builtin "isinstance") [.ref q, c]) Q E s := by
  obtain ⟨its, _, ht, _⟩ := I.tuple h
  obtain ⟨o, h1, h2, _⟩ := ht
  exact PySem.W.kia_one PySem.W.kitx_tuple I.kIn ⟨o, h1, h2⟩ e (fun z => nomatch z) hQ
theorem isi_lst {pins : List (Addr × Obj)} {σ : L2.St} {H : Hp} {s : Shared} {E : Value → Shared → Prop} {Q : Value → Shared → Prop} {q : Addr} {c : Value} {k : Bool} {xs : List V} (I : Inv X pins σ H s) (h : SqL X.K H q xs) (e : PySem.W.kitOne X.K (.type "list") c = some k) (hQ : ∀ tk, Q (.bool k) { s with toks := tk }) :
    wpAny (model X.prog X.w) X.A (call (.builtin "isinstance") [.ref q, c]) Q E s := by
  obtain ⟨its, _, ht, _⟩ := I.list h
  obtain ⟨o, n, h1, h2, _⟩ := ht
  exact PySem.W.kia_one PySem.W.kitx_list I.kIn ⟨o, h1, h2⟩ e (fun z => nomatch z) hQ
/-- the types of values -/
def TyV (K : PySem.W.Frag) (H : Hp) (v : V) (t : String) : Prop := match v with
  | .non => t = "NoneType"
  | .bl _ => t = "bool"
  | .int _ => t = "int"
  | .str _ => t = "str"
  | .ref q => (t = "tuple" ∧ ∃ xs, SqT K H q xs) ∨ (t = "list" ∧ ∃ xs, SqL K H q xs)
  | _ => False
theorem call_isi {T : String} (hT : T ∈ tyAsked) : CallR X (.builtin "isinstance") (fun xs H Q => ∃ x t, xs = [x, .ty T] ∧ TyV X.K H x t ∧ Q (.bl (subT t T)) H) := by
  intro pins s σ H xs us Q I r h
  obtain ⟨x, t, rfl, ty, q⟩ := h
  obtain ⟨u, w', rfl, rx, rt⟩ := vals2 r
  cases rt
  have fin : ∀ tk, EP X pins σ Q (.bool (subT t T)) { s with toks := tk } := fun tk => ⟨.bl _, H, I.tok tk, rfl, q⟩
  have tb : ∀ {z : V} {t' : Value}, z = x → TyOf X.K H z t' → t' = .type t → t ∈ tyNames → wpAny (model X.prog X.w) X.A (call (.builtin "isinstance") [u, .type T]) (EP X pins σ Q) X.xe s := fun {z t'} e1 ty' e2 hn => by
    subst e1; subst e2
    exact isinst_ok I rx ty' (kit_ty hn hT) fin
  cases x with
  | non => exact tb rfl .non (by rw [show t = "NoneType" from ty]) (by rw [show t = "NoneType" from ty]; decide)
  | bl y => exact tb rfl (.bl y) (by rw [show t = "bool" from ty]) (by rw [show t = "bool" from ty]; decide)
  | int y => exact tb rfl (.int y) (by rw [show t = "int" from ty]) (by rw [show t = "int" from ty]; decide)
  | str y => exact tb rfl (.str y) (by rw [show t = "str" from ty]) (by rw [show t = "str" from ty]; decide)
  | ref y =>
    cases rx
    rcases (show (t = "tuple" ∧ ∃ xs, SqT X.K H y xs) ∨ (t = "list" ∧ ∃ xs, SqL X.K H y xs) from ty) with ⟨rfl, xs, hs⟩ | ⟨rfl, xs, hs⟩
    · exact isi_seq I hs (kit_ty (by decide) hT) fin
    · exact isi_lst I hs (kit_ty (by decide) hT) fin
  | byt y => exact (show False from ty).elim
  | flt y => exact (show False from ty).elim
  | ty y => exact (show False from ty).elim
theorem tyD_rel {K : PySem.W.Frag} {ρ : List Addr} {h h1 : AH} {H : Hp} {x : D} {v : V} {t : String} (r : RH K ρ h H) (rx : RD K ρ H x v) (e : tyD x h = .ok t h1) : h1 = h ∧ TyV K H v t := by
  cases x with
  | non => cases e; simp only [RD] at rx; subst rx; exact ⟨rfl, rfl⟩
  | bl y => cases e; simp only [RD] at rx; subst rx; exact ⟨rfl, rfl⟩
  | int y => cases e; simp only [RD] at rx; subst rx; exact ⟨rfl, rfl⟩
  | str y => cases e; simp only [RD] at rx; subst rx; exact ⟨rfl, rfl⟩
  | tup y => cases e; simp only [RD] at rx; obtain ⟨q, xs, rfl, h2, _⟩ := rx; exact ⟨rfl, .inl ⟨rfl, xs, h2⟩⟩
  | fl y => cases e; simp only [RD] at rx; obtain ⟨q, xs, rfl, h2, _⟩ := rx; exact ⟨rfl, .inr ⟨rfl, xs, h2.sq⟩⟩
  | ref n =>
    simp only [RD] at rx; obtain ⟨q, rfl, h2⟩ := rx
    have e' : (getL n >>= fun _ => (pure "list" : M String)) h = Res.ok t h1 := e
    rw [M.bind_eq] at e'
    cases e3 : getL n h with
    | bad => rw [e3] at e'; cases e'
    | err z hz => exact (getL_no e3).elim
    | ok xs h3 =>
      obtain ⟨rfl, q1⟩ := getL_ok e3
      rw [e3] at e'
      cases e'
      obtain ⟨a1, n1, vs, o1, d1⟩ := r.at q1
      rw [h2] at n1; cases n1
      exact ⟨rfl, .inr ⟨rfl, vs, SqL.of o1⟩⟩
theorem tyD_no {x : D} {h h1 : AH} {z : Exn} (e : tyD x h = .err z h1) : False := by
  cases x with
  | ref n =>
    have e' : (getL n >>= fun _ => (pure "list" : M String)) h = Res.err z h1 := e
    rw [M.bind_eq] at e'
    cases e3 : getL n h with
    | bad => rw [e3] at e'; cases e'
    | err z hz => exact (getL_no e3).elim
    | ok xs h3 => rw [e3] at e'; cases e'
  | _ => cases e
def eIsi (T : String) (ma : G → M D) : G → M D := fun γ => do
  let x ← ma γ
  fIsi T x
theorem se_isi {T : Str} {T' : String} (hg : Gl X "isinstance") (hm : X.mg "isinstance" = none) (hgT : Gl X T) (hmT : X.mg T = none) (hv : bootBuiltins T = some (.type T')) (hT : T' ∈ tyAsked) (ha : SE X EX a ma) (hn : T ≠ "__name__" := by decide) (hd : (T == ("__debug__" : Str)) = false := by decide)
    (he : starEach [a, .Name T p2] X.env = [(false, eval a X.env), (false, eval (.Name T p2) X.env)] := by rfl) (he2 : starEach [.Name T p2] X.env = [(false, eval (.Name T p2) X.env)] := by rfl) : SE X EX (.Call (.Name "isinstance" p) [a, .Name T p2] [] pos) (eIsi T' ma) := by
  constructor
  have hA : PA X [a, .Name T p2] (tCons (tE X.K EX ma) (tCons (tC (.ty T')) tNil)) := pa_cons ha.h (pa_cons (pe_bltn hgT hmT hv rfl hn hd) pa_nil he2) (by rw [he, he2])
  refine PE.imp (pe_callB (call_isi hT) hg hm (by decide +kernel) hA (by decide) (by decide) (by rw [he, he2]) (by rw [he2]; rfl)) fun σ H Q ⟨ρ, γ, h, rel, fin⟩ => ⟨ρ, γ, h, rel, (Fin.bind fin).mono fun x ρ1 h1 H1 p1 e1 r1 f1 v rv => ?_⟩
  have f2 := Fin.bind f1
  cases e : tyD x h1 with
  | bad => rw [e] at f2; exact f2.elim
  | err z hz => exact (tyD_no e).elim
  | ok t h2 =>
    obtain ⟨rfl, ty⟩ := tyD_rel r1 rv e
    rw [e] at f2
    have f3 := f2 ρ1 H1 (Pre.refl _) (Ext.refl _ _) r1
    exact ⟨v, t, rfl, ty, FE.here f3 r1 (by simp [RD])⟩

/-! ### all, any of a list of bools -/
def blsD : List D → Option (List Bool)
  | [] => some []
  | .bl b :: r => (blsD r).map (b :: ·)
  | _ :: _ => none
def fAll (any : Bool) : List D → M D
  | [.ref n] => do
    let xs ← getL n
    match blsD xs with
    | some bs => pure (.bl (if any then bs.any id else bs.all id))
    | none => bad
  | _ => bad
theorem bls_rel {K : PySem.W.Frag} {ρ : List Addr} {H : Hp} : ∀ {xs : List D} {bs : List Bool} {vs : List V}, blsD xs = some bs → RDs K ρ H xs vs → vs = bs.map V.bl
  | [], bs, vs, e, r => by simp only [RDs] at r; cases e; subst r; rfl
  | x :: xs, bs, vs, e, r => by
    simp only [RDs] at r
    obtain ⟨v, r2, rfl, h1, h2⟩ := r
    cases x <;> first | (simp only [blsD] at e; cases e; done) | skip
    rename_i b
    simp only [blsD] at e
    obtain ⟨bs', e1, rfl⟩ := Option.map_eq_some_iff.mp e
    simp only [RD] at h1
    subst h1
    rw [bls_rel e1 h2]; rfl
theorem vals_bls : ∀ {bs : List Bool} {us : List Value}, Vals (bs.map V.bl) us → us = bs.map Value.bool
  | [], us, h => by cases h; rfl
  | b :: bs, us, h => by
    cases h with
    | cons h1 h2 => cases h1; rw [vals_bls h2]; rfl
theorem range_all {bs : List Bool} : ((List.range bs.length).all fun i => bs.getD i false) = bs.all id := by
  rw [Bool.eq_iff_iff, List.all_eq_true, List.all_eq_true]
  constructor
  · intro h x hx
    obtain ⟨i, hi, rfl⟩ := List.getElem_of_mem hx
    have := h i (List.mem_range.mpr hi)
    simpa [List.getD, hi] using this
  · intro h i hi
    have hi' := List.mem_range.mp hi
    have := h bs[i] (List.getElem_mem hi')
    simpa [List.getD, hi'] using this
theorem range_any {bs : List Bool} : ((List.range bs.length).any fun i => bs.getD i false) = bs.any id := by
  rw [Bool.eq_iff_iff, List.any_eq_true, List.any_eq_true]
  constructor
  · rintro ⟨i, hi, h⟩
    have hi' := List.mem_range.mp hi
    refine ⟨bs[i], List.getElem_mem hi', ?_⟩
    simpa [List.getD, hi'] using h
  · rintro ⟨x, hx, h⟩
    obtain ⟨i, hi, rfl⟩ := List.getElem_of_mem hx
    exact ⟨i, List.mem_range.mpr hi, by simpa [List.getD, hi] using h⟩
theorem call_allany (any : Bool) (hc : X.calm = true) : CallR X (.builtin (if any then "any" else "all")) (fun xs H Q => ∃ (q : Addr) (bs : List Bool), xs = [.ref q] ∧ SqL X.K H q (bs.map V.bl) ∧ Q (.bl (if any then bs.any id else bs.all id)) H) := by
  intro pins s σ H xs us Q I r h
  obtain ⟨q, bs, rfl, hq, hQ⟩ := h
  obtain ⟨u, rfl, ru⟩ := vals1 r
  cases ru
  obtain ⟨its, rv, pl, hz⟩ := I.list hq
  have ei := vals_bls rv
  have ne : q ≠ s.heap.objs.size := Nat.ne_of_lt (by obtain ⟨o, n, e, _⟩ := pl; exact Heap.lt_size e)
  have pl' := pl.isList
  have hwalk := Walks.list (prog := X.prog) (w := X.w) (A := X.A.in1) (show X.A.in1.handled = none from I.ok.hd hc) s.heap.objs.size q ne its.toArray
  have len : its.toArray.size = bs.length := by rw [ei]; simp
  have st0 : (s.heap.push { cls := .type "list_iterator", data := .fields #[.ref q, .int 0 0] }).IsListIter s.heap.objs.size q 0 ∧ (s.heap.push { cls := .type "list_iterator", data := .fields #[.ref q, .int 0 0] }).IsList q its.toArray :=
    ⟨⟨_, Heap.get?_push_size _ rfl, rfl, rfl⟩, pl'.at fun o e => Heap.get?_push_of_some _ e⟩
  have tr : TruthOf X.prog X.w X.A.in1 (fun i v => its.toArray[i]? = some v) fun i => bs.getD i false := fun i v s' Q' E' hv hq' => by
    have hv' : its[i]? = some v := by simpa using hv
    rw [ei, List.getElem?_map] at hv'
    cases eb : bs[i]? with
    | none => rw [eb] at hv'; cases hv'
    | some b =>
      rw [eb] at hv'
      cases hv'
      have : bs.getD i false = b := by simp [List.getD, eb]
      dsimp only at hq'; rw [this] at hq'
      exact wpAny_truthy_bool hq'
  have fin : ∀ k, k = (if any then bs.any id else bs.all id) → ∀ h' tk, (∀ b o, b ∉ [s.heap.objs.size] → (s.heap.push { cls := .type "list_iterator", data := .fields #[.ref q, .int 0 0] }).get? b = some o → h'.get? b = some o) →
      EP X pins σ Q (.bool k) { s with heap := h', toks := tk } := fun k ek h' tk hk => by
    subst ek
    refine ⟨.bl _, H, I.kept fun b o e => hk b o ?_ (Heap.get?_push_of_some _ e), rfl, hQ⟩
    intro z
    have : b = s.heap.objs.size := by simpa using z
    exact absurd (Heap.lt_size e) (by rw [this]; exact Nat.lt_irrefl _)
  cases any with
  | false =>
    refine call_all_walk (wpAny_pyIter_list pl' ⟨_, _, _, _, _, _, _, rfl, hwalk, st0, tr, fun h' tk hk => ?_⟩)
    exact fin _ (by rw [len]; exact range_all) h' tk hk
  | true =>
    refine call_any_walk (wpAny_pyIter_list pl' ⟨_, _, _, _, _, _, _, rfl, hwalk, st0, tr, fun h' tk hk => ?_⟩)
    exact fin _ (by rw [len]; exact range_any) h' tk hk
theorem ar_all {any : Bool} : AR X.K EX (fun xs H Q => ∃ (q : Addr) (bs : List Bool), xs = [.ref q] ∧ SqL X.K H q (bs.map V.bl) ∧ Q (.bl (if any then bs.any id else bs.all id)) H) (fAll any) := by
  intro ρ h H ds vs Q r rd fin
  unfold fAll at fin
  split at fin
  · rename_i n
    obtain ⟨v, rfl, rv⟩ := rds1 rd
    have f1 := Fin.bind fin
    cases e : getL n h with
    | bad => rw [e] at f1; exact f1.elim
    | err z hz => exact (getL_no e).elim
    | ok xs h1 =>
      obtain ⟨rfl, q1⟩ := getL_ok e
      rw [e] at f1
      have f2 := f1 ρ H (Pre.refl _) (Ext.refl _ _) r
      dsimp only at f2
      cases eb : blsD xs with
      | none => rw [eb] at f2; exact f2.elim
      | some bs =>
        rw [eb] at f2
        simp only [RD] at rv; obtain ⟨q, rfl, h2⟩ := rv
        obtain ⟨a1, n1, vs, o1, d1⟩ := r.at q1
        rw [h2] at n1; cases n1
        have ev := bls_rel eb d1
        subst ev
        exact ⟨q, bs, rfl, SqL.of o1, FE.here f2 r (by simp [RD])⟩
  · exact fin.elim
theorem se_all (hc : X.calm = true) (hg : Gl X "all") (hm : X.mg "all" = none) (ha : SA X EX [a] mr) (he : starEach [a] X.env = [(false, eval a X.env)] := by rfl) : SE X EX (.Call (.Name "all" p) [a] [] pos) (eCall (fAll false) mr) :=
  se_args (pe_callB (call_allany false hc) hg hm (by decide +kernel) ha.h (by decide) (by decide) he rfl) ar_all
theorem se_any (hc : X.calm = true) (hg : Gl X "any") (hm : X.mg "any" = none) (ha : SA X EX [a] mr) (he : starEach [a] X.env = [(false, eval a X.env)] := by rfl) : SE X EX (.Call (.Name "any" p) [a] [] pos) (eCall (fAll true) mr) :=
  se_args (pe_callB (call_allany true hc) hg hm (by decide +kernel) ha.h (by decide) (by decide) he rfl) ar_all
end
end FT
set_option Elab.async false
set_option linter.all false
set_option maxRecDepth 100000
namespace FT
open PySem PySem.Spec PyProof.Rows L2

abbrev EX0 : XX := fun _ _ _ _ => False

/-! ### own functions -/
def spB (K : PySem.W.Frag) (mf : List D → M D) (n : Nat) : Sp := fun vs H Q _ => vs.length = n ∧ ∃ ρ ds h, RH K ρ h H ∧ RDs K ρ H ds vs ∧ FE K EX0 ρ H Q (mf ds h)
structure Fn (P : Program) (w : World) (K : PySem.W.Frag) (mg : Str → Option Value) (base : Heap) (k : Nat) (x : Str) (n : Nat) (mf : List D → M D) : Prop where
  ex : ∃ f fd ps, FnOk P w K mg base CX0 k f fd ps (spB K mf n) ∧ Binds K fd ps [] ∧ PySem.W.keepIn K (.ref f) = true ∧ mg x = some (.ref f)
theorem Fn.up {P : Program} {w : World} {K : PySem.W.Frag} {mg : Str → Option Value} {base : Heap} {j k : Nat} {x : Str} {n : Nat} {mf : List D → M D} (F : Fn P w K mg base j x n mf) (h : j ≤ k) : Fn P w K mg base k x n mf := by
  obtain ⟨f, fd, ps, h1, h2, h3, h4⟩ := F.ex
  exact ⟨f, fd, ps, h1.mono h, h2, h3, h4⟩
def eFn (n : Nat) (mf : List D → M D) (mr : G → M (List D)) : G → M D := fun γ => do
  let xs ← mr γ
  if xs.length = n then mf xs else bad
section
variable {X : Cx} {a b c e : Expr} {pos p p2 : Pos} {ma mb mc : G → M D} {es : List Expr} {mr : G → M (List D)} {k n : Nat} {x : Str} {mf : List D → M D}
theorem se_call (F : Fn X.prog X.w X.K X.mg X.base k x n mf) (hr : Room k X.A) (hg : Gl X x) (ha : SA X EX0 (a :: es) mr) (hdb : (x == ("__debug__" : Str)) = false := by decide)
    (he : starEach (a :: es) X.env = (false, eval a X.env) :: starEach es X.env := by rfl) (hpl : (backTo pos (starEach es X.env)).any (·.1) = false := by rfl) : SE X EX0 (.Call (.Name x p) (a :: es) [] pos) (eFn n mf mr) := by
  constructor
  obtain ⟨f, fd, ps, h1, h2, h3, h4⟩ := F.ex
  refine PE.imp (pe_call h1 hr hg h4 h3 h2 .nil pass0 ha.h hdb he hpl) fun σ H Q ⟨ρ, γ, h, rel, fin⟩ => ⟨ρ, γ, h, rel, (Fin.bind fin).mono fun xs ρ1 h1 H1 p1 e1 r1 f1 vs rvs => ?_⟩
  show spB X.K mf n (vs ++ []) H1 Q E0
  rw [List.append_nil]
  by_cases hl : xs.length = n
  · rw [if_pos hl] at f1
    exact ⟨by rw [← rvs.length]; exact hl, ρ1, xs, h1, r1, rvs, f1⟩
  · rw [if_neg hl] at f1; exact (show False from f1).elim
end

/-- a def as a function on data -/
def startG (n : Nat) (ds : List D) : G := ds.map some ++ List.replicate (n - ds.length) none
def runF (n : Nat) (mb : G → M Out) (ds : List D) : M D := do
  let o ← mb (startG n ds)
  match o with
  | .nx _ => pure .non
  | .rt d => pure d
  | _ => bad
section
variable {P : Program} {w : World} {K : PySem.W.Frag} {mg : Str → Option Value} {base : Heap}
theorem start_rel {ρ : List Addr} {H : Hp} {N : List Str} {ds : List D} {vs : List V} (h : RDs K ρ H ds vs) : RG K ρ H (startG N.length ds) (L2.start N vs) := by
  have hl := h.length
  refine ⟨by unfold startG L2.start; simp [hl], fun i d e => ?_⟩
  unfold startG at e
  unfold L2.start
  rw [List.getElem?_append] at e ⊢
  rw [List.length_map] at e ⊢
  rw [← hl]
  split at e
  · rename_i hi
    rw [if_pos hi]
    rw [List.getElem?_map] at e ⊢
    cases q : ds[i]? with
    | none => rw [q] at e; cases e
    | some d' =>
      rw [q] at e
      cases e
      obtain ⟨v, h1, h2⟩ := h.get q
      exact ⟨v, by rw [h1]; rfl, h2⟩
  · rw [List.getElem?_replicate] at e
    split at e <;> cases e
theorem fn_mk {x : Str} {st : Stmt} {f : Addr} {fd : FuncData} {N ps : List Str} {k n : Nat} {mb : G → M Out} (F : Fun K x x st f fd) (S : FnScope N ps (defScope st)) (hb : Binds K fd ps []) (mx : mg x = some (.ref f)) (hn : ps.length = n)
    (body : ∀ (cdv : Value) (A : Around) (outer : List Env) (s : Shared) (H : Hp) (E : XK), Room k (A.deeper (envOfC x (defScope st) s.heap.objs.size f cdv)) →
      SB (cxOf CX0 P w K mg base N x (defScope st) f cdv A outer s H E).nox EX0 (defBody st) mb) : Fn P w K mg base (k + 1) x n (runF N.length mb) := by
  refine ⟨f, fd, ps, F.ok S (fun vs H Q E h => h.1.trans hn.symm) (fun cdv A outer s H vs Q E hr h => ?_), hb, F.kp, mx⟩
  obtain ⟨hl, ρ, ds, h, rh, rd, fin⟩ := h
  refine ⟨_, (body cdv A outer s H E hr).h, ρ, startG N.length ds, h, ⟨start_rel rd, rh⟩, ?_⟩
  refine (Fin.bind fin).mono fun o ρ1 h1 H1 p1 e1 r1 f1 => ?_
  cases o with
  | nx γ => exact fun σ _ => FE.here (d := .non) (h := h1) f1 r1 (by simp [RD])
  | rt d => exact fun v rv => f1 ρ1 H1 (Pre.refl _) (Ext.refl _ _) r1 v rv
  | bk γ => exact (show False from f1).elim
  | ct γ => exact (show False from f1).elim
end

/-! values that are stored as they come -/
section
variable {env : Env} {t : Option Expr} {l : Nat} {tg : List Expr}
theorem sw_List {a p} : swapsWith (.List a p) t l env = pure false := rfl
theorem sw_Tuple {a b p} : swapsWith (.Tuple a b p) t l env = pure false := rfl
theorem sw_Constant {c k p} : swapsWith (.Constant c k p) t l env = pure false := rfl
theorem sw_Name {c p} : swapsWith (.Name c p) t l env = pure false := rfl
theorem sw_Call {a b c p} : swapsWith (.Call a b c p) t l env = pure false := rfl
theorem sw_BinOp {a b c p} : swapsWith (.BinOp a b c p) t l env = pure false := rfl
theorem sw_Compare {a b c p} : swapsWith (.Compare a b c p) t l env = pure false := rfl
theorem sw_Subscript {a b p} : swapsWith (.Subscript a b p) t l env = pure false := rfl
theorem sw_UnaryOp {a b p} : swapsWith (.UnaryOp a b p) t l env = pure false := rfl
theorem sw_BoolOp {a b p} : swapsWith (.BoolOp a b p) t l env = pure false := rfl
theorem sw_IfExp {a b c p} : swapsWith (.IfExp a b c p) t l env = pure false := rfl
end
/-! ### statements -/
section
variable {X : Cx} {EX : XX} {a b c e : Expr} {pos p p2 : Pos} {ma mb mc : G → M D} {ka kb kc : G → M Bool} {st : Stmt} {sts : List Stmt} {ms mt : G → M Out}
def bNil : G → M Out := fun γ => pure (.nx γ)
def bCons (ms mt : G → M Out) : G → M Out := fun γ => do
  let o ← ms γ
  match o with
  | .nx γ' => mt γ'
  | o => pure o
theorem sb_nil : SB X EX [] bNil := ⟨PSs.imp pss_nil fun σ H D ⟨ρ, γ, h, rel, fin⟩ => fin ρ H (Pre.refl _) (Ext.refl _ _) rel.h σ rel.g⟩
theorem sb_cons (h1 : S1 X EX st ms) (h2 : SB X EX sts mt) : SB X EX (st :: sts) (bCons ms mt) :=
  ⟨PSs.imp (pss_cons h1.h h2.h) fun σ H D ⟨ρ, γ, h, rel, fin⟩ => ⟨ρ, γ, h, rel, (Fin.bind fin).mono fun o ρ1 h1 H1 p1 e1 r1 f1 => by
    cases o with
    | nx γ' => exact fun σ' rg => ⟨ρ1, γ', h1, ⟨rg, r1⟩, f1⟩
    | rt d => exact f1 ρ1 H1 (Pre.refl _) (Ext.refl _ _) r1
    | bk γ' => exact f1 ρ1 H1 (Pre.refl _) (Ext.refl _ _) r1
    | ct γ' => exact f1 ρ1 H1 (Pre.refl _) (Ext.refl _ _) r1⟩⟩
theorem s_pass : S1 X EX (.Pass pos) bNil := ⟨PS.imp ps_pass fun σ H D ⟨ρ, γ, h, rel, fin⟩ => fin ρ H (Pre.refl _) (Ext.refl _ _) rel.h σ rel.g⟩
theorem s_break : S1 X EX (.Break pos) (fun γ => pure (.bk γ)) := ⟨PS.imp ps_break fun σ H D ⟨ρ, γ, h, rel, fin⟩ => fin ρ H (Pre.refl _) (Ext.refl _ _) rel.h σ rel.g⟩
theorem s_continue : S1 X EX (.Continue pos) (fun γ => pure (.ct γ)) := ⟨PS.imp ps_continue fun σ H D ⟨ρ, γ, h, rel, fin⟩ => fin ρ H (Pre.refl _) (Ext.refl _ _) rel.h σ rel.g⟩
theorem s_never : S1 X EX st (fun _ => bad) := ⟨PS.imp ps_never fun σ H D ⟨ρ, γ, h, rel, fin⟩ => (show False from fin)⟩
def sRet (ma : G → M D) : G → M Out := fun γ => do
  let d ← ma γ
  pure (.rt d)
theorem s_ret (ha : SE X EX a ma) : S1 X EX (.Return (some a) pos) (sRet ma) :=
  ⟨PS.imp (ps_ret ha.h) fun σ H D ⟨ρ, γ, h, rel, fin⟩ => ⟨ρ, γ, h, rel, (Fin.bind fin).mono fun d ρ1 h1 H1 p1 e1 r1 f1 v rv => f1 ρ1 H1 (Pre.refl _) (Ext.refl _ _) r1 v rv⟩⟩
def sExpr (ma : G → M D) : G → M Out := fun γ => do
  let _ ← ma γ
  pure (.nx γ)
theorem s_expr (ha : SE X EX a ma) (hs : swapsWith a none pos.line X.env = pure false := by first | exact sw_List | exact sw_Tuple | exact sw_Constant | exact sw_Name | exact sw_Call | exact sw_BinOp | exact sw_Compare | exact sw_Subscript | exact sw_UnaryOp | exact sw_BoolOp | exact sw_IfExp | rfl) : S1 X EX (.Expr a pos) (sExpr ma) :=
  ⟨PS.imp (ps_expr ha.h hs) fun σ H D ⟨ρ, γ, h, rel, fin⟩ => ⟨ρ, γ, h, rel, (Fin.bind fin).mono fun d ρ1 h1 H1 p1 e1 r1 f1 v rv => f1 ρ1 H1 (Pre.refl _) (Ext.refl _ _) r1 σ (rel.g.mono p1 e1)⟩⟩
def sIf (k : G → M Bool) (ms mt : G → M Out) : G → M Out := fun γ => do
  let t ← k γ
  if t then ms γ else mt γ
theorem s_if {sts' : List Stmt} (hc : SC X EX c kc) (h1 : SB X EX sts ms) (h2 : SB X EX sts' mt) : S1 X EX (.If c sts sts' pos) (sIf kc ms mt) :=
  ⟨PS.imp (ps_if hc.h h1.h h2.h) fun σ H D ⟨ρ, γ, h, rel, fin⟩ => ⟨ρ, γ, h, rel, (Fin.bind fin).mono fun t ρ1 h1 H1 p1 e1 r1 f1 => by
    cases t with
    | true => exact ⟨ρ1, γ, h1, ⟨rel.g.mono p1 e1, r1⟩, f1⟩
    | false => exact ⟨ρ1, γ, h1, ⟨rel.g.mono p1 e1, r1⟩, f1⟩⟩⟩
/-- targets -/
def tG (K : PySem.W.Frag) (EX : XX) (m : D → G → M G) : TG := fun v σ H Q => ∃ ρ γ h d, Rel K ρ γ h σ H ∧ RD K ρ H d v ∧ Fin K EX ρ H (fun γ' ρ' _ H' => ∀ σ', RG K ρ' H' γ' σ' → Q σ' H') (m d γ h)
def tGs (K : PySem.W.Frag) (EX : XX) (m : List D → G → M G) : TGs := fun vs σ H Q => ∃ ρ γ h ds, Rel K ρ γ h σ H ∧ RDs K ρ H ds vs ∧ Fin K EX ρ H (fun γ' ρ' _ H' => ∀ σ', RG K ρ' H' γ' σ' → Q σ' H') (m ds γ h)
structure SG (X : Cx) (EX : XX) (tg : Expr) (m : D → G → M G) : Prop where
  h : PG X tg (tG X.K EX m)
structure SGs (X : Cx) (EX : XX) (tg : List Expr) (m : List D → G → M G) : Prop where
  h : PGs X tg (tGs X.K EX m)
theorem PG.imp {X : Cx} {e : Expr} {t t' : TG} (h : PG X e t) (f : ∀ v σ H Q, t' v σ H Q → t v σ H Q) : PG X e t' := fun pins s σ H v u Q I r z => h pins s σ H v u Q I r (f v σ H Q z)
theorem PGs.imp {X : Cx} {e : List Expr} {t t' : TGs} (h : PGs X e t) (f : ∀ v σ H Q, t' v σ H Q → t v σ H Q) : PGs X e t' := fun pins s σ H v u Q I r z => h pins s σ H v u Q I r (f v σ H Q z)
/-- .. with the slots that are written -/
def tGk (K : PySem.W.Frag) (EX : XX) (own : List Nat) (m : D → G → M G) : TG := fun v σ H Q => ∃ ρ γ h d, Rel K ρ γ h σ H ∧ RD K ρ H d v ∧ Fin K EX ρ H (fun γ' ρ' _ H' => ∀ σ', RG K ρ' H' γ' σ' → (∀ j : Nat, j ∉ own → σ'[j]? = σ[j]?) → Q σ' H') (m d γ h)
def tGks (K : PySem.W.Frag) (EX : XX) (own : List Nat) (m : List D → G → M G) : TGs := fun vs σ H Q => ∃ ρ γ h ds, Rel K ρ γ h σ H ∧ RDs K ρ H ds vs ∧ Fin K EX ρ H (fun γ' ρ' _ H' => ∀ σ', RG K ρ' H' γ' σ' → (∀ j : Nat, j ∉ own → σ'[j]? = σ[j]?) → Q σ' H') (m ds γ h)
structure SGk (X : Cx) (EX : XX) (tg : Expr) (own : List Nat) (m : D → G → M G) : Prop where
  h : PG X tg (tGk X.K EX own m)
structure SGks (X : Cx) (EX : XX) (tg : List Expr) (own : List Nat) (m : List D → G → M G) : Prop where
  h : PGs X tg (tGks X.K EX own m)
theorem SGk.sg {tg : Expr} {own : List Nat} {m : D → G → M G} (h : SGk X EX tg own m) : SG X EX tg m := ⟨PG.imp h.h fun v σ H Q ⟨ρ, γ, h, d, rel, rd, fin⟩ => ⟨ρ, γ, h, d, rel, rd, fin.mono fun γ' ρ' h' H' _ _ _ z σ' g _ => z σ' g⟩⟩
def gN (i : Nat) : D → G → M G := fun d γ => pure (γ.set i (some d))
theorem sg_name (i : Nat) {x : Str} (hN : X.N.Nodup) (hi : X.N[i]? = some x := by rfl) (hx : Loc X.env.scope x := by first | exact Or.inl rfl | exact Or.inr rfl) (hf : X.fn x = true ∨ X.env.scope.names.lookup x = some .local := by first | exact .inl rfl | exact .inr rfl | assumption) : SG X EX (.Name x pos) (gN i) :=
  ⟨PG.imp (pg_name hN hi hx hf) fun v σ H Q ⟨ρ, γ, h, d, rel, rd, fin⟩ => fin ρ H (Pre.refl _) (Ext.refl _ _) rel.h _ (rel.g.set i rd)⟩
theorem sgk_name (i : Nat) {x : Str} (hN : X.N.Nodup) (hi : X.N[i]? = some x := by rfl) (hx : Loc X.env.scope x := by first | exact Or.inl rfl | exact Or.inr rfl) (hf : X.fn x = true ∨ X.env.scope.names.lookup x = some .local := by first | exact .inl rfl | exact .inr rfl | assumption) : SGk X EX (.Name x pos) [i] (gN i) :=
  ⟨PG.imp (pg_name hN hi hx hf) fun v σ H Q ⟨ρ, γ, h, d, rel, rd, fin⟩ => fin ρ H (Pre.refl _) (Ext.refl _ _) rel.h _ (rel.g.set i rd) fun j hj => List.getElem?_set_ne (fun z => hj (by simp [z]))⟩
def gNils : List D → G → M G := fun ds γ => match ds with
  | [] => pure γ
  | _ => bad
def gConss (m : D → G → M G) (ms : List D → G → M G) : List D → G → M G := fun ds γ => match ds with
  | [] => bad
  | d :: r => do
    let γ1 ← m d γ
    ms r γ1
theorem sgs_nil : SGs X EX [] gNils := ⟨PGs.imp pgs_nil fun v σ H Q ⟨ρ, γ, h, ds, rel, rd, fin⟩ => by
  cases ds with
  | nil => simp only [RDs] at rd; exact ⟨rd, fin ρ H (Pre.refl _) (Ext.refl _ _) rel.h σ rel.g⟩
  | cons d r => exact (show False from fin).elim⟩
theorem sgs_cons {es : List Expr} {m : D → G → M G} {mr : List D → G → M G} (h1 : SG X EX e m) (h2 : SGs X EX es mr) (hs : (assignEach (e :: es) X.env).map (·.2) = assign e X.env :: (assignEach es X.env).map (·.2) := by rfl) : SGs X EX (e :: es) (gConss m mr) :=
  ⟨PGs.imp (pgs_cons h1.h h2.h hs) fun vs σ H Q ⟨ρ, γ, h, ds, rel, rd, fin⟩ => by
    cases ds with
    | nil => exact (show False from fin).elim
    | cons d r =>
      simp only [RDs] at rd
      obtain ⟨v, vr, rfl, h3, h4⟩ := rd
      have fin' : Fin X.K EX ρ H (fun γ' ρ' _ H' => ∀ σ', RG X.K ρ' H' γ' σ' → Q σ' H') ((m d γ >>= fun γ1 => mr r γ1) h) := fin
      exact ⟨v, vr, rfl, ρ, γ, h, d, rel, h3, (Fin.bind fin').mono fun γ1 ρ1 h1 H1 p1 e1 r1 f1 σ1 g1 => ⟨ρ1, γ1, h1, r, ⟨g1, r1⟩, h4.mono p1 e1, f1⟩⟩⟩
theorem sgks_nil : SGks X EX [] [] gNils := ⟨PGs.imp pgs_nil fun v σ H Q ⟨ρ, γ, h, ds, rel, rd, fin⟩ => by
  cases ds with
  | nil => simp only [RDs] at rd; exact ⟨rd, fin ρ H (Pre.refl _) (Ext.refl _ _) rel.h σ rel.g fun _ _ => rfl⟩
  | cons d r => exact (show False from fin).elim⟩
theorem sgks_cons {es : List Expr} {o1 o2 : List Nat} {m : D → G → M G} {mr : List D → G → M G} (h1 : SGk X EX e o1 m) (h2 : SGks X EX es o2 mr) (hs : (assignEach (e :: es) X.env).map (·.2) = assign e X.env :: (assignEach es X.env).map (·.2) := by rfl) : SGks X EX (e :: es) (o1 ++ o2) (gConss m mr) :=
  ⟨PGs.imp (pgs_cons h1.h h2.h hs) fun vs σ H Q ⟨ρ, γ, h, ds, rel, rd, fin⟩ => by
    cases ds with
    | nil => exact (show False from fin).elim
    | cons d r =>
      simp only [RDs] at rd
      obtain ⟨v, vr, rfl, h3, h4⟩ := rd
      have fin' : Fin X.K EX ρ H (fun γ' ρ' _ H' => ∀ σ', RG X.K ρ' H' γ' σ' → (∀ j : Nat, j ∉ o1 ++ o2 → σ'[j]? = σ[j]?) → Q σ' H') ((m d γ >>= fun γ1 => mr r γ1) h) := fin
      refine ⟨v, vr, rfl, ρ, γ, h, d, rel, h3, (Fin.bind fin').mono fun γ1 ρ1 h1 H1 p1 e1 r1 f1 σ1 g1 k1 => ⟨ρ1, γ1, h1, r, ⟨g1, r1⟩, h4.mono p1 e1, f1.mono fun γ2 ρ2 h2 H2 p2 e2 r2 f2 σ2 g2 k2 => f2 σ2 g2 fun j hj => ?_⟩⟩
      rw [List.mem_append, not_or] at hj
      rw [k2 j hj.2, k1 j hj.1]⟩
def gT (n : Nat) (m : List D → G → M G) : D → G → M G := fun d γ => match d with
  | .tup xs => if xs.length = n then m xs γ else bad
  | _ => bad
theorem sg_tup {es : List Expr} {k n : Nat} {m : List D → G → M G} (hc : X.calm = true) (h : SGs X EX es m) (hn : (assignEach es X.env).length = n := by rfl) (hst : (assignEach es X.env).findIdx? (·.1) = none := by rfl) : SG X EX (.Tuple es k pos) (gT n m) :=
  ⟨PG.imp (pg_tup hc h.h hn hst) fun v σ H Q ⟨ρ, γ, h, d, rel, rd, fin⟩ => by
    cases d <;> first | exact (show False from fin).elim | skip
    rename_i xs
    simp only [RD] at rd
    obtain ⟨q, vs, rfl, h1, h2⟩ := rd
    have fin' : Fin X.K EX ρ H (fun γ' ρ' _ H' => ∀ σ', RG X.K ρ' H' γ' σ' → Q σ' H') ((if xs.length = n then m xs γ else bad) h) := fin
    by_cases hl : xs.length = n
    · rw [if_pos hl] at fin'
      exact ⟨q, vs, rfl, h1, by rw [← h2.length]; exact hl, ρ, γ, h, xs, rel, h2, fin'⟩
    · rw [if_neg hl] at fin'; exact (show False from fin').elim⟩
theorem sgk_tup {es : List Expr} {k n : Nat} {own : List Nat} {m : List D → G → M G} (hc : X.calm = true) (h : SGks X EX es own m) (hn : (assignEach es X.env).length = n := by rfl) (hst : (assignEach es X.env).findIdx? (·.1) = none := by rfl) : SGk X EX (.Tuple es k pos) own (gT n m) :=
  ⟨PG.imp (pg_tup hc h.h hn hst) fun v σ H Q ⟨ρ, γ, h, d, rel, rd, fin⟩ => by
    cases d <;> first | exact (show False from fin).elim | skip
    rename_i xs
    simp only [RD] at rd
    obtain ⟨q, vs, rfl, h1, h2⟩ := rd
    have fin' : Fin X.K EX ρ H (fun γ' ρ' _ H' => ∀ σ', RG X.K ρ' H' γ' σ' → (∀ j : Nat, j ∉ own → σ'[j]? = σ[j]?) → Q σ' H') ((if xs.length = n then m xs γ else bad) h) := fin
    by_cases hl : xs.length = n
    · rw [if_pos hl] at fin'
      exact ⟨q, vs, rfl, h1, by rw [← h2.length]; exact hl, ρ, γ, h, xs, rel, h2, fin'⟩
    · rw [if_neg hl] at fin'; exact (show False from fin').elim⟩
/-- o[i] = .. of a list -/
def fSet : D → D → D → M Unit := fun o i v => match o, i with
  | .ref n, .int k => fun h => match h[n]? with
    | some (.lst xs) => (match ixN xs.length k with
      | some j => .ok () (h.set n (.lst (xs.set j v)))
      | none => .bad)
    | _ => .bad
  | _, _ => bad
def gIx (mo mi : G → M D) : D → G → M G := fun v γ => do
  let o ← mo γ
  let i ← mi γ
  let _ ← fSet o i v
  pure γ
theorem sg_ix {o i : Expr} {mo mi : G → M D} (ho : SE X EX o mo) (hi : SE X EX i mi)
    (ha : ∀ v, assign (.Subscript o i pos) X.env v = (do
      let ov ← holding [v] (eval o X.env)
      let iv ← holding [v, ov] (eval i X.env)
      standAt pos
      holding [v, ov, iv] (setItem ov iv v)
      release [v, ov, iv] []) := by intro _; rfl) : SG X EX (.Subscript o i pos) (gIx mo mi) :=
  ⟨PG.imp (pg_sub ho.h hi.h set_list ha) fun v σ H Q ⟨ρ, γ, h, d, rel, rd, fin⟩ => ⟨ρ, γ, h, rel, (Fin.bind fin).mono fun od ρ1 h1 H1 p1 e1 r1 f1 ov ro => ⟨ρ1, γ, h1, ⟨rel.g.mono p1 e1, r1⟩, (Fin.bind f1).mono fun id ρ2 h2 H2 p2 e2 r2 f2 iv ri => by
    have f3 := Fin.bind f2
    cases od <;> first | exact (show False from f3).elim | skip
    rename_i n
    cases id <;> first | exact (show False from f3).elim | skip
    rename_i k
    simp only [RD] at ro ri
    obtain ⟨q, rfl, hq⟩ := ro
    subst ri
    have hq2 := p2 n q hq
    unfold fSet at f3
    dsimp only at f3
    cases e4 : h2[n]? with
    | none => rw [e4] at f3; exact (show False from f3).elim
    | some ob =>
      cases ob with
      | set ks => rw [e4] at f3; exact (show False from f3).elim
      | lst xs =>
        rw [e4] at f3
        dsimp only at f3
        cases e5 : ixN xs.length k with
        | none => rw [e5] at f3; exact (show False from f3).elim
        | some j =>
          rw [e5] at f3
          obtain ⟨a1, n1, vs, o1, d1⟩ := r2.at e4
          rw [hq2] at n1; cases n1
          have rd2 := (rd.mono p1 e1).mono p2 e2
          have dd := d1.set j rd2
          refine ⟨q, vs, k, j, rfl, rfl, o1, by rw [← d1.length]; exact e5, ?_⟩
          have ext : Ext X.K H2 (upd H2 q (.lst (vs.set j v))) := Ext.upd (.inr ⟨_, o1, trivial⟩)
          have f4 := f3 ρ2 _ (Pre.refl _) ext (r2.set e4 hq2 dd)
          exact f4 ρ2 _ (Pre.refl _) (Ext.refl _ _) (r2.set e4 hq2 dd) σ (((rel.g.mono p1 e1).mono p2 e2).mono (Pre.refl _) ext)⟩⟩⟩
def sAsg (ma : G → M D) (g : D → G → M G) : G → M Out := fun γ => do
  let d ← ma γ
  let γ1 ← g d γ
  pure (.nx γ1)
theorem s_asg {tg : Expr} {g : D → G → M G} (ha : SE X EX a ma) (hg : SG X EX tg g) (hs : swapsWithSole [tg] a pos.line X.env = pure false := by rfl) (hw : swappedStores [tg] a X.env = pure none := by rfl)
    (h1 : (assignEach [tg] X.env).map (·.2) = [assign tg X.env] := by rfl) : S1 X EX (.Assign [tg] a pos) (sAsg ma g) :=
  ⟨PS.imp (ps_asg ha.h hg.h hs hw h1) fun σ H D ⟨ρ, γ, h, rel, fin⟩ => ⟨ρ, γ, h, rel, (Fin.bind fin).mono fun d ρ1 h1 H1 p1 e1 r1 f1 v rv => ⟨ρ1, γ, h1, d, ⟨rel.g.mono p1 e1, r1⟩, rv, (Fin.bind f1).mono fun γ1 ρ2 h2 H2 p2 e2 r2 f2 σ2 g2 =>
    f2 ρ2 H2 (Pre.refl _) (Ext.refl _ _) r2 σ2 g2⟩⟩⟩
theorem s_set (i : Nat) {x : Str} (hN : X.N.Nodup) (ha : SE X EX a ma) (hi : X.N[i]? = some x := by rfl) (hx : Loc X.env.scope x := by first | exact Or.inl rfl | exact Or.inr rfl) (hs : swapsWith a (some (.Name x p)) pos.line X.env = pure false := by first | exact sw_List | exact sw_Tuple | exact sw_Constant | exact sw_Name | exact sw_Call | exact sw_BinOp | exact sw_Compare | exact sw_Subscript | exact sw_UnaryOp | exact sw_BoolOp | exact sw_IfExp | rfl)
    (hf : X.fn x = true ∨ X.env.scope.names.lookup x = some .local := by first | exact .inl rfl | exact .inr rfl | assumption) : S1 X EX (.Assign [.Name x p] a pos) (sAsg ma (gN i)) :=
  ⟨PS.imp (ps_set hN hi hx ha.h hs hf) fun σ H D ⟨ρ, γ, h, rel, fin⟩ => ⟨ρ, γ, h, rel, (Fin.bind fin).mono fun d ρ1 h1 H1 p1 e1 r1 f1 v rv => f1 ρ1 H1 (Pre.refl _) (Ext.refl _ _) r1 _ ((rel.g.mono p1 e1).set i rv)⟩⟩
end
end FT
set_option Elab.async false
set_option linter.all false
set_option maxRecDepth 100000
namespace FT
open PySem PySem.Spec PyProof.Rows L2

/-! ### methods of lists -/
section
variable {X : Cx} {EX : XX} {a o e : Expr} {pos cpos apos : Pos} {ma mo : G → M D}
def updL (n : Nat) (f : List D → Option (D × List D)) : M D := fun h => match h[n]? with
  | some (.lst xs) => (match f xs with
    | some (d, ys) => if ys.length ≤ sizeLine then .ok d (h.set n (.lst ys)) else .bad
    | none => .bad)
  | _ => .bad
def asRef : D → M Nat
  | .ref n => fun h => match h[n]? with
    | some (.lst _) => .ok n h
    | _ => .bad
  | _ => bad
def fAppend (n : Nat) (v : D) : M D := updL n fun xs => some (.non, xs ++ [v])
def fPop (n : Nat) : M D := updL n fun xs => (xs[xs.length - 1]?).map fun d => (d, xs.dropLast)
def fPopAt (n : Nat) (i : D) : M D := match i with
  | .int k => updL n fun xs => if -(2 ^ 63) ≤ k ∧ k < 2 ^ 63 then (match seqIndex? k xs.length with
    | some j => (xs[j]?).map fun d => (d, xs.eraseIdx j)
    | none => none) else none
  | _ => bad
def eM1 (f : Nat → D → M D) (mo ma : G → M D) : G → M D := fun γ => do
  let o ← mo γ
  let n ← asRef o
  let v ← ma γ
  f n v
def eM0 (f : Nat → M D) (mo : G → M D) : G → M D := fun γ => do
  let o ← mo γ
  let n ← asRef o
  f n
theorem updL_rel {K : PySem.W.Frag} {ρ : List Addr} {h : AH} {H : Hp} {Q : VK} {n : Nat} {q : Addr} {f : List D → Option (D × List D)} (r : RH K ρ h H) (hq : ρ[n]? = some q) (fin : FE K EX ρ H Q (updL n f h)) :
    ∃ xs d ys vs, f xs = some (d, ys) ∧ ys.length ≤ sizeLine ∧ H q = some (.lst vs) ∧ RDs K ρ H xs vs ∧ ∀ v ws, RD K ρ H d v → RDs K ρ H ys ws → Q v (upd H q (.lst ws)) := by
  unfold updL at fin
  cases e : h[n]? with
  | none => rw [e] at fin; exact fin.elim
  | some ob =>
    cases ob with
    | set ks => rw [e] at fin; exact fin.elim
    | lst xs =>
      rw [e] at fin
      dsimp only at fin
      cases e2 : f xs with
      | none => rw [e2] at fin; exact fin.elim
      | some dy =>
        obtain ⟨d, ys⟩ := dy
        rw [e2] at fin
        dsimp only at fin
        split at fin
        · rename_i hl
          obtain ⟨a1, n1, vs, o1, d1⟩ := r.at e
          rw [hq] at n1; cases n1
          refine ⟨xs, d, ys, vs, e2, hl, o1, d1, fun v ws rv rw' => ?_⟩
          have ext : Ext K H (upd H q (.lst ws)) := Ext.upd (.inr ⟨_, o1, trivial⟩)
          exact fin ρ _ (Pre.refl _) ext (r.set e hq rw') v (rv.mono (Pre.refl _) ext)
        · exact fin.elim
theorem list_ty {K : PySem.W.Frag} {ρ : List Addr} {h : AH} {H : Hp} {n : Nat} {q : Addr} {Z : Nat → List Addr → AH → Hp → Prop} (r : RH K ρ h H) (hq : ρ[n]? = some q) (f : Fin K EX ρ H Z (asRef (.ref n) h)) : tyV K "list" (.ref q) H ∧ Z n ρ h H := by
  unfold asRef at f
  dsimp only at f
  cases e : h[n]? with
  | none => rw [e] at f; exact f.elim
  | some ob =>
    cases ob with
    | set ks => rw [e] at f; exact f.elim
    | lst xs =>
      rw [e] at f
      obtain ⟨a1, n1, vs, o1, d1⟩ := r.at e
      rw [hq] at n1; cases n1
      exact ⟨.inl ⟨rfl, vs, SqL.of o1⟩, f ρ H (Pre.refl _) (Ext.refl _ _) r⟩
theorem meth1 {f : Nat → D → M D} {r : V → List V → Hp → VK → Prop} (hr : ∀ ρ h H n q y u Q, RH X.K ρ h H → ρ[n]? = some q → RD X.K ρ H y u → FE X.K EX ρ H Q (f n y h) → r (.ref q) [u] H Q) :
    ∀ σ H Q, tE X.K EX (eM1 f mo ma) σ H Q → tBM X.K "list" r (tE X.K EX mo) (tCons (tE X.K EX ma) tNil) σ H Q := fun σ H Q ⟨ρ, γ, h, rel, fin⟩ => ⟨ρ, γ, h, rel, (Fin.bind fin).mono fun x ρ1 h1 H1 p1 e1 r1 f1 v rv => by
    have f2 := Fin.bind f1
    cases x <;> first | exact (show False from f2).elim | skip
    rename_i n
    simp only [RD] at rv
    obtain ⟨q, rfl, hq⟩ := rv
    obtain ⟨lt, f3⟩ := list_ty r1 hq f2
    exact ⟨lt, ρ1, γ, h1, ⟨rel.g.mono p1 e1, r1⟩, (Fin.bind f3).mono fun y ρ2 h2 H2 p2 e2 r2 f4 u ru => hr ρ2 h2 H2 n q y u Q r2 (p2 n q hq) ru f4⟩⟩
theorem meth0 {f : Nat → M D} {r : V → List V → Hp → VK → Prop} (hr : ∀ ρ h H n q Q, RH X.K ρ h H → ρ[n]? = some q → FE X.K EX ρ H Q (f n h) → r (.ref q) [] H Q) :
    ∀ σ H Q, tE X.K EX (eM0 f mo) σ H Q → tBM0 X.K "list" r (tE X.K EX mo) σ H Q := fun σ H Q ⟨ρ, γ, h, rel, fin⟩ => ⟨ρ, γ, h, rel, (Fin.bind fin).mono fun x ρ1 h1 H1 p1 e1 r1 f1 v rv => by
    have f2 := Fin.bind f1
    cases x <;> first | exact (show False from f2).elim | skip
    rename_i n
    simp only [RD] at rv
    obtain ⟨q, rfl, hq⟩ := rv
    obtain ⟨lt, f3⟩ := list_ty r1 hq f2
    exact ⟨lt, hr ρ1 h1 H1 n q Q r1 hq f3⟩⟩
theorem se_append (ho : SE X EX o mo) (ha : SE X EX a ma)
    (hbase : attributeBase o "append" X.env (eval o X.env) = eval o X.env := by rfl)
    (hfew : ((backTo cpos (starEach [a] X.env)).all (fun x => !x.1) && (backToKw cpos (keywordEach [] X.env)).all (fun x => x.1.isSome)
      && decide (([a] : List Expr).length + ([] : List Keyword).length + (if ([] : List Keyword).isEmpty then 0 else 1) < 30)) = true := by rfl)
    (hline : (apos.endLine == cpos.line) = true := by rfl) (hs : starEach [a] X.env = [(false, eval a X.env)] := by rfl) :
    SE X EX (.Call (.Attribute o "append" apos) [a] [] cpos) (eM1 fAppend mo ma) :=
  ⟨PE.imp (pe_bm PySem.F.plainAttrs_list PySem.F.slot_list_append PySem.F.type_list_append mt_append ho.h (pa_cons ha.h pa_nil hs) hbase hfew hline hs rfl) (meth1 fun ρ h H n q y u Q r hq ru fin => by
    obtain ⟨xs, d, ys, vs, g1, g2, g3, g4, g5⟩ := updL_rel r hq fin
    cases g1
    have hl := g4.length
    rw [List.length_append, List.length_singleton] at g2
    exact ⟨q, vs, u, rfl, rfl, g3, by omega, g5 _ _ (by simp [RD]) (g4.append (RDs.cons ru RDs.nil))⟩)⟩
theorem RDs.dropLast {K : PySem.W.Frag} {ρ : List Addr} {H : Hp} {ds : List D} {xs : List V} (h : RDs K ρ H ds xs) : RDs K ρ H ds.dropLast xs.dropLast := by
  rw [List.dropLast_eq_take, List.dropLast_eq_take, h.length]
  exact h.take _
theorem se_pop (ho : SE X EX o mo) (hbase : attributeBase o "pop" X.env (eval o X.env) = eval o X.env := by rfl) (hline : (apos.endLine == cpos.line) = true := by rfl) :
    SE X EX (.Call (.Attribute o "pop" apos) [] [] cpos) (eM0 fPop mo) :=
  ⟨PE.imp (pe_bm0 PySem.F.plainAttrs_list PySem.F.slot_list_pop PySem.F.type_list_pop mt_pop ho.h hbase hline) (meth0 fun ρ h H n q Q r hq fin => by
    obtain ⟨xs, d, ys, vs, g1, g2, g3, g4, g5⟩ := updL_rel r hq fin
    obtain ⟨d', e1, e2⟩ := Option.map_eq_some_iff.mp g1
    cases e2
    obtain ⟨v, e3, e4⟩ := g4.get e1
    rw [g4.length] at e3
    exact ⟨q, vs, v, rfl, rfl, g3, e3, g5 _ _ e4 g4.dropLast⟩)⟩
theorem se_popAt (ho : SE X EX o mo) (ha : SE X EX a ma)
    (hbase : attributeBase o "pop" X.env (eval o X.env) = eval o X.env := by rfl)
    (hfew : ((backTo cpos (starEach [a] X.env)).all (fun x => !x.1) && (backToKw cpos (keywordEach [] X.env)).all (fun x => x.1.isSome)
      && decide (([a] : List Expr).length + ([] : List Keyword).length + (if ([] : List Keyword).isEmpty then 0 else 1) < 30)) = true := by rfl)
    (hline : (apos.endLine == cpos.line) = true := by rfl) (hs : starEach [a] X.env = [(false, eval a X.env)] := by rfl) :
    SE X EX (.Call (.Attribute o "pop" apos) [a] [] cpos) (eM1 fPopAt mo ma) :=
  ⟨PE.imp (pe_bm PySem.F.plainAttrs_list PySem.F.slot_list_pop PySem.F.type_list_pop mt_popAt ho.h (pa_cons ha.h pa_nil hs) hbase hfew hline hs rfl) (meth1 fun ρ h H n q y u Q r hq ru fin => by
    cases y <;> first | exact (show False from fin).elim | skip
    rename_i k
    simp only [RD] at ru
    subst ru
    obtain ⟨xs, d, ys, vs, g1, g2, g3, g4, g5⟩ := updL_rel r hq fin
    split at g1
    · rename_i hk
      cases e5 : seqIndex? k xs.length with
      | none => rw [e5] at g1; cases g1
      | some j =>
        rw [e5] at g1
        obtain ⟨d', e1, e2⟩ := Option.map_eq_some_iff.mp g1
        cases e2
        obtain ⟨v, e3, e4⟩ := g4.get e1
        exact ⟨q, vs, k, j, v, rfl, rfl, g3, hk.1, hk.2, by rw [← g4.length]; exact e5, e3, g5 _ _ e4 (g4.eraseIdx j)⟩
    · cases g1)⟩
end

/-! ### what a loop walks -/
inductive Src where
  | con (xs : List D)
  | lst (n : Nat) (xs : List D)
def Src.items : Src → List D
  | .con xs => xs
  | .lst _ xs => xs
def Src.good : Src → AH → Prop
  | .con _, _ => True
  | .lst n xs, h => h[n]? = some (.lst xs)
open Classical in
noncomputable def Src.chk (s : Src) : M Unit := fun h => if s.good h then .ok () h else .bad
/-- the iterator J walks the source's items -/
def JOK (K : PySem.W.Frag) (src : Src) (ρ : List Addr) (H : Hp) (J : It) : Prop := ∀ i ρ1 h1 H1, Pre ρ ρ1 → Ext K H H1 → RH K ρ1 h1 H1 → src.good h1 →
  (∀ d, src.items[i]? = some d → J.go i H1 ∧ ∀ x H2, J.yld i H1 x H2 → RD K ρ1 H2 d x ∧ RH K ρ1 h1 H2 ∧ Ext K H1 H2) ∧ (src.items.length = i → J.stop i H1)
def tI (K : PySem.W.Frag) (EX : XX) (m : G → M Src) : TI := fun σ H R => ∃ ρ γ h, Rel K ρ γ h σ H ∧ Fin K EX ρ H (fun src ρ' _ H' => ∀ J, JOK K src ρ' H' J → R J H') (m γ h)
structure SI (X : Cx) (EX : XX) (tg iter : Expr) (m : G → M Src) : Prop where
  h : PI X tg iter (tI X.K EX m)
theorem PI.imp {X : Cx} {tg e : Expr} {t t' : TI} (h : PI X tg e t) (f : ∀ σ H R, t' σ H R → t σ H R) : PI X tg e t' := fun pins s σ H R I z => h pins s σ H R I (f σ H R z)
section
variable {X : Cx} {EX : XX} {a o e tg : Expr} {pos cpos apos p : Pos} {ma mo : G → M D} {mr : G → M (List D)}
def iSeqL (ma : G → M D) : G → M Src := fun γ => do
  let x ← ma γ
  match x with
  | .fl xs => pure (.con xs)
  | .ref n => do
    let xs ← getL n
    pure (.lst n xs)
  | _ => bad
theorem si_list (ha : SE X EX a ma) : SI X EX tg a (iSeqL ma) :=
  ⟨PI.imp (pi_list ha.h) fun σ H R ⟨ρ, γ, h, rel, fin⟩ => ⟨ρ, γ, h, rel, (Fin.bind fin).mono fun x ρ1 h1 H1 p1 e1 r1 f1 v rv => by
    cases x <;> first | exact (show False from f1).elim | skip
    case fl xs =>
      simp only [RD] at rv
      obtain ⟨q, vs, rfl, h2, h3⟩ := rv
      refine ⟨q, rfl, ⟨vs, h2.sq⟩, f1 ρ1 H1 (Pre.refl _) (Ext.refl _ _) r1 _ fun i ρ2 h4 H2 p2 e2 r2 _ => ⟨fun d hd => ?_, fun hi => ?_⟩⟩
      · have h3' := h3.mono p2 e2
        obtain ⟨x, g1, g2⟩ := h3'.get hd
        refine ⟨⟨vs, x, (e2.l _ _ h2).sq, g1⟩, fun y H3 ⟨z1, z2⟩ => ?_⟩
        subst z1
        have := z2 vs (e2.l _ _ h2).sq
        rw [g1] at this; cases this
        exact ⟨g2, r2, Ext.refl _ _⟩
      · exact ⟨vs, (e2.l _ _ h2).sq, by rw [← h3.length]; exact Nat.le_of_eq hi⟩
    case ref n =>
      have f2 : Fin X.K EX ρ1 H1 (fun src ρ' _ H' => ∀ J, JOK X.K src ρ' H' J → R J H') ((getL n >>= fun xs => (pure (.lst n xs) : M Src)) h1) := f1
      have f3 := Fin.bind f2
      cases e3 : getL n h1 with
      | bad => rw [e3] at f3; exact f3.elim
      | err z hz => exact (getL_no e3).elim
      | ok xs h3 =>
        obtain ⟨rfl, q1⟩ := getL_ok e3
        rw [e3] at f3
        simp only [RD] at rv
        obtain ⟨q, rfl, hq⟩ := rv
        obtain ⟨a1, n1, vs, o1, d1⟩ := r1.at q1
        rw [hq] at n1; cases n1
        have f4 := f3 ρ1 H1 (Pre.refl _) (Ext.refl _ _) r1
        refine ⟨q, rfl, ⟨vs, SqL.of o1⟩, f4 ρ1 H1 (Pre.refl _) (Ext.refl _ _) r1 _ fun i ρ2 h4 H2 p2 e2 r2 g => ?_⟩
        have g' : h4[n]? = some (.lst xs) := g
        obtain ⟨a2, n2, vs2, o2, d2⟩ := r2.at g'
        rw [p2 n q hq] at n2; cases n2
        refine ⟨fun d hd => ?_, fun hi => ⟨vs2, SqL.of o2, by rw [← d2.length]; exact Nat.le_of_eq hi⟩⟩
        obtain ⟨x, g1, g2⟩ := d2.get hd
        refine ⟨⟨vs2, x, SqL.of o2, g1⟩, fun y H3 ⟨z1, z2⟩ => ?_⟩
        subst z1
        have := z2 vs2 (SqL.of o2)
        rw [g1] at this; cases this
        exact ⟨g2, r2, Ext.refl _ _⟩⟩⟩
def iSeqT (ma : G → M D) : G → M Src := fun γ => do
  let x ← ma γ
  match x with
  | .tup xs => pure (.con xs)
  | _ => bad
theorem si_tup (ha : SE X EX a ma) : SI X EX tg a (iSeqT ma) :=
  ⟨PI.imp (pi_tup ha.h) fun σ H R ⟨ρ, γ, h, rel, fin⟩ => ⟨ρ, γ, h, rel, (Fin.bind fin).mono fun x ρ1 h1 H1 p1 e1 r1 f1 v rv => by
    cases x <;> first | exact (show False from f1).elim | skip
    rename_i xs
    simp only [RD] at rv
    obtain ⟨q, vs, rfl, h2, h3⟩ := rv
    refine ⟨q, rfl, ⟨vs, h2⟩, f1 ρ1 H1 (Pre.refl _) (Ext.refl _ _) r1 _ fun i ρ2 h4 H2 p2 e2 r2 _ => ⟨fun d hd => ?_, fun hi => ?_⟩⟩
    · have h3' := h3.mono p2 e2
      obtain ⟨x, g1, g2⟩ := h3'.get hd
      refine ⟨⟨vs, x, e2.t _ _ h2, g1⟩, fun y H3 ⟨z1, z2⟩ => ?_⟩
      subst z1
      have := z2 vs (e2.t _ _ h2)
      rw [g1] at this; cases this
      exact ⟨g2, r2, Ext.refl _ _⟩
    · exact ⟨vs, e2.t _ _ h2, by rw [← h3.length]; exact Nat.le_of_eq hi⟩⟩⟩
/-- range(n) -/
def intsD (n : Nat) : List D := (List.range n).map fun (i : Nat) => .int i
def iRange (ma : G → M D) : G → M Src := fun γ => do
  let x ← ma γ
  match x with
  | .int j => if -(2 ^ 62) ≤ j ∧ j < 2 ^ 62 then pure (.con (intsD j.toNat)) else bad
  | _ => bad
theorem si_range (hg : Gl X "range") (hm : X.mg "range" = none) (ha : SE X EX a ma) (hs : starEach [a] X.env = [(false, eval a X.env)] := by rfl) : SI X EX tg (.Call (.Name "range" p) [a] [] pos) (iRange ma) :=
  ⟨PI.imp (pi_range1 hg hm (pa_cons ha.h pa_nil hs) hs) fun σ H R ⟨ρ, γ, h, rel, fin⟩ => ⟨ρ, γ, h, rel, (Fin.bind fin).mono fun x ρ1 h1 H1 p1 e1 r1 f1 v rv => by
    cases x <;> first | exact (show False from f1).elim | skip
    rename_i j
    simp only [RD] at rv
    subst rv
    have f2 : Fin X.K EX ρ1 H1 (fun src ρ' _ H' => ∀ J, JOK X.K src ρ' H' J → R J H') ((if -(2 ^ 62) ≤ j ∧ j < 2 ^ 62 then pure (.con (intsD j.toNat)) else bad : M Src) h1) := f1
    by_cases hj : -(2 ^ 62) ≤ j ∧ j < 2 ^ 62
    · rw [if_pos hj] at f2
      refine ⟨j, rfl, hj.1, hj.2, f2 ρ1 H1 (Pre.refl _) (Ext.refl _ _) r1 _ fun i ρ2 h4 H2 p2 e2 r2 _ => ⟨fun d hd => ?_, fun hi => ?_⟩⟩
      · have hd' : (intsD j.toNat)[i]? = some d := hd
        unfold intsD at hd'
        rw [List.getElem?_map] at hd'
        have hi : i < j.toNat := by
          by_cases hi : i < j.toNat
          · exact hi
          · rw [List.getElem?_eq_none (by simpa using hi)] at hd'; cases hd'
        rw [List.getElem?_range hi] at hd'
        cases hd'
        refine ⟨hi, fun y H3 ⟨z1, z2⟩ => ?_⟩
        subst z1; subst z2
        exact ⟨by simp [RD], r2, Ext.refl _ _⟩
      · have hi' : (intsD j.toNat).length = i := hi
        unfold intsD at hi'
        rw [List.length_map, List.length_range] at hi'
        exact Nat.le_of_eq hi'
    · rw [if_neg hj] at f2; exact f2.elim⟩⟩
end

/-! ### for -/
noncomputable def forR (src : Src) (g : D → G → M G) (body : G → M Out) : List D → G → M Out
  | [], γ => do
    let _ ← src.chk
    pure (.nx γ)
  | d :: r, γ => do
    let _ ← src.chk
    let γ1 ← g d γ
    let o ← body γ1
    match o with
    | .nx γ2 => forR src g body r γ2
    | .ct γ2 => forR src g body r γ2
    | .bk γ2 => pure (.nx γ2)
    | .rt v => pure (.rt v)
noncomputable def sFor (mi : G → M Src) (g : D → G → M G) (body : G → M Out) : G → M Out := fun γ => do
  let src ← mi γ
  forR src g body src.items γ
theorem chk_ok {K : PySem.W.Frag} {EX : XX} {ρ : List Addr} {H : Hp} {α : Type} {P : α → List Addr → AH → Hp → Prop} {src : Src} {f : Unit → M α} {h : AH} (fin : Fin K EX ρ H P ((src.chk >>= f) h)) (r : RH K ρ h H) : src.good h ∧ Fin K EX ρ H P (f () h) := by
  have f1 := Fin.bind fin
  unfold Src.chk at f1
  split at f1
  · rename_i hg
    exact ⟨hg, f1 ρ H (Pre.refl _) (Ext.refl _ _) r⟩
  · exact f1.elim
section
variable {X : Cx} {EX : XX} {a o e tg c : Expr} {pos cpos apos p : Pos} {ma mo : G → M D} {mi : G → M Src} {g : D → G → M G} {mb : G → M Out} {sts : List Stmt} {kc : G → M Bool}
theorem s_for (hp : PassesOwn (model X.prog X.w) X.A X.env X.xe) (hc : X.calm = true) (hi : SI X EX tg e mi) (hg : SG X EX tg g) (hb : SB X EX sts mb) (hs : ∀ x, foldedSetIterable e X.env x = pure x := by intro _; rfl) : S1 X EX (.For tg e sts [] pos) (sFor mi g mb) :=
  ⟨PS.imp (ps_for hp hc hi.h hg.h hb.h hs) fun σ H D ⟨ρ, γ, h, rel, fin⟩ => ⟨ρ, γ, h, rel, (Fin.bind fin).mono fun src ρ0 h0 H0 p0 e0 r0 f0 J hJ => by
    refine ⟨fun i m σ H => m + i = src.items.length ∧ ∃ ρ γ h, Pre ρ0 ρ ∧ Ext X.K H0 H ∧ Rel X.K ρ γ h σ H ∧ Fin X.K EX ρ H (fun o ρ' _ H' => OutP X.K D o ρ' H') (forR src g mb (src.items.drop i) γ h),
      ⟨src.items.length, rfl, ρ0, γ, h0, Pre.refl _, Ext.refl _ _, ⟨rel.g.mono p0 e0, r0⟩, f0⟩, ?_⟩
    rintro i m σ1 H1 ⟨hm, ρ1, γ1, h1, p1, e1, rel1, f1⟩
    by_cases hi : i < src.items.length
    · have hd : src.items.drop i = src.items[i] :: src.items.drop (i + 1) := List.drop_eq_getElem_cons hi
      rw [hd] at f1
      unfold forR at f1
      obtain ⟨good, f2⟩ := chk_ok f1 rel1.h
      obtain ⟨j1, j2⟩ := hJ i ρ1 h1 H1 p1 e1 rel1.h good
      obtain ⟨go, yld⟩ := j1 src.items[i] (List.getElem?_eq_getElem hi)
      refine .inr ⟨go, fun σ' H' => ∃ ρ γ h, Pre ρ0 ρ ∧ Ext X.K H0 H' ∧ Rel X.K ρ γ h σ' H' ∧ Fin X.K EX ρ H' (fun o ρ' _ H' => OutP X.K D o ρ' H') (forR src g mb (src.items.drop (i + 1)) γ h), fun σ' H' z => ⟨m - 1, by omega, by omega, z⟩, fun x H2 y => ?_⟩
      obtain ⟨rd, rh, ext⟩ := yld x H2 y
      refine ⟨ρ1, γ1, h1, _, ⟨rel1.g.mono (Pre.refl _) ext, rh⟩, rd, (Fin.bind (Fin.up (Pre.refl _) ext f2)).mono fun γ2 ρ3 h3 H3 p3 e3 r3 f3 σ3 g3 => ⟨ρ3, γ2, h3, ⟨g3, r3⟩, (Fin.bind f3).mono fun o ρ4 h4 H4 p4 e4 r4 f4 => ?_⟩⟩
      have pp : Pre ρ0 ρ4 := (p1.trans p3).trans p4
      have ee : Ext X.K H0 H4 := ((e1.trans ext).trans e3).trans e4
      cases o with
      | nx γ5 => exact fun σ5 g5 => ⟨ρ4, γ5, h4, pp, ee, ⟨g5, r4⟩, f4⟩
      | ct γ5 => exact fun σ5 g5 => ⟨ρ4, γ5, h4, pp, ee, ⟨g5, r4⟩, f4⟩
      | bk γ5 => exact fun σ5 g5 => f4 ρ4 H4 (Pre.refl _) (Ext.refl _ _) r4 σ5 g5
      | rt d => exact fun v rv => f4 ρ4 H4 (Pre.refl _) (Ext.refl _ _) r4 v rv
    · have hd : src.items.drop i = [] := List.drop_eq_nil_of_le (by omega)
      rw [hd] at f1
      unfold forR at f1
      obtain ⟨good, f2⟩ := chk_ok f1 rel1.h
      obtain ⟨j1, j2⟩ := hJ i ρ1 h1 H1 p1 e1 rel1.h good
      exact .inl ⟨j2 (by omega), f2 ρ1 H1 (Pre.refl _) (Ext.refl _ _) rel1.h σ1 rel1.g⟩⟩⟩
/-! ### while -/
def whileR (k : G → M Bool) (body : G → M Out) : Nat → G → M Out
  | 0, _ => bad
  | n + 1, γ => do
    let t ← k γ
    if t then do
      let o ← body γ
      match o with
      | .nx γ2 => whileR k body n γ2
      | .ct γ2 => whileR k body n γ2
      | .bk γ2 => pure (.nx γ2)
      | .rt v => pure (.rt v)
    else pure (.nx γ)
theorem s_while (n : Nat) (hp : PassesOwn (model X.prog X.w) X.A X.env X.xe) (hc : SC X EX c kc) (hb : SB X EX sts mb) : S1 X EX (.While c sts [] pos) (whileR kc mb n) :=
  ⟨PS.imp (ps_while hp hc.h hb.h) fun σ H D ⟨ρ, γ, h, rel, fin⟩ => by
    refine ⟨fun m σ H => ∃ ρ γ h, Rel X.K ρ γ h σ H ∧ Fin X.K EX ρ H (fun o ρ' _ H' => OutP X.K D o ρ' H') (whileR kc mb m γ h), ⟨n, ρ, γ, h, rel, fin⟩, ?_⟩
    rintro m σ1 H1 ⟨ρ1, γ1, h1, rel1, f1⟩
    cases m with
    | zero => exact (show False from f1).elim
    | succ m =>
      unfold whileR at f1
      refine ⟨ρ1, γ1, h1, rel1, (Fin.bind f1).mono fun t ρ2 h2 H2 p2 e2 r2 f2 => ?_⟩
      cases t with
      | false => exact f2 ρ2 H2 (Pre.refl _) (Ext.refl _ _) r2 σ1 (rel1.g.mono p2 e2)
      | true =>
        rw [if_pos rfl] at f2 ⊢
        refine ⟨fun σ' H' => ∃ ρ γ h, Rel X.K ρ γ h σ' H' ∧ Fin X.K EX ρ H' (fun o ρ' _ H' => OutP X.K D o ρ' H') (whileR kc mb m γ h), fun σ' H' z => ⟨m, by omega, z⟩, ρ2, γ1, h2, ⟨rel1.g.mono p2 e2, r2⟩, (Fin.bind f2).mono fun o ρ4 h4 H4 p4 e4 r4 f4 => ?_⟩
        cases o with
        | nx γ5 => exact fun σ5 g5 => ⟨ρ4, γ5, h4, ⟨g5, r4⟩, f4⟩
        | ct γ5 => exact fun σ5 g5 => ⟨ρ4, γ5, h4, ⟨g5, r4⟩, f4⟩
        | bk γ5 => exact fun σ5 g5 => f4 ρ4 H4 (Pre.refl _) (Ext.refl _ _) r4 σ5 g5
        | rt d => exact fun v rv => f4 ρ4 H4 (Pre.refl _) (Ext.refl _ _) r4 v rv⟩
end
end FT
set_option Elab.async false
set_option linter.all false
set_option maxRecDepth 100000
namespace FT
open PySem PySem.Spec PyProof.Rows L2

/-! ### comprehensions -/
def capG (cap : List (Option Nat)) (γ : G) : G := cap.map fun o => match o with | some j => (γ[j]?).join | none => none
theorem cap_rel {K : PySem.W.Frag} {ρ : List Addr} {H : Hp} {γ : G} {σ : L2.St} (cap : List (Option Nat)) (r : RG K ρ H γ σ) : RG K ρ H (capG cap γ) (capSt cap σ) := by
  refine ⟨by simp [capG, capSt], fun i d e => ?_⟩
  unfold capG at e
  unfold capSt
  rw [List.getElem?_map] at e ⊢
  cases q : cap[i]? with
  | none => rw [q] at e; cases e
  | some o =>
    rw [q] at e
    cases o with
    | none => simp at e
    | some j =>
      have e2 : (γ[j]?).join = some d := by simpa using e
      have e3 : γ[j]? = some (some d) := by
        cases q2 : γ[j]? with
        | none => rw [q2] at e2; simp at e2
        | some o2 => rw [q2] at e2; simp at e2; rw [e2]
      obtain ⟨v, h1, h2⟩ := r.var j d e3
      exact ⟨v, by simp [h1], h2⟩
noncomputable def compR (src : Src) (g : D → G → M G) (k : G → M Bool) (me : G → M D) (n0 : Nat) (γ : G) : List D → M Unit
  | [] => do
    let _ ← src.chk
    pure ()
  | d :: r => do
    let _ ← src.chk
    let γ1 ← g d γ
    let t ← k γ1
    if t then do
      let v ← me γ1
      let _ ← fAppend n0 v
      compR src g k me n0 γ r
    else compR src g k me n0 γ r
noncomputable def eComp (cap : List (Option Nat)) (mi : G → M Src) (g : D → G → M G) (k : G → M Bool) (me : G → M D) : G → M D := fun γ => do
  let src ← mi γ
  let n0 ← (fun h => .ok h.length (h ++ [.lst []]) : M Nat)
  let _ ← compR src g k me n0 (capG cap γ) src.items
  pure (.ref n0)
structure SCs (X : Cx) (EX : XX) (ifs : List Expr) (m : G → M Bool) : Prop where
  h : PTs X ifs (tT X.K EX m)
theorem PTs.imp {X : Cx} {e : List Expr} {t t' : TT} (h : PTs X e t) (f : ∀ σ H Q, t' σ H Q → t σ H Q) : PTs X e t' := fun pins s σ H Q I z => h pins s σ H Q I (f σ H Q z)
section
variable {X : Cx} {EX : XX} {elt tg iter c : Expr} {ifs : List Expr} {sc : Scope} {pos : Pos} {N' : List Str} {cap : List (Option Nat)} {own : List Nat} {mi : G → M Src} {g : D → G → M G} {k kr : G → M Bool} {me : G → M D}
theorem scs_nil : SCs X EX [] (fun _ => pure true) := ⟨PTs.imp pts_nil fun σ H Q ⟨ρ, γ, h, rel, fin⟩ => fin ρ H (Pre.refl _) (Ext.refl _ _) rel.h⟩
theorem scs_one (h : SC X EX c k) : SCs X EX [c] k := ⟨PTs.imp (pts_cons h.h pts_nil) fun σ H Q ⟨ρ, γ, h, rel, fin⟩ => ⟨ρ, γ, h, rel, fin.mono fun t ρ1 h1 H1 p1 e1 r1 f1 => by
  cases t with
  | true => exact f1
  | false => exact f1⟩⟩
theorem comp_run {σ : L2.St} {H0 : Hp} {ρ0 : List Addr} {h0 : AH} {γ : G} {src : Src} {J : It} {Dd : Addr} {P : Hp → Prop} (r0 : RH X.K ρ0 h0 H0) (rg : RG X.K ρ0 H0 γ σ) (hJ : JOK X.K src ρ0 H0 J) (hD : H0 Dd = none) (hown : ∀ j ∈ own, cap[j]? = some none)
    (fin : Fin X.K EX (ρ0 ++ [Dd]) (upd H0 Dd (.lst [])) (fun _ ρ' h' H' => ρ'[h0.length]? = some Dd → RH X.K ρ' h' H' → Ext X.K (upd H0 Dd (.lst [])) H' → Pre (ρ0 ++ [Dd]) ρ' → P H') (compR src g k me h0.length (capG cap γ) src.items (h0 ++ [.lst []]))) :
    compRun cap (tGk X.K EX own g) (tT X.K EX k) (tE X.K EX me) σ J Dd P (upd H0 Dd (.lst [])) := by
  have rP := r0.push hD (RDs.nil (K := X.K) (ρ := ρ0) (H := H0))
  have eP : Ext X.K H0 (upd H0 Dd (.lst [])) := Ext.upd (.inl hD)
  have at0 : (ρ0 ++ [Dd])[h0.length]? = some Dd := by rw [← r0.len]; simp
  refine ⟨fun i m H => m + i = src.items.length ∧ ∃ ρ h, Pre (ρ0 ++ [Dd]) ρ ∧ Ext X.K (upd H0 Dd (.lst [])) H ∧ RH X.K ρ h H ∧
    Fin X.K EX ρ H (fun _ ρ' h' H' => ρ'[h0.length]? = some Dd → RH X.K ρ' h' H' → Ext X.K (upd H0 Dd (.lst [])) H' → Pre (ρ0 ++ [Dd]) ρ' → P H') (compR src g k me h0.length (capG cap γ) (src.items.drop i) h),
    ⟨src.items.length, rfl, _, _, Pre.refl _, Ext.refl _ _, rP, fin⟩, ?_⟩
  rintro i m H1 ⟨hm, ρ1, h1, p1, e1, r1, f1⟩
  have p01 : Pre ρ0 ρ1 := (Pre.app _ _).trans p1
  have e01 : Ext X.K H0 H1 := eP.trans e1
  by_cases hi : i < src.items.length
  · have hd : src.items.drop i = src.items[i] :: src.items.drop (i + 1) := List.drop_eq_getElem_cons hi
    rw [hd] at f1
    unfold compR at f1
    obtain ⟨good, f2⟩ := chk_ok f1 r1
    obtain ⟨j1, j2⟩ := hJ i ρ1 h1 H1 p01 e01 r1 good
    obtain ⟨go, yld⟩ := j1 src.items[i] (List.getElem?_eq_getElem hi)
    refine .inr ⟨go, fun x H2 y => ?_⟩
    obtain ⟨rd, rh, ext⟩ := yld x H2 y
    have rgc : RG X.K ρ1 H2 (capG cap γ) (capSt cap σ) := (cap_rel cap rg).mono p01 (e01.trans ext)
    refine ⟨ρ1, _, h1, _, ⟨rgc, rh⟩, rd, (Fin.bind (Fin.up (Pre.refl _) ext f2)).mono fun γ2 ρ3 h3 H3 p3 e3 r3 f3 σ3 g3 k3 => ⟨fun j v hv => ?_, ρ3, γ2, h3, ⟨g3, r3⟩, (Fin.bind f3).mono fun t ρ4 h4 H4 p4 e4 r4 f4 => ?_⟩⟩
    · rw [k3 j fun hj => ?_]
      · exact hv
      · have z := hown j hj
        unfold capSt at hv
        rw [List.getElem?_map, z] at hv
        simp at hv
    · have pp : Pre (ρ0 ++ [Dd]) ρ4 := (p1.trans p3).trans p4
      have ee : Ext X.K (upd H0 Dd (.lst [])) H4 := ((e1.trans ext).trans e3).trans e4
      cases t with
      | false =>
        rw [if_neg (by decide)] at f4
        dsimp only
        rw [if_neg (by decide)]
        exact ⟨m - 1, by omega, by omega, ρ4, h4, pp, ee, r4, f4⟩
      | true =>
        rw [if_pos rfl] at f4
        dsimp only
        rw [if_pos rfl]
        refine ⟨ρ4, γ2, h4, ⟨g3.mono p4 e4, r4⟩, (Fin.bind f4).mono fun d ρ5 h5 H5 p5 e5 r5 f5 v rv => ?_⟩
        have hq : ρ5[h0.length]? = some Dd := (pp.trans p5) _ _ at0
        have f6 := Fin.bind f5
        unfold fAppend updL at f6
        cases e7 : h5[h0.length]? with
        | none => rw [e7] at f6; exact f6.elim
        | some ob =>
          cases ob with
          | set ks => rw [e7] at f6; exact f6.elim
          | lst xs =>
            rw [e7] at f6
            dsimp only at f6
            split at f6
            · rename_i hl
              obtain ⟨a1, n1, vs, o1, d1⟩ := r5.at e7
              rw [hq] at n1; cases n1
              have dd := d1.append (RDs.cons rv RDs.nil)
              have ext2 : Ext X.K H5 (upd H5 Dd (.lst (vs ++ [v]))) := Ext.upd (.inr ⟨_, o1, trivial⟩)
              have r6 := r5.set e7 hq dd
              rw [List.length_append, List.length_singleton] at hl
              have hl2 := d1.length
              exact ⟨vs, o1, by omega, m - 1, by omega, by omega, ρ5, _, pp.trans p5, (ee.trans e5).trans ext2, r6, f6 ρ5 _ (Pre.refl _) ext2 r6⟩
            · exact f6.elim
  · have hd : src.items.drop i = [] := List.drop_eq_nil_of_le (by omega)
    rw [hd] at f1
    unfold compR at f1
    obtain ⟨good, f2⟩ := chk_ok f1 r1
    obtain ⟨j1, j2⟩ := hJ i ρ1 h1 H1 p01 e01 r1 good
    exact .inl ⟨j2 (by omega), f2 ρ1 H1 (Pre.refl _) (Ext.refl _ _) r1 (p1 _ _ at0) r1 e1 p1⟩
theorem se_comp (hc : X.calm = true) (S : CS X sc N' cap) (hi : SI X EX tg iter mi) (hg : ∀ s H fp xe, SGk (X.comp N' sc s H fp xe) EX tg own g) (ht : ∀ s H fp xe, SCs (X.comp N' sc s H fp xe) EX ifs k)
    (he : ∀ s H fp xe, SE (X.comp N' sc s H fp xe) EX elt me) (hown : ∀ j ∈ own, cap[j]? = some none := by decide) (hs : ∀ x, foldedSetIterable iter X.env x = pure x := by intro _; rfl) : SE X EX (.ListComp elt [⟨tg, iter, ifs, 0⟩] sc pos) (eComp cap mi g k me) :=
  ⟨PE.imp (pe_comp (g := tGk X.K EX own g) (ti := tT X.K EX k) (te := tE X.K EX me) hc S hi.h (fun s H fp xe => (hg s H fp xe).h) (fun s H fp xe => (ht s H fp xe).h) (fun s H fp xe => (he s H fp xe).h) hs) fun σ H Q ⟨ρ, γ, h, rel, fin⟩ => ⟨ρ, γ, h, rel, (Fin.bind fin).mono fun src ρ0 h0 H0 p0 e0 r0 f0 J hJ Dd hD => by
    have rP := r0.push hD (RDs.nil (K := X.K) (ρ := ρ0) (H := H0))
    have eP : Ext X.K H0 (upd H0 Dd (.lst [])) := Ext.upd (.inl hD)
    have f1 := Fin.bind f0
    have f2 := f1 (ρ0 ++ [Dd]) _ (Pre.app _ _) eP rP
    refine comp_run r0 (rel.g.mono p0 e0) hJ hD hown ((Fin.bind f2).mono fun _ ρ5 h5 H5 p5 e5 r5 f5 hat rr ee pp => ?_)
    refine FE.here (d := .ref h0.length) (h := h5) f5 rr ?_
    simp only [RD]
    exact ⟨Dd, rfl, hat⟩⟩⟩
noncomputable def sComp' (i : Nat) (cap : List (Option Nat)) (mi : G → M Src) (g : D → G → M G) (k : G → M Bool) (me : G → M D) : G → M Out := sAsg (eComp cap mi g k me) (gN i)
theorem s_comp (i : Nat) {y : Str} {py spos : Pos} (hc : X.calm = true) (S : CS X sc N' cap) (hi : SI X EX tg iter mi) (hg : ∀ s H fp xe, SGk (X.comp N' sc s H fp xe) EX tg own g) (ht : ∀ s H fp xe, SCs (X.comp N' sc s H fp xe) EX ifs k)
    (he : ∀ s H fp xe, SE (X.comp N' sc s H fp xe) EX elt me) (hN : X.N.Nodup) (hy : X.N[i]? = some y := by rfl) (hl : X.env.scope.names.lookup y = some .local := by rfl) (hown : ∀ j ∈ own, cap[j]? = some none := by decide)
    (hsw : swapsWith (.ListComp elt [⟨tg, iter, ifs, 0⟩] sc pos) (some (.Name y py)) spos.line X.env = pure true := by rfl) (hs : ∀ x, foldedSetIterable iter X.env x = pure x := by intro _; rfl) :
    S1 X EX (.Assign [.Name y py] (.ListComp elt [⟨tg, iter, ifs, 0⟩] sc pos) spos) (sComp' i cap mi g k me) :=
  ⟨PS.imp (ps_comp (g := tGk X.K EX own g) (ti := tT X.K EX k) (te := tE X.K EX me) hc S hi.h (fun s H fp xe => (hg s H fp xe).h) (fun s H fp xe => (ht s H fp xe).h) (fun s H fp xe => (he s H fp xe).h) hN hy hl hsw hs) fun σ H D ⟨ρ, γ, h, rel, fin⟩ => ⟨ρ, γ, h, rel, (Fin.bind (Fin.bind fin)).mono fun src ρ0 h0 H0 p0 e0 r0 f0 J hJ Dd hD => by
    have rP := r0.push hD (RDs.nil (K := X.K) (ρ := ρ0) (H := H0))
    have eP : Ext X.K H0 (upd H0 Dd (.lst [])) := Ext.upd (.inl hD)
    have f1 := Fin.bind f0
    have f2 := f1 (ρ0 ++ [Dd]) _ (Pre.app _ _) eP rP
    refine comp_run r0 (rel.g.mono p0 e0) hJ hD hown ((Fin.bind f2).mono fun _ ρ5 h5 H5 p5 e5 r5 f5 hat rr ee pp => ?_)
    have f6 := f5 ρ5 H5 (Pre.refl _) (Ext.refl _ _) rr
    have f7 := f6 ρ5 H5 (Pre.refl _) (Ext.refl _ _) rr
    refine f7 _ (RG.set (((rel.g.mono p0 e0).mono (Pre.app _ _) eP).mono pp ee) i ?_)
    simp only [RD]
    exact ⟨Dd, rfl, hat⟩⟩⟩
end
end FT
set_option Elab.async false
set_option linter.all false
set_option maxRecDepth 100000
namespace FT
open PySem PySem.Spec PyProof.Rows L2

def csOk (osc : Scope) (N : List Str) (sc : Scope) (N' : List Str) (cap : List (Option Nat)) : Bool :=
  (sc.kind == .function) && sc.names.all (fun y => y.2 != .cell) && sc.names.all (fun x => x.2 != .local || sc.names.lookup x.1 == some .local) &&
  sc.names.all (fun x => x.2 != .free || (osc.names.lookup x.1 == some .cell || osc.names.lookup x.1 == some .free)) && (cap.length == N'.length) &&
  (List.range cap.length).all fun i => match cap[i]? with
    | some (some j) => (match N'[i]?, N[j]? with
      | some x, some y => x == y && sc.names.lookup x == some .free
      | _, _ => false)
    | _ => true
theorem cs_mk {X : Cx} {sc : Scope} {N' : List Str} {cap : List (Option Nat)} (h : csOk X.env.scope X.N sc N' cap = true) : CS X sc N' cap := by
  unfold csOk at h
  simp only [Bool.and_eq_true] at h
  obtain ⟨⟨⟨⟨⟨h1, h2⟩, h3⟩, h4⟩, h5⟩, h6⟩ := h
  refine ⟨by simpa using h1, fun y hy => ?_, fun x hx hl => ?_, fun x hx hf => ?_, by simpa using h5, fun i j e => ?_⟩
  · have := List.all_eq_true.mp h2 y hy
    simpa using this
  · have := List.all_eq_true.mp h3 x hx
    simpa [hl] using this
  · have := List.all_eq_true.mp h4 x hx
    have : (X.env.scope.names.lookup x.1 == some .cell || X.env.scope.names.lookup x.1 == some .free) = true := by simpa [hf] using this
    rw [Bool.or_eq_true] at this
    rcases this with z | z
    · exact .inl (show X.env.scope.names.lookup x.1 = _ by simpa using z)
    · exact .inr (show X.env.scope.names.lookup x.1 = _ by simpa using z)
  · have hi : i < cap.length := (List.getElem?_eq_some_iff.mp e).1
    have := List.all_eq_true.mp h6 i (List.mem_range.mpr hi)
    rw [e] at this
    dsimp only at this
    cases e1 : N'[i]? with
    | none => rw [e1] at this; cases this
    | some x =>
      cases e2 : X.N[j]? with
      | none => rw [e1, e2] at this; cases this
      | some y =>
        rw [e1, e2] at this
        simp only [Bool.and_eq_true] at this
        have exy : x = y := by simpa using this.1
        subst exy
        exact ⟨x, rfl, rfl, by simpa using this.2⟩

/-! ### what stands at the top -/
def DefAt (K : PySem.W.Frag) (x : Str) (st : Stmt) : Prop := ∃ f fd, PySem.W.nsIn K mainGlobals x = some (some (.ref f)) ∧ Fun K x x st f fd
theorem defAt_mk {K : PySem.W.Frag} {x : Str} {st : Stmt} {f : Addr} {oc : Value} {od an : Option Addr} {sl : Array (Option Value)} {kV dc pm cd ct : Value} (a : PySem.W.nsIn K mainGlobals x = some (some (.ref f)))
    (l : K.lookup f = some ⟨oc, od, .func (PySem.W.fnOf x x (defArgs st) (defBody st) (defScope st) .none kV dc pm an cd ct), sl⟩) (c : PySem.W.codeIn K cd x = true) (k : PySem.W.keepIn K (.ref f) = true) : DefAt K x st :=
  ⟨f, _, a, fun_mk l c k⟩
/-- a constant of the module -/
structure Cst (K : PySem.W.Frag) (mg : Str → Option Value) (x : Str) (d : D) : Prop where
  ex : ∃ v u, mg x = some u ∧ RelV v u ∧ ∀ ρ H, RD K ρ H d v
theorem cst_int {K : PySem.W.Frag} {mg : Str → Option Value} {x : Str} {i : Int} {t : Tok} (h : mg x = some (.int i t)) : Cst K mg x (.int i) := ⟨.int i, _, h, ⟨t, rfl⟩, fun _ _ => by simp [RD]⟩
theorem cst_str {K : PySem.W.Frag} {mg : Str → Option Value} {x : Str} {i : Str} {t : Tok} (h : mg x = some (.str i t)) : Cst K mg x (.str i) := ⟨.str i, _, h, ⟨t, rfl⟩, fun _ _ => by simp [RD]⟩
/-- flat data as values -/
def relF : D → Value → Bool
  | .non, .none => true
  | .bl a, .bool b => a == b
  | .int a, .int b _ => a == b
  | .str a, .str b _ => a == b
  | _, _ => false
def relFs : List D → List Value → Bool
  | [], [] => true
  | d :: ds, u :: us => relF d u && relFs ds us
  | _, _ => false
def toV : D → V
  | .non => .non
  | .bl b => .bl b
  | .int i => .int i
  | .str x => .str x
  | _ => .non
theorem relF_ok {K : PySem.W.Frag} {ρ : List Addr} {H : Hp} {d : D} {u : Value} (h : relF d u = true) : RelV (toV d) u ∧ RD K ρ H d (toV d) := by
  cases d <;> cases u <;> first
    | (have h' : false = true := h; cases h')
    | skip
  case non.none => exact ⟨rfl, by simp [RD, toV]⟩
  case bl.bool a b => have : a = b := by simpa [relF] using h
                      subst this; exact ⟨rfl, by simp [RD, toV]⟩
  case int.int a b t => have : a = b := by simpa [relF] using h
                        subst this; exact ⟨⟨t, rfl⟩, by simp [RD, toV]⟩
  case str.str a b t => have : a = b := by simpa [relF] using h
                        subst this; exact ⟨⟨t, rfl⟩, by simp [RD, toV]⟩
theorem relFs_ok {K : PySem.W.Frag} {ρ : List Addr} {H : Hp} : ∀ {ds : List D} {us : List Value}, relFs ds us = true → Vals (ds.map toV) us ∧ RDs K ρ H ds (ds.map toV)
  | [], [], _ => ⟨.nil, RDs.nil⟩
  | [], _ :: _, h => by cases h
  | _ :: _, [], h => by cases h
  | d :: ds, u :: us, h => by
    have h' : (relF d u && relFs ds us) = true := h
    rw [Bool.and_eq_true] at h'
    obtain ⟨a1, a2⟩ := relF_ok (K := K) (ρ := ρ) (H := H) h'.1
    obtain ⟨b1, b2⟩ := relFs_ok (K := K) (ρ := ρ) (H := H) h'.2
    exact ⟨.cons a1 b1, RDs.cons a2 b2⟩
theorem cst_tup {K : PySem.W.Frag} {mg : Str → Option Value} {x : Str} {a : Addr} {ds : List D} {od : Option Addr} {its : Array Value} {n : Nat} {sl : Array (Option Value)} (h : mg x = some (.ref a)) (hk : K.lookup a = some ⟨.type "tuple", od, .seq its n, sl⟩)
    (hr : relFs ds its.toList = true) (hz : its.size ≤ sizeLine) : Cst K mg x (.tup ds) := by
  refine ⟨.ref a, _, h, rfl, fun ρ H => ?_⟩
  obtain ⟨h1, h2⟩ := relFs_ok (K := K) (ρ := ρ) (H := H) hr
  simp only [RD]
  exact ⟨a, _, rfl, .inr ⟨_, its, n, hk, rfl, rfl, hz, h1⟩, h2⟩
theorem se_cst {X : Cx} {EX : XX} {x : Str} {d : D} {pos : Pos} (C : Cst X.K X.mg x d) (hg : Gl X x) (hd : (x == ("__debug__" : Str)) = false := by decide) : SE X EX (.Name x pos) (fun _ => pure d) := by
  obtain ⟨v, u, h1, h2, h3⟩ := C.ex
  exact se_glob hg h1 h2 h3 hd
theorem passes0 {X : Cx} : PassesOwn (model X.nox.prog X.nox.w) X.nox.A X.nox.env X.nox.xe := PassesOwn.never
end FT
set_option Elab.async false
set_option linter.all false
set_option maxRecDepth 100000
/-! zip and enumerate of tuples, the signs of a text, as what a loop walks. -/
namespace FT
open PySem PySem.Spec PyProof.Rows L2

section
variable {prog : Program} {w : World} {A : Around} {E : Value → Shared → Prop} {s : Shared}

theorem nx_item {it t : Addr} {i : Nat} {items : Array Value} {x : Value} {Q : Value → Shared → Prop} (hit : s.heap.IsTupleIter it t i) (ht : s.heap.IsTuple t items) (hx : items[i]? = some x)
    (hQ : ∀ h', h'.IsTupleIter it t (i + 1) → Heap.SameBut it s.heap h' → Q x { s with heap := h' }) : wpAny (model prog w) A (Builtin.SmallTypes.nextOf (.ref it)) Q E s := by
  obtain ⟨oi, e1, c1, d1⟩ := id hit
  obtain ⟨ot, e2, _, nt, d2⟩ := ht
  unfold Builtin.SmallTypes.nextOf
  refine wpAny_bind (wpAny_callSpecial?_slot (name := Str.ofString "__next__") hit.typeIs PySem.F.slot_tuple_iterator_next
    (wpAny_call_entry PySem.F.slot_tuple_iterator_next hit.typeIs PySem.F.entry_tuple_iterator_next ?_ (PySem.F.args_tuple_iterator_next_1 _)))
  show wpAny _ _ (field (.ref it) 0 >>= _) _ _ s
  refine wpAny_bind (wpAny_field e1 d1 (x := .ref t) rfl ?_)
  show wpAny _ _ (if (Value.ref t == Value.none) = true then _ else _) _ _ s
  have nn : ¬ (Value.ref t == Value.none) = true := Bool.false_ne_true
  rw [if_neg nn]
  show wpAny _ _ (field (.ref it) 1 >>= _) _ _ s
  refine wpAny_bind (wpAny_field e1 d1 (x := .int i 0) rfl ?_)
  show wpAny _ _ (seqItems? (.ref t) >>= _) _ _ s
  refine wpAny_bind (wpAny_seqItems e2 d2 ?_)
  simp only [Int.toNat_natCast, hx]
  refine wpAny_bind (wpAny_setField e1 d1 (by simp) (wpAny_pure ⟨x, rfl, wpAny_pure (hQ _ ?_ (Heap.SameBut.update ..))⟩))
  exact ⟨_, Heap.get?_update_self _ e1 (Obj.isFreed_of_fields (Obj.data_mapFields d1 _)), (Obj.cls_mapFields ..).trans c1, by
    rw [Obj.data_mapFields d1]; simp [rawInt]⟩

theorem nx_end {it t : Addr} {i : Nat} {items : Array Value} {Q : Value → Shared → Prop} (hh : A.handled = none) (hit : s.heap.IsTupleIter it t i) (ht : s.heap.IsTuple t items) (hx : items[i]? = none)
    (hE : ∀ h' e, Heap.ExtBut it s.heap h' → (∃ o, h'.get? e = some o ∧ o.cls = .type "StopIteration") → E (.ref e) { s with heap := h' }) : wpAny (model prog w) A (Builtin.SmallTypes.nextOf (.ref it)) Q E s := by
  obtain ⟨oi, e1, c1, d1⟩ := id hit
  obtain ⟨ot, e2, _, nt, d2⟩ := ht
  unfold Builtin.SmallTypes.nextOf
  refine wpAny_bind (wpAny_callSpecial?_slot (name := Str.ofString "__next__") hit.typeIs PySem.F.slot_tuple_iterator_next
    (wpAny_call_entry PySem.F.slot_tuple_iterator_next hit.typeIs PySem.F.entry_tuple_iterator_next ?_ (PySem.F.args_tuple_iterator_next_1 _)))
  show wpAny _ _ (field (.ref it) 0 >>= _) _ _ s
  refine wpAny_bind (wpAny_field e1 d1 (x := .ref t) rfl ?_)
  show wpAny _ _ (if (Value.ref t == Value.none) = true then _ else _) _ _ s
  have nn : ¬ (Value.ref t == Value.none) = true := Bool.false_ne_true
  rw [if_neg nn]
  show wpAny _ _ (field (.ref it) 1 >>= _) _ _ s
  refine wpAny_bind (wpAny_field e1 d1 (x := .int i 0) rfl ?_)
  show wpAny _ _ (seqItems? (.ref t) >>= _) _ _ s
  refine wpAny_bind (wpAny_seqItems e2 d2 ?_)
  simp only [Int.toNat_natCast, hx]
  refine wpAny_bind (wpAny_rule (wpAny_bind (wpAny_setField e1 d1 (by simp) ?_)))
  show wpAny _ _ (newExc (.type "StopIteration") [] >>= _) _ _ _
  refine wpAny_bind ?_
  simp only [newExc, newTuple]
  refine wpAny_bind (wpAny_newObj_type ?_ (by size_fits))
  refine wpAny_bind (m := firstArgMember _ _) (wpAny_of_eq (a := Value.none) (by first | rfl | (simp only [firstArgMember]; rfl)) ?_)
  refine wpAny_newObj_type ?_ (by size_fits)
  simp only [raiseNew]
  refine wpAny_bind (wpAny_handled ?_)
  first | rw [show A.in1.handled = none from hh] | rw [hh]
  refine wpAny_bind (wpAny_pure (wpAny_throw ?_))
  exact hE _ _ (((Heap.SameBut.update ..).extBut.push _).push _) ⟨_, Heap.get?_push_size _ rfl, rfl⟩

/-- a zip of two tuples, behind i turns -/
structure ZS (h : Heap) (z TI TO i1 i2 t1 t2 : Addr) (i : Nat) (f0 : Value) : Prop where
  zip : IsZip h z TI TO f0
  ti : IsPair h TI (.ref i1) (.ref i2)
  to : ∃ a b, IsPair h TO a b
  n1 : h.IsTupleIter i1 t1 i
  n2 : h.IsTupleIter i2 t2 i
structure ZA (z TI TO i1 i2 : Addr) : Prop where
  a1 : TI ≠ z
  a2 : TO ≠ z
  a3 : i1 ≠ z
  a4 : i2 ≠ z
  a5 : TI ≠ TO
  a6 : TI ≠ i1
  a7 : TI ≠ i2
  a8 : TO ≠ i1
  a9 : TO ≠ i2
  a0 : i1 ≠ i2
structure ZO (z TO i1 i2 t : Addr) : Prop where
  o1 : t ≠ z
  o2 : t ≠ TO
  o3 : t ≠ i1
  o4 : t ≠ i2

theorem zs_item {z TI TO i1 i2 t1 t2 : Addr} {i : Nat} {xs ys : Array Value} {x y : Value} {Q : Value → Shared → Prop} (D : ZA z TI TO i1 i2) (O1 : ZO z TO i1 i2 t1) (O2 : ZO z TO i1 i2 t2)
    (Z : ZS s.heap z TI TO i1 i2 t1 t2 i .none) (hl1 : s.heap.IsTuple t1 xs) (hl2 : s.heap.IsTuple t2 ys) (hx : xs[i]? = some x) (hy : ys[i]? = some y)
    (hQ : ∀ h', ZS h' z TI TO i1 i2 t1 t2 (i + 1) (rawInt s.heap.objs.size) → IsPair h' s.heap.objs.size x y → h'.objs.size = s.heap.objs.size + 1 →
      (∀ c o, c ≠ z → c ≠ TO → c ≠ i1 → c ≠ i2 → s.heap.get? c = some o → h'.get? c = some o) → Q (.ref s.heap.objs.size) { s with heap := h' }) :
    wpAny (model prog w) A (Builtin.«zip.__next__» ⟨[.ref z], []⟩) (fun fin s' => ∃ v, fin = .done (.ret v) ∧ Q v s') E s := by
  obtain ⟨zz, zi, ⟨a, b, zo⟩, g1, g2⟩ := Z
  show wpAny _ _ (field (.ref z) 2 >>= _) _ _ _
  refine wpAny_bind (wpAny_field zz rfl (x := .bool false) rfl ?_)
  show wpAny _ _ (field (.ref z) 3 >>= _) _ _ _
  refine wpAny_bind (wpAny_field zz rfl (x := .ref TI) rfl ?_)
  refine wpAny_bind (wpAny_seqItems zi rfl ?_)
  show wpAny _ _ (Builtin.SmallTypes.ownedTupleIsFree (.ref z) >>= _) _ _ _
  refine wpAny_bind ?_
  unfold Builtin.SmallTypes.ownedTupleIsFree
  refine wpAny_bind (wpAny_field zz rfl (x := .none) rfl (wpAny_pure ?_))
  simp only [if_true]
  refine wpAny_bind (wpAny_rule ?_)
  refine wpAny_bind (wpAny_field zz rfl (x := .ref TO) rfl ?_)
  refine wpAny_bind (wpAny_setField_rec zz (by simp) fun k1 z1 s1 => ?_)
  replace z1 : IsZip k1 z TI TO .ellipsis := z1
  refine wpAny_bind ?_
  simp only [List.zipIdx_cons, List.zipIdx_nil, List.forIn_cons, List.forIn_nil]
  refine wpAny_bind (wpAny_bind (wpAny_onRaise ?_))
  show wpAny _ _ (Builtin.SmallTypes.nextOf (.ref i1) >>= _) _ _ _
  refine wpAny_bind (nx_item (g1.extBut s1.extBut D.a3) (hl1.extBut s1.extBut O1.o1) hx fun k2 g12 s2 => wpAny_pure ?_)
  have zo2 : IsPair k2 TO a b := s2.extBut _ _ D.a8 (s1.extBut _ _ D.a2 zo)
  refine wpAny_bind (wpAny_seqItems zo2 rfl ?_)
  refine wpAny_bind (wpAny_updateSeq_pair zo2 fun k3 zo3 s3 => ?_)
  replace zo3 : IsPair k3 TO x b := zo3
  refine wpAny_bind (wpAny_letGo (wpAny_pure ?_))
  refine wpAny_bind (wpAny_bind (wpAny_onRaise ?_))
  show wpAny _ _ (Builtin.SmallTypes.nextOf (.ref i2) >>= _) _ _ _
  refine wpAny_bind (nx_item (((g2.extBut s1.extBut D.a4).extBut s2.extBut D.a0.symm).extBut s3.extBut D.a9.symm)
    (((hl2.extBut s1.extBut O2.o1).extBut s2.extBut O2.o3).extBut s3.extBut O2.o2) hy fun k4 g24 s4 => wpAny_pure ?_)
  have zo4 : IsPair k4 TO x b := s4.extBut _ _ D.a9 zo3
  refine wpAny_bind (wpAny_seqItems zo4 rfl ?_)
  refine wpAny_bind (wpAny_updateSeq_pair zo4 fun k5 zo5 s5 => ?_)
  replace zo5 : IsPair k5 TO x y := zo5
  refine wpAny_bind (wpAny_letGo (wpAny_pure (wpAny_pure ?_)))
  refine wpAny_bind (wpAny_seqItems zo5 rfl ?_)
  refine wpAny_bind (wpAny_newTuple ?_)
  have sz : k5.objs.size = s.heap.objs.size := by rw [s5.1, s4.1, s3.1, s2.1, s1.1]
  have z5 : IsZip k5 z TI TO .ellipsis := s5.extBut _ _ D.a2.symm (s4.extBut _ _ D.a4.symm (s3.extBut _ _ D.a2.symm (s2.extBut _ _ D.a3.symm z1)))
  have kk : ∀ c o, c ≠ z → c ≠ TO → c ≠ i1 → c ≠ i2 → s.heap.get? c = some o → k5.get? c = some o := fun c o c1 c2 c3 c4 e =>
    s5.extBut _ _ c2 (s4.extBut _ _ c4 (s3.extBut _ _ c2 (s2.extBut _ _ c3 (s1.extBut _ _ c1 e))))
  have g15 : k5.IsTupleIter i1 t1 (i + 1) := ((g12.extBut s3.extBut D.a8.symm).extBut s4.extBut D.a0).extBut s5.extBut D.a8.symm
  have g25 : k5.IsTupleIter i2 t2 (i + 1) := g24.extBut s5.extBut D.a9.symm
  have zlt : z < k5.objs.size := Heap.lt_size z5
  show wpAny _ _ (Builtin.SmallTypes.ownedTupleHandOut (.ref z) (.ref k5.objs.size) >>= _) _ _ _
  refine wpAny_bind ?_
  unfold Builtin.SmallTypes.ownedTupleHandOut
  have z6 : IsZip (k5.push { cls := .type "tuple", data := .seq #[x, y] }) z TI TO .ellipsis := Heap.get?_push_of_some _ z5
  refine wpAny_bind (wpAny_setField_rec z6 (by simp) fun k7 z7 s7 => ?_)
  replace z7 : IsZip k7 z TI TO (rawInt k5.objs.size) := z7
  refine wpAny_setField_rec z7 (by simp) fun k8 z8 s8 => ?_
  replace z8 : IsZip k8 z TI TO (rawInt k5.objs.size) := z8
  have up : ∀ c o, c ≠ z → k5.get? c = some o → k8.get? c = some o := fun c o c1 e => s8.extBut _ _ c1 (s7.extBut _ _ c1 (Heap.get?_push_of_some _ e))
  have t8 : IsPair k8 k5.objs.size x y := s8.extBut _ _ (Nat.ne_of_gt zlt) (s7.extBut _ _ (Nat.ne_of_gt zlt) (Heap.get?_push_size _ rfl))
  have sz8 : k8.objs.size = k5.objs.size + 1 := by rw [s8.1, s7.1, Heap.size_push]
  rw [sz] at z8 t8 sz8
  refine wpAny_pure ⟨_, rfl, ?_⟩
  show Q (.ref k5.objs.size) _
  rw [sz]
  exact hQ k8 ⟨z8, up _ _ D.a1 (kk _ _ D.a1 D.a5 D.a6 D.a7 zi), ⟨_, _, up _ _ D.a2 zo5⟩, g15.at fun o e => up _ o D.a3 e, g25.at fun o e => up _ o D.a4 e⟩ t8 sz8 fun c o c1 c2 c3 c4 e => up c o c1 (kk c o c1 c2 c3 c4 e)

theorem zs_end {z TI TO i1 i2 t1 t2 : Addr} {i : Nat} {xs ys : Array Value} {Q : PySem.Fin → Shared → Prop} (hh : A.handled = none) (D : ZA z TI TO i1 i2) (O1 : ZO z TO i1 i2 t1) (O2 : ZO z TO i1 i2 t2)
    (Z : ZS s.heap z TI TO i1 i2 t1 t2 i .none) (hl1 : s.heap.IsTuple t1 xs) (hl2 : s.heap.IsTuple t2 ys) (hend : xs[i]? = none ∨ ys[i]? = none)
    (hE : ∀ h' e, (∀ c o, c ≠ z → c ≠ TO → c ≠ i1 → c ≠ i2 → s.heap.get? c = some o → h'.get? c = some o) → (∃ o, h'.get? e = some o ∧ o.cls = .type "StopIteration") → E (.ref e) { s with heap := h' }) :
    wpAny (model prog w) A (Builtin.«zip.__next__» ⟨[.ref z], []⟩) Q E s := by
  obtain ⟨zz, zi, ⟨a, b, zo⟩, g1, g2⟩ := Z
  show wpAny _ _ (field (.ref z) 2 >>= _) _ _ _
  refine wpAny_bind (wpAny_field zz rfl (x := .bool false) rfl ?_)
  show wpAny _ _ (field (.ref z) 3 >>= _) _ _ _
  refine wpAny_bind (wpAny_field zz rfl (x := .ref TI) rfl ?_)
  refine wpAny_bind (wpAny_seqItems zi rfl ?_)
  show wpAny _ _ (Builtin.SmallTypes.ownedTupleIsFree (.ref z) >>= _) _ _ _
  refine wpAny_bind ?_
  unfold Builtin.SmallTypes.ownedTupleIsFree
  refine wpAny_bind (wpAny_field zz rfl (x := .none) rfl (wpAny_pure ?_))
  simp only [if_true]
  refine wpAny_bind (wpAny_rule ?_)
  refine wpAny_bind (wpAny_field zz rfl (x := .ref TO) rfl ?_)
  refine wpAny_bind (wpAny_setField_rec zz (by simp) fun k1 z1 s1 => ?_)
  replace z1 : IsZip k1 z TI TO .ellipsis := z1
  refine wpAny_bind ?_
  simp only [List.zipIdx_cons, List.zipIdx_nil, List.forIn_cons, List.forIn_nil]
  refine wpAny_bind (wpAny_bind (wpAny_onRaise ?_))
  show wpAny _ _ (Builtin.SmallTypes.nextOf (.ref i1) >>= _) _ _ _
  cases hx : xs[i]? with
  | none =>
    refine wpAny_bind (nx_end hh (g1.extBut s1.extBut D.a3) (hl1.extBut s1.extBut O1.o1) hx fun k2 e s2 he => ?_)
    obtain ⟨oe, q1, q2⟩ := he
    have z2 : IsZip k2 z TI TO .ellipsis := s2 _ _ D.a3.symm z1
    have ez : e ≠ z := fun q => by subst q; rw [z2] at q1; cases q1; simp at q2
    exact wpAny_setField_rec z2 (by simp) fun k3 _ s3 => hE k3 e (fun c o c1 _ c3 _ q => s3.extBut _ _ c1 (s2 _ _ c3 (s1.extBut _ _ c1 q))) ⟨oe, s3.extBut _ _ ez q1, q2⟩
  | some x =>
    have hy : ys[i]? = none := by rcases hend with q | q; rw [hx] at q; cases q; exact q
    refine wpAny_bind (nx_item (g1.extBut s1.extBut D.a3) (hl1.extBut s1.extBut O1.o1) hx fun k2 g12 s2 => wpAny_pure ?_)
    have zo2 : IsPair k2 TO a b := s2.extBut _ _ D.a8 (s1.extBut _ _ D.a2 zo)
    refine wpAny_bind (wpAny_seqItems zo2 rfl ?_)
    refine wpAny_bind (wpAny_updateSeq_pair zo2 fun k3 zo3 s3 => ?_)
    refine wpAny_bind (wpAny_letGo (wpAny_pure ?_))
    refine wpAny_bind (wpAny_bind (wpAny_onRaise ?_))
    show wpAny _ _ (Builtin.SmallTypes.nextOf (.ref i2) >>= _) _ _ _
    refine wpAny_bind (nx_end hh (((g2.extBut s1.extBut D.a4).extBut s2.extBut D.a0.symm).extBut s3.extBut D.a9.symm)
      (((hl2.extBut s1.extBut O2.o1).extBut s2.extBut O2.o3).extBut s3.extBut O2.o2) hy fun k4 e s4 he => ?_)
    obtain ⟨oe, q1, q2⟩ := he
    have z4 : IsZip k4 z TI TO .ellipsis := s4 _ _ D.a4.symm (s3.extBut _ _ D.a2.symm (s2.extBut _ _ D.a3.symm z1))
    have ez : e ≠ z := fun q => by subst q; rw [z4] at q1; cases q1; simp at q2
    exact wpAny_setField_rec z4 (by simp) fun k5 _ s5 => hE k5 e (fun c o c1 c2 c3 c4 q => s5.extBut _ _ c1 (s4 _ _ c4 (s3.extBut _ _ c2 (s2.extBut _ _ c3 (s1.extBut _ _ c1 q))))) ⟨oe, s5.extBut _ _ ez q1, q2⟩

theorem zs_next {z TI TO i1 i2 t1 t2 : Addr} {i : Nat} {xs ys : Array Value} {x y : Value} {Q : Option Value → Shared → Prop} (D : ZA z TI TO i1 i2) (O1 : ZO z TO i1 i2 t1) (O2 : ZO z TO i1 i2 t2)
    (Z : ZS s.heap z TI TO i1 i2 t1 t2 i .none) (hl1 : s.heap.IsTuple t1 xs) (hl2 : s.heap.IsTuple t2 ys) (hx : xs[i]? = some x) (hy : ys[i]? = some y)
    (hQ : ∀ h', ZS h' z TI TO i1 i2 t1 t2 (i + 1) (rawInt s.heap.objs.size) → IsPair h' s.heap.objs.size x y → h'.objs.size = s.heap.objs.size + 1 →
      (∀ c o, c ≠ z → c ≠ TO → c ≠ i1 → c ≠ i2 → s.heap.get? c = some o → h'.get? c = some o) → Q (some (.ref s.heap.objs.size)) { s with heap := h' }) :
    wpAny (model prog w) A (pyNext (.ref z)) Q E s := by
  have hT : s.TypeIs (.ref z) "zip" := ⟨_, Z.zip, rfl⟩
  unfold pyNext
  exact wpAny_bind (wpAny_attempt (wpAny_callSpecial?_slot (name := Str.ofString "__next__") hT PySem.F.slot_zip_next
    (wpAny_call_entry PySem.F.slot_zip_next hT PySem.F.entry_zip_next (zs_item D O1 O2 Z hl1 hl2 hx hy fun h' q1 q2 q3 q4 => wpAny_pure (hQ h' q1 q2 q3 q4)) (PySem.F.args_zip_next_1 _))))
theorem zs_stop {z TI TO i1 i2 t1 t2 : Addr} {i : Nat} {xs ys : Array Value} {Q : Option Value → Shared → Prop} (hh : A.handled = none) (D : ZA z TI TO i1 i2) (O1 : ZO z TO i1 i2 t1) (O2 : ZO z TO i1 i2 t2)
    (Z : ZS s.heap z TI TO i1 i2 t1 t2 i .none) (hl1 : s.heap.IsTuple t1 xs) (hl2 : s.heap.IsTuple t2 ys) (hend : xs[i]? = none ∨ ys[i]? = none)
    (hQ : ∀ h', (∀ c o, c ≠ z → c ≠ TO → c ≠ i1 → c ≠ i2 → s.heap.get? c = some o → h'.get? c = some o) → Q none { s with heap := h' }) : wpAny (model prog w) A (pyNext (.ref z)) Q E s := by
  have hT : s.TypeIs (.ref z) "zip" := ⟨_, Z.zip, rfl⟩
  unfold pyNext
  refine wpAny_bind (wpAny_attempt (wpAny_callSpecial?_slot (name := Str.ofString "__next__") hT PySem.F.slot_zip_next
    (wpAny_call_entry PySem.F.slot_zip_next hT PySem.F.entry_zip_next (zs_end hh D O1 O2 Z hl1 hl2 hend fun h' e kk he => ?_) (PySem.F.args_zip_next_1 _))))
  obtain ⟨o, q1, q2⟩ := he
  refine wpAny_bind (wpAny_isInstance (T := "StopIteration") (b := true) ⟨o, q1, q2⟩ isSubtype_stop ?_)
  exact wpAny_pure (hQ _ kk)
theorem zs_self {z TI TO i1 i2 t1 t2 : Addr} {i : Nat} {f0 : Value} {Q : Value → Shared → Prop} (Z : ZS s.heap z TI TO i1 i2 t1 t2 i f0) (h : Q (.ref z) s) : wpAny (model prog w) A (pyIter (.ref z)) Q E s := wpAny_pyIter_zip Z.zip h
end

abbrev zp1 (h : Heap) (l1 : Addr) : Heap := h.push { cls := .type "tuple_iterator", data := .fields #[.ref l1, .int 0 0] }
abbrev zp2 (h : Heap) (l1 l2 : Addr) : Heap := (zp1 h l1).push { cls := .type "tuple_iterator", data := .fields #[.ref l2, .int 0 0] }
abbrev zp3 (h : Heap) (l1 l2 : Addr) : Heap := (zp2 h l1 l2).push { cls := .type "tuple", data := .seq #[.ref h.objs.size, .ref (zp1 h l1).objs.size] }
abbrev zp4 (h : Heap) (l1 l2 : Addr) : Heap := (zp3 h l1 l2).push { cls := .type "tuple", data := .seq #[.none, .none] }
abbrev zp5 (h : Heap) (l1 l2 : Addr) : Heap := (zp4 h l1 l2).push { cls := .type "zip", data := .fields #[.none, .bool false, .bool false, .ref (zp2 h l1 l2).objs.size, .ref (zp3 h l1 l2).objs.size] }
theorem zip_made (l1 l2 : Addr) (xs ys : Array Value) :
    Meets (Builtin.«zip.__new__» ⟨[.type "zip", .ref l1, .ref l2], []⟩) (fun _ R s => s.heap.IsTuple l1 xs ∧ s.heap.IsTuple l2 ys ∧ R (.ok (.ret (.ref (zp4 s.heap l1 l2).objs.size))) { s with heap := zp5 s.heap l1 l2 }) :=
  .of_wp fun prog w A R s h => by
    obtain ⟨hp, g, d, tk, os⟩ := s
    obtain ⟨q1, q2, h⟩ := h
    have hsub := sub_zip
    have L1 : Heap.IsTuple (Shared.heap ⟨hp, g, d, tk, os⟩) l1 xs := q1
    have L2 : Heap.IsTuple (Shared.heap ⟨hp.push { cls := .type "tuple_iterator", data := .fields #[.ref l1, .int 0 0] }, g, d, tk, os⟩) l2 ys := Heap.IsTuple.push q2 _
    wp_walk using wpAny_pyIter_tuple L1, wpAny_pyIter_tuple L2
    exact ⟨_, rfl, h⟩
theorem call_zip {prog : Program} {w : World} {A : Around} {E : Value → Shared → Prop} {s : Shared} {l1 l2 : Addr} {xs ys : Array Value} {Q : Value → Shared → Prop} (hl1 : s.heap.IsTuple l1 xs) (hl2 : s.heap.IsTuple l2 ys)
    (h : ∀ h', ZS h' (s.heap.objs.size + 4) (s.heap.objs.size + 2) (s.heap.objs.size + 3) s.heap.objs.size (s.heap.objs.size + 1) l1 l2 0 .none → h'.objs.size = s.heap.objs.size + 5 →
      (∀ c o, s.heap.get? c = some o → h'.get? c = some o) → Q (.ref (s.heap.objs.size + 4)) { s with heap := h' }) : wpAny (model prog w) A (call (.type "zip") [.ref l1, .ref l2]) Q E s := by
  refine callType_new PySem.F.called_zip (by decide) (PySem.F.typeCall_zip_2 _ _) (PySem.F.newCall_zip_2 _ _) (fun obj => PySem.F.args_object_init_3 obj _ _) PySem.F.entry_zip_new (zip_made l1 l2 xs ys) ⟨hl1, hl2, ?_⟩
  have y1 : (zp1 s.heap l1).objs.size = s.heap.objs.size + 1 := Heap.size_push ..
  have y2 : (zp2 s.heap l1 l2).objs.size = s.heap.objs.size + 2 := by rw [Heap.size_push, y1]
  have y3 : (zp3 s.heap l1 l2).objs.size = s.heap.objs.size + 3 := by rw [Heap.size_push, y2]
  have y4 : (zp4 s.heap l1 l2).objs.size = s.heap.objs.size + 4 := by rw [Heap.size_push, y3]
  have y5 : (zp5 s.heap l1 l2).objs.size = s.heap.objs.size + 5 := by rw [Heap.size_push, y4]
  have x5 : (zp5 s.heap l1 l2).get? (zp4 s.heap l1 l2).objs.size = some _ := Heap.get?_push_size _ rfl
  have x4 : (zp5 s.heap l1 l2).get? (zp3 s.heap l1 l2).objs.size = some _ := Heap.get?_push_of_some _ (Heap.get?_push_size _ rfl)
  have x3 : (zp5 s.heap l1 l2).get? (zp2 s.heap l1 l2).objs.size = some _ := Heap.get?_push_of_some _ (Heap.get?_push_of_some _ (Heap.get?_push_size _ rfl))
  have x2 : (zp5 s.heap l1 l2).get? (zp1 s.heap l1).objs.size = some _ := Heap.get?_push_of_some _ (Heap.get?_push_of_some _ (Heap.get?_push_of_some _ (Heap.get?_push_size _ rfl)))
  have x1 : (zp5 s.heap l1 l2).get? s.heap.objs.size = some _ := Heap.get?_push_of_some _ (Heap.get?_push_of_some _ (Heap.get?_push_of_some _ (Heap.get?_push_of_some _ (Heap.get?_push_size _ rfl))))
  show _ ∧ _
  rw [y2, y3, y4] at x5
  rw [y1, y2] at x3
  rw [y3] at x4
  rw [y1] at x2
  rw [y4]
  exact ⟨⟨_, x5, rfl⟩, h _ ⟨x5, x3, ⟨_, _, x4⟩, ⟨_, x1, rfl, rfl⟩, ⟨_, x2, rfl, rfl⟩⟩ y5 fun c o q =>
    Heap.get?_push_of_some _ (Heap.get?_push_of_some _ (Heap.get?_push_of_some _ (Heap.get?_push_of_some _ (Heap.get?_push_of_some _ q))))⟩
end FT
set_option Elab.async false
set_option linter.all false
set_option maxRecDepth 100000
namespace FT
open PySem PySem.Spec PyProof.Rows L2

/-- a tuple has been made while the records at ch turned -/
theorem madeT {X : Cx} {pins : List (Addr × Obj)} {σ : L2.St} {H : Hp} {s : Shared} {ch : List Addr} {T : Addr} {vs : List V} {its : List Value} {h2 : Heap} {t : Nat} (I : L2.Inv X pins σ H s)
    (hf : ∀ b ∈ ch, FpOk X pins H b) (kp : ∀ b o, b ∉ ch → s.heap.get? b = some o → h2.get? b = some o) (hT : s.heap.objs.size ≤ T) (tup : IsTup h2 T its.toArray) (rv : Vals vs its) (hz : vs.length ≤ sizeLine) :
    L2.Inv X pins σ (upd H T (.tup vs)) { s with heap := h2, toks := t } := by
  have hn : H T = none := I.hok.fresh hT
  have ne : ∀ {b : Addr} {o : Obj}, s.heap.get? b = some o → b ≠ T := fun e => Nat.ne_of_lt (Nat.lt_of_lt_of_le (Heap.lt_size e) hT)
  refine I.step (g' := s.gens) (d' := s.drawn) (ch := ch) (fun b hb => ⟨(hf b hb).2.2.2.1, (hf b hb).2.1, (hf b hb).2.2.2.2.1, (hf b hb).2.2.2.2.2⟩) (fun b o _ _ hc e _ => kp b o hc e) (fun b o _ _ hc e _ => ⟨o.slots, kp b o hc e⟩)
    (fun b o _ e n => by rw [upd_ne (ne e)]; exact n) (fun b o hc e => ⟨o, kp b o hc e⟩) (fun b xs e => by rw [upd_ne (ne_of_none e hn)]; exact e) (fun b o u e => by rw [upd_ne (ne_of_none e hn)]; exact e)
    (fun b ps e => ⟨#[], by rw [upd_ne (ne_of_none e hn), e]; simp⟩) (fun m hm => ?_) (fun b u e => ?_) I.bare
  · obtain ⟨o, es, ep, q, r⟩ := hm
    exact ⟨o, es, ep, kp _ o (fun z => (hf _ z).2.1 rfl) q, r⟩
  · by_cases hb : b = T
    · subst hb
      rw [upd_same] at e
      cases e
      exact ⟨hz, its, rv, tup⟩
    · rw [upd_ne hb] at e
      refine (I.hok b u e).stay (fun c v hc q => kp c v (fun z => ?_) q) (fun c q => ?_) fun c xs q => ?_
      · rcases hc with y | y
        · rw [y] at z; rw [(hf b z).1] at e; cases e
        · rw [(hf c z).1] at y; cases y
      · rw [upd_ne (ne_of_none q hn)]; exact q
      · rw [upd_ne (ne_of_none q hn)]; exact q

/-! ### zip of two tuples -/
def Itz (K : PySem.W.Frag) (t1 t2 : Addr) : It :=
  ⟨fun i H => ∃ xs ys x y, SqT K H t1 xs ∧ SqT K H t2 ys ∧ xs[i]? = some x ∧ ys[i]? = some y,
   fun i H v H' => ∃ T x y, H T = none ∧ v = .ref T ∧ (∀ xs, SqT K H t1 xs → xs[i]? = some x) ∧ (∀ ys, SqT K H t2 ys → ys[i]? = some y) ∧ H' = upd H T (.tup [x, y]),
   fun i H => ∃ xs ys, SqT K H t1 xs ∧ SqT K H t2 ys ∧ (xs.length ≤ i ∨ ys.length ≤ i)⟩
theorem turn_zip {P : Program} {w : World} {K : PySem.W.Frag} {elts : List Expr} {kk : Nat} {pos : Pos} {z TI TO i1 i2 t1 t2 : Addr} (D : ZA z TI TO i1 i2) (O1 : ZO z TO i1 i2 t1) (O2 : ZO z TO i1 i2 t2) :
    Turn P w K (.Tuple elts kk pos) (Itz K t1 t2) [z, TI, TO, i1, i2] z (fun i h => ZS h z TI TO i1 i2 t1 t2 i .none) where
  mem := by simp
  obj := fun i h st b hb => by
    obtain ⟨zz, zi, ⟨a, b', zo⟩, g1, g2⟩ := st
    obtain ⟨o1, e1, _, d1⟩ := g1
    obtain ⟨o2, e2, _, d2⟩ := g2
    simp at hb
    rcases hb with rfl | rfl | rfl | rfl | rfl
    · exact ⟨_, zz, fun v q => by cases q⟩
    · exact ⟨_, zi, fun v q => by cases q⟩
    · exact ⟨_, zo, fun v q => by cases q⟩
    · exact ⟨_, e1, fun v q => by rw [d1] at q; cases q⟩
    · exact ⟨_, e2, fun v q => by rw [d2] at q; cases q⟩
  keep := fun i h h' st k => by
    obtain ⟨zz, zi, ⟨a, b', zo⟩, g1, g2⟩ := st
    exact ⟨k z (by simp) _ zz, k TI (by simp) _ zi, ⟨a, b', k TO (by simp) _ zo⟩, g1.at fun o e => k i1 (by simp) o e, g2.at fun o e => k i2 (by simp) o e⟩
  item := by
    intro X hP hw hK hc i pins s σ H E I hf st hg
    subst hP hw hK
    obtain ⟨xs, ys, x, y, q1, q2, hx, hy⟩ := hg
    obtain ⟨its1, rv1, p1, z1⟩ := I.tuple q1
    obtain ⟨its2, rv2, p2, z2⟩ := I.tuple q2
    obtain ⟨u1, hu1, ru1⟩ := rv1.get hx
    obtain ⟨u2, hu2, ru2⟩ := rv2.get hy
    refine zs_next D O1 O2 st (show s.heap.IsTuple t1 its1.toArray from p1) (show s.heap.IsTuple t2 its2.toArray from p2) (x := u1) (y := u2) (by simpa using hu1) (by simpa using hu2) fun h' Z' pr sz kp => ?_
    refine ⟨_, rfl, wpAny_letOwnedTupleGo_zip Z'.zip fun h2 zz2 sb => ?_⟩
    have nT : ∀ b ∈ [z, TI, TO, i1, i2], H b = none := fun b hb => (hf b hb).1
    have zlt : z < s.heap.objs.size := Heap.lt_size st.zip
    have lt5 : ∀ b ∈ [z, TI, TO, i1, i2], b < s.heap.objs.size := fun b hb => by
      obtain ⟨zz, zi, ⟨a, b', zo⟩, g1, g2⟩ := st
      obtain ⟨o1, e1, _, d1⟩ := g1
      obtain ⟨o2, e2, _, d2⟩ := g2
      simp at hb
      rcases hb with rfl | rfl | rfl | rfl | rfl
      · exact Heap.lt_size zz
      · exact Heap.lt_size zi
      · exact Heap.lt_size zo
      · exact Heap.lt_size e1
      · exact Heap.lt_size e2
    have hT : IsTup h2 s.heap.objs.size [u1, u2].toArray := ⟨_, (sb.2 _ (Nat.ne_of_gt zlt)).trans pr, rfl, _, rfl⟩
    have J := madeT (t := s.toks) (ch := [z, TO, i1, i2]) (T := s.heap.objs.size) (vs := [x, y]) (its := [u1, u2]) (h2 := h2) I (fun b hb => hf b (by simp at hb ⊢; rcases hb with q | q | q | q <;> simp [q]))
      (fun b o hb e => by simp at hb; exact (sb.2 b hb.1).trans (kp b o hb.1 hb.2.1 hb.2.2.1 hb.2.2.2 e)) (Nat.le_refl _) hT (.cons ru1 (.cons ru2 .nil)) (by show 2 ≤ sizeLine; decide)
    refine ⟨.ref s.heap.objs.size, _, J, rfl, ⟨_, x, y, I.hok.fresh (Nat.le_refl _), rfl, fun xs' h' => by rw [I.tuple_inj h' q1]; exact hx, fun ys' h' => by rw [I.tuple_inj h' q2]; exact hy, rfl⟩, ?_, fun b hb => ?_⟩
    · obtain ⟨zz, zi, ⟨a, b', zo⟩, g1, g2⟩ := Z'
      exact ⟨zz2, (sb.2 _ D.a1).trans zi, ⟨a, b', (sb.2 _ D.a2).trans zo⟩, g1.at fun o e => (sb.2 _ D.a3).trans e, g2.at fun o e => (sb.2 _ D.a4).trans e⟩
    · rw [upd_ne (Nat.ne_of_lt (lt5 b hb))]; exact nT b hb
  done := by
    intro X hP hw hK hc i pins s σ H E I hf st hg
    subst hP hw hK
    obtain ⟨xs, ys, q1, q2, hl⟩ := hg
    obtain ⟨its1, rv1, p1, z1⟩ := I.tuple q1
    obtain ⟨its2, rv2, p2, z2⟩ := I.tuple q2
    have l1 := rv1.length
    have l2 := rv2.length
    refine zs_stop (I.ok.hd hc) D O1 O2 st (show s.heap.IsTuple t1 its1.toArray from p1) (show s.heap.IsTuple t2 its2.toArray from p2) ?_ fun h' kp => ⟨rfl, ?_⟩
    · rcases hl with q | q
      · exact .inl (by simp; omega)
      · exact .inr (by simp; omega)
    · have hf' : ∀ b ∈ [z, TO, i1, i2], FpOk X pins H b := fun b hb => hf b (by simp at hb ⊢; rcases hb with q | q | q | q <;> simp [q])
      refine I.step (g' := s.gens) (t' := s.toks) (d' := s.drawn) (ch := [z, TO, i1, i2]) (fun b hb => ⟨(hf' b hb).2.2.2.1, (hf' b hb).2.1, (hf' b hb).2.2.2.2.1, (hf' b hb).2.2.2.2.2⟩) (fun b o _ _ hc e _ => ?_) (fun b o _ _ hc e _ => ⟨o.slots, ?_⟩)
        (fun _ _ _ _ n => n) (fun b o hc e => ⟨o, ?_⟩) (fun _ _ e => e) (fun _ _ _ e => e) (fun b ps e => ⟨#[], by rw [e]; simp⟩) (fun m hm => ?_) (fun b u e => ?_) I.bare
      · simp at hc; exact kp b o hc.1 hc.2.1 hc.2.2.1 hc.2.2.2 e
      · simp at hc; exact kp b o hc.1 hc.2.1 hc.2.2.1 hc.2.2.2 e
      · simp at hc; exact kp b o hc.1 hc.2.1 hc.2.2.1 hc.2.2.2 e
      · obtain ⟨o, es, ep, q, r⟩ := hm
        exact ⟨o, es, ep, kp _ o (fun y => (hf' z (by simp)).2.1 y.symm) (fun y => (hf' TO (by simp)).2.1 y.symm) (fun y => (hf' i1 (by simp)).2.1 y.symm) (fun y => (hf' i2 (by simp)).2.1 y.symm) q, r⟩
      · refine (I.hok b u e).stay (fun c v hc q => ?_) (fun _ q => q) fun _ _ q => q
        have tr : ∀ d ∈ [z, TO, i1, i2], c ≠ d := fun d hd y => by
          subst y
          rcases hc with y | y
          · rw [← y, (hf' c hd).1] at e; cases e
          · rw [(hf' c hd).1] at y; cases y
        exact kp c v (tr z (by simp)) (tr TO (by simp)) (tr i1 (by simp)) (tr i2 (by simp)) q
  self := fun _ _ _ _ _ st h => zs_self st h

section
variable {X : Cx} {EX : XX} {a b : Expr} {elts : List Expr} {kk : Nat} {p pos pt : Pos} {ma mb : G → M D}
theorem za_new (n : Nat) : ZA (n + 4) (n + 2) (n + 3) n (n + 1) := by
  constructor <;> (intro h; have h' : (_ : Nat) = (_ : Nat) := h; omega)
theorem zo_new (n t : Nat) (h : t < n) : ZO (n + 4) (n + 3) n (n + 1) t := by
  constructor <;> (intro h; have h' : (_ : Nat) = (_ : Nat) := h; omega)
def iZipT (K : PySem.W.Frag) (ta : TA) : TI := fun σ H R => ta σ H fun vs H2 => ∃ t1 t2 xs ys, vs = [.ref t1, .ref t2] ∧ SqT K H2 t1 xs ∧ SqT K H2 t2 ys ∧ R (Itz K t1 t2) H2
theorem pi_zip {ta : TA} (hg : Gl X "zip") (hm : X.mg "zip" = none) (ha : PA X [a, b] ta)
    (hs : starEach [a, b] X.env = [(false, eval a X.env), (false, eval b X.env)] := by rfl) (hs2 : starEach [b] X.env = [(false, eval b X.env)] := by rfl) : PI X (.Tuple elts kk pt) (.Call (.Name "zip" p) [a, b] [] pos) (iZipT X.K ta) := by
  intro pins s σ H R I h
  refine Call_ (ld_blt I hg hm boot_zip (PyProof.Rows.callWith_type1 (thn (ha pos pins s σ H _ I h) fun us s1 ⟨vs, H1, I1, r1, q1⟩ => ?_) (by rw [hs, hs2]) (by rw [hs2]; rfl)))
  obtain ⟨t1, t2, xs, ys, e, q2, q3, q⟩ := q1
  subst e
  cases r1 with
  | cons r rr =>
    cases rr with
    | cons r' rr =>
      cases rr
      cases r
      cases r'
      obtain ⟨its1, rv1, p1, z1⟩ := I1.tuple q2
      obtain ⟨its2, rv2, p2, z2⟩ := I1.tuple q3
      refine call_zip (show s1.heap.IsTuple t1 its1.toArray from p1) (show s1.heap.IsTuple t2 its2.toArray from p2) fun h' Z sz kp => ?_
      refine zs_self (s := { s1 with heap := h' }) Z ?_
      have lt1 : t1 < s1.heap.objs.size := by obtain ⟨o, e, _⟩ := p1; exact Heap.lt_size e
      have lt2 : t2 < s1.heap.objs.size := by obtain ⟨o, e, _⟩ := p2; exact Heap.lt_size e
      refine ⟨s1.heap.objs.size + 4, _, _, _, H1, rfl, I1.kept (t' := s1.toks) kp, turn_zip (za_new _) (t1 := t1) (t2 := t2) (zo_new _ _ lt1) (zo_new _ _ lt2), Z, fun b hb => ?_, q⟩
      have hb' : s1.heap.objs.size ≤ b := by
        simp at hb
        rcases hb with rfl | rfl | rfl | rfl | rfl
        · exact Nat.le_add_right _ _
        · exact Nat.le_add_right _ _
        · exact Nat.le_add_right _ _
        · exact Nat.le_refl _
        · exact Nat.le_add_right _ _
      exact I1.fpOk hb' (I1.hok.fresh hb')
def zipD (xs ys : List D) : List D := List.zipWith (fun a b => .tup [a, b]) xs ys
def iZip (ma mb : G → M D) : G → M Src := fun γ => do
  let l ← aCons ma (aCons mb aNil) γ
  match l with
  | [.tup xs, .tup ys] => pure (.con (zipD xs ys))
  | _ => bad
theorem zip_at {xs ys : List D} {i : Nat} {d : D} (h : (zipD xs ys)[i]? = some d) : ∃ x y, xs[i]? = some x ∧ ys[i]? = some y ∧ d = .tup [x, y] := by
  unfold zipD at h
  rw [List.getElem?_zipWith] at h
  cases e1 : xs[i]? with
  | none => rw [e1] at h; cases h
  | some x =>
    cases e2 : ys[i]? with
    | none => rw [e1, e2] at h; cases h
    | some y => rw [e1, e2] at h; cases h; exact ⟨x, y, rfl, rfl, rfl⟩
theorem si_zip (hc : X.calm = true) (hg : Gl X "zip") (hm : X.mg "zip" = none) (ha : SE X EX a ma) (hb : SE X EX b mb)
    (hs : starEach [a, b] X.env = [(false, eval a X.env), (false, eval b X.env)] := by rfl) (hs2 : starEach [b] X.env = [(false, eval b X.env)] := by rfl) : SI X EX (.Tuple elts kk pt) (.Call (.Name "zip" p) [a, b] [] pos) (iZip ma mb) :=
  ⟨PI.imp (pi_zip hg hm (sa_cons ha (sa_cons hb sa_nil hs2) (by rw [hs, hs2])).h hs hs2) fun σ H R ⟨ρ, γ, h, rel, fin⟩ => ⟨ρ, γ, h, rel, (Fin.bind fin).mono fun l ρ1 h1 H1 p1 e1 r1 f1 vs rv => by
    split at f1
    · rename_i xs ys
      simp only [RDs, RD] at rv
      obtain ⟨_, _, rfl, ⟨t1, us, rfl, q1, d1⟩, _, _, rfl, ⟨t2, ws, rfl, q2, d2⟩, rfl⟩ := rv
      refine ⟨t1, t2, us, ws, rfl, q1, q2, f1 ρ1 H1 (Pre.refl _) (Ext.refl _ _) r1 _ fun i ρ2 h4 H2 p2 e2 r2 _ => ⟨fun d hd => ?_, fun hi => ?_⟩⟩
      · have hd' : (zipD xs ys)[i]? = some d := hd
        obtain ⟨x, y, g1, g2, rfl⟩ := zip_at hd'
        obtain ⟨v1, a1, b1⟩ := (d1.mono p2 e2).get g1
        obtain ⟨v2, a2, b2⟩ := (d2.mono p2 e2).get g2
        refine ⟨⟨us, ws, v1, v2, e2.t _ _ q1, e2.t _ _ q2, a1, a2⟩, fun v H3 ⟨T, x', y', n1, n2, n3, n4, n5⟩ => ?_⟩
        have m1 := n3 us (e2.t _ _ q1)
        have m2 := n4 ws (e2.t _ _ q2)
        rw [a1] at m1; cases m1
        rw [a2] at m2; cases m2
        subst n2; subst n5
        have ext : Ext X.K H2 (L2.upd H2 T (.tup [v1, v2])) := Ext.upd (.inl n1)
        refine ⟨?_, r2.other n1, ext⟩
        simp only [RD]
        exact ⟨T, _, rfl, SqT.of upd_same, RDs.cons (b1.mono (Pre.refl _) ext) (RDs.cons (b2.mono (Pre.refl _) ext) RDs.nil)⟩
      · have hi' : (zipD xs ys).length = i := hi
        unfold zipD at hi'
        rw [List.length_zipWith] at hi'
        have l1 := d1.length
        have l2 := d2.length
        exact ⟨us, ws, e2.t _ _ q1, e2.t _ _ q2, by omega⟩
    · exact (show False from f1).elim⟩⟩
end
end FT
set_option Elab.async false
set_option linter.all false
set_option maxRecDepth 100000
namespace FT
open PySem PySem.Spec PyProof.Rows L2

/-! ### the signs of a text -/
def Its (x : Str) : It := ⟨fun i _ => i < x.cps.size, fun i H v H' => H' = H ∧ ∃ c, x.cps[i]? = some c ∧ v = .str ⟨#[c]⟩, fun i _ => x.cps.size = i⟩
theorem turn_str {P : Program} {w : World} {K : PySem.W.Frag} {tg : Expr} {it : Addr} {x : Str} {t : Tok} {T : String}
    (W : ∀ A : Around, A.handled = none → Walks P w A it [it] [it] x.cps.size (SignAt x) (fun i h => h.IsStrIter it T x t i))
    (hself : ∀ (A : Around) (i : Nat) (s : Shared) (Q : Value → Shared → Prop) (E : Value → Shared → Prop), s.heap.IsStrIter it T x t i → Q (.ref it) s → wpAny (model P w) A (pyIter (.ref it)) Q E s) : Turn P w K tg (Its x) [it] it (fun i h => h.IsStrIter it T x t i) where
  mem := by simp
  obj := fun i h st b hb => by
    have e : b = it := by simpa using hb
    subst e
    obtain ⟨o, e1, c1, d1⟩ := st
    exact ⟨o, e1, fun v z => by rw [d1] at z; cases z⟩
  keep := fun i h h' st k => let ⟨o, e1, r⟩ := st; ⟨o, k it (by simp) o e1, r⟩
  item := by
    intro X hP hw hK hc i pins s σ H E I hf st hg
    subst hP hw hK
    obtain ⟨f0, f1, f2, f3, f4, f5⟩ := hf it (by simp)
    refine (W X.A (I.ok.hd hc)).item i s _ _ hg st fun v h' tk hv st' kp => ?_
    obtain ⟨c, u, q1, rfl⟩ := hv
    have I1 : L2.Inv X pins σ H { s with heap := h', toks := tk } := I.turned (fun b o hb e => kp b o (by simpa using hb) e) f0 f1 f3 f4 f5
    refine ⟨_, rfl, ?_⟩
    have go : letOwnedTupleGo tg (.ref it) (Value.str ⟨#[c]⟩ u) = pure () := by cases tg <;> rfl
    rw [go]
    exact wpAny_pure ⟨.str ⟨#[c]⟩, H, I1, ⟨_, rfl⟩, ⟨rfl, c, q1, rfl⟩, st', fun b hb => (hf b hb).1⟩
  done := by
    intro X hP hw hK hc i pins s σ H E I hf st hg
    subst hP hw hK
    obtain ⟨f0, f1, f2, f3, f4, f5⟩ := hf it (by simp)
    have hg' : x.cps.size = i := hg
    subst hg'
    exact (W X.A (I.ok.hd hc)).done s _ _ st fun h' tk kp => ⟨rfl, I.turned (fun b o hb e => kp b o (by simpa using hb) e) f0 f1 f3 f4 f5⟩
  self := hself
section
variable {X : Cx} {EX : XX} {a b : Expr} {tg : Expr} {p pos p2 : Pos} {ma mb : G → M D}
def iStrT (ta : TE) : TI := fun σ H R => ta σ H fun v H1 => ∃ x, v = .str x ∧ R (Its x) H1
theorem pi_str {ta : TE} (ha : PE X a ta) : PI X tg a (iStrT ta) := by
  intro pins s σ H R I h
  refine thn (ha pins s σ H _ I h) fun v s1 ⟨y, H1, I1, r1, q1⟩ => ?_
  obtain ⟨x, rfl, q⟩ := q1
  obtain ⟨t, rfl⟩ := r1
  have fo : ∀ b ∈ [s1.heap.objs.size], FpOk X pins H1 b := fun b hb => by
    have e : b = s1.heap.objs.size := by simpa using hb
    subst e
    exact I1.fpOk (Nat.le_refl _) (I1.hok.fresh (Nat.le_refl _))
  cases ha' : x.cps.all (· < 128)
  · refine wpAny_pyIter_wide ha' ?_
    exact ⟨s1.heap.objs.size, [s1.heap.objs.size], _, _, H1, rfl, I1.kept (t' := s1.toks) fun b o e => Heap.get?_push_of_some _ e, turn_str (fun A hA => Walks.strWide hA _ x t) (fun A i s Q E st h => wpAny_pyIter_striter_wide st h), ⟨_, Heap.get?_push_size _ rfl, rfl, rfl⟩, fo, q⟩
  · refine wpAny_pyIter_ascii ha' ?_
    exact ⟨s1.heap.objs.size, [s1.heap.objs.size], _, _, H1, rfl, I1.kept (t' := s1.toks) fun b o e => Heap.get?_push_of_some _ e, turn_str (fun A hA => Walks.strAscii hA _ x t) (fun A i s Q E st h => wpAny_pyIter_striter_ascii st h), ⟨_, Heap.get?_push_size _ rfl, rfl, rfl⟩, fo, q⟩
def signsD (x : Str) : List D := x.cps.toList.map fun c => .str ⟨#[c]⟩
def iStr (ma : G → M D) : G → M Src := fun γ => do
  let x ← ma γ
  match x with
  | .str z => pure (.con (signsD z))
  | _ => bad
theorem si_str (hc : X.calm = true) (ha : SE X EX a ma) : SI X EX tg a (iStr ma) :=
  ⟨PI.imp (pi_str ha.h) fun σ H R ⟨ρ, γ, h, rel, fin⟩ => ⟨ρ, γ, h, rel, (Fin.bind fin).mono fun x ρ1 h1 H1 p1 e1 r1 f1 v rv => by
    cases x <;> first | exact (show False from f1).elim | skip
    rename_i z
    simp only [RD] at rv
    subst rv
    refine ⟨z, rfl, f1 ρ1 H1 (Pre.refl _) (Ext.refl _ _) r1 _ fun i ρ2 h4 H2 p2 e2 r2 _ => ⟨fun d hd => ?_, fun hi => ?_⟩⟩
    · have hd' : (signsD z)[i]? = some d := hd
      unfold signsD at hd'
      rw [List.getElem?_map] at hd'
      cases e : z.cps.toList[i]? with
      | none => rw [e] at hd'; cases hd'
      | some c =>
        rw [e] at hd'
        cases hd'
        have e' : z.cps[i]? = some c := by simpa using e
        refine ⟨?_, fun y H3 ⟨z1, c', z2, z3⟩ => ?_⟩
        · have := (List.getElem?_eq_some_iff.mp e).1
          exact (show i < z.cps.size by simpa using this)
        · subst z1
          rw [e'] at z2; cases z2
          subst z3
          exact ⟨by simp [RD], r2, Ext.refl _ _⟩
    · have hi' : (signsD z).length = i := hi
      unfold signsD at hi'
      rw [List.length_map] at hi'
      exact (show z.cps.size = i by simpa using hi')⟩⟩
/-! ### slices of tuples and lists -/
theorem tup_whole {A : Around} {E : Value → Shared → Prop} {s : Shared} {t sl : Addr} {items : Array Value} {vl vu : Value} {lo hi : Option Int} {Q : Value → Shared → Prop} (ht : IsTup s.heap t items) (hs : s.heap.IsSliceOf sl vl vu .none) (pl : IsPart vl lo) (pu : IsPart vu hi)
    (hw : HT.sIx items.size 0 lo = 0 ∧ HT.sIx items.size items.size hi = items.size) (h : Q (.ref t) s) : wpAny (model X.prog X.w) A (getItem (.ref t) (.ref sl)) Q E s := by
  obtain ⟨os, hos, hcs, hds⟩ := id hs
  have hTs : s.TypeIs (.ref sl) "slice" := ⟨os, hos, hcs⟩
  unfold getItem
  try with_reducible refine wpAny_holding ?_
  first | refine wpAny_bind (wpAny_pure ?_) | skip
  refine wpAny_bind (wpAny_sequenceKey ht.typeIs (by decide) ?_)
  refine wpAny_bind (wpAny_callSpecial?_slot (name := Str.ofString "__getitem__") ht.typeIs PyProof.Rows.slot_tuple_getitem
    (wpAny_call_entry PyProof.Rows.slot_tuple_getitem ht.typeIs entry_tuple_getitem ?_ (args_tuple_getitem _ _)))
  show wpAny _ _ (Builtin.Tuple.tupleItemsOf (.ref t) >>= _) _ _ s
  refine wpAny_bind (tupleItemsOf_ ht ?_)
  refine wpAny_bind (wpAny_typeOf hTs ?_)
  rw [if_pos (by decide)]
  refine wpAny_bind (HT.sliceApplied_gen hs pl pu ?_)
  have yes : ((((HT.sIx items.size 0 lo : Nat) : Int) == 0 && (1 : Int) == 1 && (HT.sIx items.size items.size hi - HT.sIx items.size 0 lo) == items.size) = true) := by
    rw [hw.1, hw.2]; simp
  show wpAny _ _ (if (((HT.sIx items.size 0 lo : Nat) : Int) == 0 && (1 : Int) == 1 && (HT.sIx items.size items.size hi - HT.sIx items.size 0 lo) == items.size) = true then _ else _) _ _ s
  rw [if_pos yes]
  refine wpAny_bind (m := Builtin.Tuple.tupleIsExact (.ref t)) ?_
  unfold Builtin.Tuple.tupleIsExact
  refine wpAny_bind (wpAny_typeOf ht.typeIs (wpAny_pure ?_))
  rw [if_pos (by decide)]
  exact wpAny_bind (wpAny_rule (wpAny_pure ⟨_, rfl, wpAny_pure h⟩))
def rSlW (K : PySem.W.Frag) : V → Option Int → Option Int → Hp → VK → Prop := fun x lo hi H Q => ∃ a xs, x = .ref a ∧ SqT K H a xs ∧ (HT.sIx xs.length 0 lo = 0 ∧ HT.sIx xs.length xs.length hi = xs.length) ∧ Q (.ref a) H
theorem sl_whole : SlR X (rSlW X.K) := by
  intro pins s σ H x v vl vu lo hi sl Q I rx hs pl pu h
  obtain ⟨a, xs, rfl, hx, hw, q⟩ := h
  cases rx
  obtain ⟨its, r, ht, hz⟩ := I.tuple hx
  have hlen : its.toArray.size = xs.length := by rw [List.size_toArray]; exact r.length.symm
  exact ⟨"tuple", _, PyProof.Rows.slot_tuple_getitem.lookup, ht.typeIs, tup_whole ht hs pl pu (by rw [hlen]; exact hw) ⟨.ref a, H, I, rfl, q⟩⟩
def cutD (xs : List D) (lo hi : Option Int) : List D := (xs.drop (HT.sIx xs.length 0 lo)).take (HT.sIx xs.length xs.length hi - HT.sIx xs.length 0 lo)
theorem cut_rel {K : PySem.W.Frag} {ρ : List Addr} {H : Hp} {ds : List D} {xs : List V} (h : RDs K ρ H ds xs) (lo hi : Option Int) : RDs K ρ H (cutD ds lo hi) (cutV xs lo hi) := by
  unfold cutD cutV
  rw [h.length]
  exact (h.drop _).take _
def fSl : D → Option Int → Option Int → M D
  | .tup xs, lo, hi => pure (.tup (cutD xs lo hi))
  | .fl xs, lo, hi => newL (cutD xs lo hi)
  | .ref n, lo, hi => do
    let xs ← getL n
    newL (cutD xs lo hi)
  | _, _, _ => bad
def tO (K : PySem.W.Frag) (EX : XX) (m : G → M (Option Int)) : TO := fun σ H Q => ∃ ρ γ h, Rel K ρ γ h σ H ∧ Fin K EX ρ H (fun o _ _ H' => Q o H') (m γ h)
structure SO (X : Cx) (EX : XX) (e : Option Expr) (m : G → M (Option Int)) : Prop where
  h : PO X e (tO X.K EX m)
theorem PO.imp {X : Cx} {e : Option Expr} {t t' : TO} (h : PO X e t) (f : ∀ σ H Q, t' σ H Q → t σ H Q) : PO X e t' := fun pins s σ H Q I z => h pins s σ H Q I (f σ H Q z)
def oNone : G → M (Option Int) := fun _ => pure none
def oSome (ma : G → M D) : G → M (Option Int) := fun γ => do
  let x ← ma γ
  match x with
  | .int i => pure (some i)
  | _ => bad
theorem so_none : SO X EX none oNone := ⟨PO.imp po_none fun σ H Q ⟨ρ, γ, h, rel, fin⟩ => fin ρ H (Pre.refl _) (Ext.refl _ _) rel.h⟩
theorem so_some (ha : SE X EX a ma) : SO X EX (some a) (oSome ma) := ⟨PO.imp (po_some ha.h) fun σ H Q ⟨ρ, γ, h, rel, fin⟩ => ⟨ρ, γ, h, rel, (Fin.bind fin).mono fun x ρ1 h1 H1 p1 e1 r1 f1 v rv => by
  cases x <;> first | exact (show False from f1).elim | skip
  rename_i i
  simp only [RD] at rv
  exact ⟨i, rv, f1 ρ1 H1 (Pre.refl _) (Ext.refl _ _) r1⟩⟩⟩
def eSlice (ma : G → M D) (ml mh : G → M (Option Int)) : G → M D := fun γ => do
  let x ← ma γ
  let lo ← ml γ
  let hi ← mh γ
  fSl x lo hi
theorem sl_rel {ρ : List Addr} {h : AH} {H : Hp} {x : D} {v : V} {lo hi : Option Int} {Q : VK} (r : RH X.K ρ h H) (rx : RD X.K ρ H x v) (fin : FE X.K EX ρ H Q (fSl x lo hi h)) : rSlL X.K v lo hi H Q ∨ rSlT X.K v lo hi H Q ∨ rSlW X.K v lo hi H Q := by
  cases x <;> first | exact (show False from fin).elim | skip
  case tup xs =>
    have rx' := rx
    simp only [RD] at rx
    obtain ⟨q, vs, rfl, h1, h2⟩ := rx
    have fin' : FE X.K EX ρ H Q (.ok (.tup (cutD xs lo hi)) h) := fin
    by_cases hw : HT.sIx vs.length 0 lo = 0 ∧ HT.sIx vs.length vs.length hi = vs.length
    · refine .inr (.inr ⟨q, vs, rfl, h1, hw, FE.here fin' r ?_⟩)
      have e : cutD xs lo hi = xs := by
        unfold cutD
        rw [h2.length, hw.1, hw.2, List.drop_zero, Nat.sub_zero, ← h2.length, List.take_length]
      rw [e]; exact rx'
    · exact .inr (.inl ⟨q, vs, rfl, h1, hw, fun p hp => FE.tup fin' r (cut_rel h2 lo hi) hp⟩)
  case fl xs =>
    simp only [RD] at rx
    obtain ⟨q, vs, rfl, h1, h2⟩ := rx
    have fin' : FE X.K EX ρ H Q (newL (cutD xs lo hi) h) := fin
    unfold newL at fin'
    split at fin'
    · exact .inl ⟨q, vs, rfl, h1.sq, fun p hp => FE.lst fin' r (cut_rel h2 lo hi) hp⟩
    · exact fin'.elim
  case ref n =>
    simp only [RD] at rx
    obtain ⟨q, rfl, h1⟩ := rx
    have fin' : FE X.K EX ρ H Q ((getL n >>= fun xs => newL (cutD xs lo hi)) h) := fin
    have f1 := Fin.bind fin'
    cases e : getL n h with
    | bad => rw [e] at f1; exact f1.elim
    | err z hz => exact (getL_no e).elim
    | ok xs h2 =>
      obtain ⟨rfl, q1⟩ := getL_ok e
      rw [e] at f1
      have f2 := f1 ρ H (Pre.refl _) (Ext.refl _ _) r
      dsimp only at f2
      unfold newL at f2
      split at f2
      · obtain ⟨a1, n1, vs, o1, d1⟩ := r.at q1
        rw [h1] at n1; cases n1
        exact .inl ⟨q, vs, rfl, SqL.of o1, fun p hp => FE.lst f2 r (cut_rel d1 lo hi) hp⟩
      · exact f2.elim
theorem se_slice {lo hi : Option Expr} {ml mh : G → M (Option Int)} (ha : SE X EX a ma) (hl : SO X EX lo ml) (hh : SO X EX hi mh) : SE X EX (.Subscript a (.Slice lo hi none p2) pos) (eSlice ma ml mh) :=
  ⟨PE.imp (pe_slice (sl_list.or (sl_tup.or sl_whole)) ha.h hl.h hh.h) fun σ H Q ⟨ρ, γ, h, rel, fin⟩ => ⟨ρ, γ, h, rel, (Fin.bind fin).mono fun x ρ1 h1 H1 p1 e1 r1 f1 v rv => ⟨ρ1, γ, h1, ⟨rel.g.mono p1 e1, r1⟩, (Fin.bind f1).mono fun l ρ2 h2 H2 p2 e2 r2 f2 =>
    ⟨ρ2, γ, h2, ⟨(rel.g.mono p1 e1).mono p2 e2, r2⟩, (Fin.bind f2).mono fun u ρ3 h3 H3 p3 e3 r3 f3 => sl_rel r3 ((rv.mono p2 e2).mono p3 e3) f3⟩⟩⟩⟩
end
end FT
set_option Elab.async false
set_option linter.all false
set_option maxRecDepth 100000
namespace FT
open PySem PySem.Spec PyProof.Rows L2

/-! ### sorted of texts, of ints -/
def leS (a b : Str) : Bool := !decide (b.cps.toList < a.cps.toList)
theorem leS_trans {a b c : Str} (h1 : leS a b = true) (h2 : leS b c = true) : leS a c = true := by
  simp only [leS, Bool.not_eq_true', decide_eq_false_iff_not] at *
  exact List.not_lt.mpr (List.le_trans (List.not_lt.mp h1) (List.not_lt.mp h2))
theorem leS_total (a b : Str) : (leS a b || leS b a) = true := by
  simp only [leS, Bool.or_eq_true, Bool.not_eq_true', decide_eq_false_iff_not]
  rcases List.le_total a.cps.toList b.cps.toList with h | h
  · exact .inl (List.not_lt.mpr h)
  · exact .inr (List.not_lt.mpr h)
theorem str_ext {a b : Str} (h : a.cps.toList = b.cps.toList) : a = b := by
  cases a; cases b
  congr 1
  exact Array.toList_inj.mp h
theorem leS_anti {a b : Str} (h1 : leS a b = true) (h2 : leS b a = true) : a = b := by
  simp only [leS, Bool.not_eq_true', decide_eq_false_iff_not] at *
  exact str_ext (List.le_antisymm (List.not_lt.mp h1) (List.not_lt.mp h2))
def sortS (l : List Str) : List Str := l.mergeSort leS
theorem sortS_perm (l : List Str) : (sortS l).Perm l := List.mergeSort_perm l leS
theorem sortS_pw (l : List Str) : (sortS l).Pairwise (fun a b => leS a b = true) := List.pairwise_mergeSort (le := leS) (fun a b c h1 h2 => leS_trans h1 h2) leS_total l
theorem rising_pw : ∀ (p : Str) (l : List Str), risingS p l = true → (p :: l).Pairwise (fun a b => leS a b = true)
  | p, [], _ => by simp
  | p, x :: r, h => by
    have h' : (!ltCps x.cps.toList p.cps.toList && risingS x r) = true := h
    rw [Bool.and_eq_true, ltCps_eq] at h'
    have ih := rising_pw x r h'.2
    have px : leS p x = true := h'.1
    refine List.pairwise_cons.mpr ⟨fun y hy => ?_, ih⟩
    rcases List.mem_cons.mp hy with rfl | hy
    · exact px
    · exact leS_trans px ((List.pairwise_cons.mp ih).1 y hy)
theorem sortS_eq {l l' : List Str} (p : l'.Perm l) (h : sortedS l' = true) : l' = sortS l := by
  have pw : l'.Pairwise (fun a b => leS a b = true) := by
    cases l' with
    | nil => exact .nil
    | cons x r => exact rising_pw x r h
  exact List.Perm.eq_of_pairwise (fun a b _ _ => leS_anti) pw (sortS_pw l) (p.trans (sortS_perm l).symm)
def leI (a b : Int) : Bool := decide (a ≤ b)
def sortI (l : List Int) : List Int := l.mergeSort leI
theorem sortI_perm (l : List Int) : (sortI l).Perm l := List.mergeSort_perm l leI
theorem sortI_pw (l : List Int) : (sortI l).Pairwise (fun a b => a ≤ b) := by
  have := List.pairwise_mergeSort (le := leI) (fun a b c h1 h2 => by simp only [leI, decide_eq_true_eq] at *; omega) (fun a b => by simp only [leI, Bool.or_eq_true, decide_eq_true_eq]; omega) l
  exact this.imp fun h => by simpa [leI] using h
theorem sortI_eq {l l' : List Int} (p : l'.Perm l) (h : l'.Pairwise (· ≤ ·)) : l' = sortI l :=
  List.Perm.eq_of_pairwise (fun a b _ _ h1 h2 => Int.le_antisymm h1 h2) h (sortI_pw l) (p.trans (sortI_perm l).symm)
def strsD : List D → Option (List Str)
  | [] => some []
  | .str b :: r => (strsD r).map (b :: ·)
  | _ :: _ => none
def numsD : List D → Option (List Int)
  | [] => some []
  | .int b :: r => (numsD r).map (b :: ·)
  | _ :: _ => none
def fSorted : List D → M D
  | [.ref n] => do
    let xs ← getL n
    if xs.length < 64 then (match strsD xs with
      | some ss => newL ((sortS ss).map .str)
      | none => (match numsD xs with
        | some ns => newL ((sortI ns).map .int)
        | none => bad)) else bad
  | _ => bad
theorem strs_rel {K : PySem.W.Frag} {ρ : List Addr} {H : Hp} : ∀ {xs : List D} {bs : List Str} {vs : List V}, strsD xs = some bs → RDs K ρ H xs vs → vs = bs.map V.str
  | [], bs, vs, e, r => by simp only [RDs] at r; cases e; subst r; rfl
  | x :: xs, bs, vs, e, r => by
    simp only [RDs] at r
    obtain ⟨v, r2, rfl, h1, h2⟩ := r
    cases x <;> first | (simp only [strsD] at e; cases e; done) | skip
    rename_i b
    simp only [strsD] at e
    obtain ⟨bs', e1, rfl⟩ := Option.map_eq_some_iff.mp e
    simp only [RD] at h1
    subst h1
    rw [strs_rel e1 h2]; rfl
theorem nums_rel {K : PySem.W.Frag} {ρ : List Addr} {H : Hp} : ∀ {xs : List D} {bs : List Int} {vs : List V}, numsD xs = some bs → RDs K ρ H xs vs → vs = bs.map V.int
  | [], bs, vs, e, r => by simp only [RDs] at r; cases e; subst r; rfl
  | x :: xs, bs, vs, e, r => by
    simp only [RDs] at r
    obtain ⟨v, r2, rfl, h1, h2⟩ := r
    cases x <;> first | (simp only [numsD] at e; cases e; done) | skip
    rename_i b
    simp only [numsD] at e
    obtain ⟨bs', e1, rfl⟩ := Option.map_eq_some_iff.mp e
    simp only [RD] at h1
    subst h1
    rw [nums_rel e1 h2]; rfl
theorem strs_are : ∀ {bs : List Str} {us : List Value}, Vals (bs.map V.str) us → StrsAre us bs
  | [], us, h => by cases h; exact .nil
  | b :: bs, us, h => by
    cases h with
    | cons h1 h2 => obtain ⟨t, rfl⟩ := h1; exact .cons b t (strs_are h2)
theorem are_strs : ∀ {us : List Value} {bs : List Str}, StrsAre us bs → Vals (bs.map V.str) us
  | _, _, .nil => .nil
  | _, _, .cons y t r => .cons ⟨t, rfl⟩ (are_strs r)
theorem are_ints : ∀ {us : List Value} {bs : List Int}, IntsAre us bs → Vals (bs.map V.int) us := fun h => vals_ints h
section
variable {X : Cx} {EX : XX} {a : Expr} {p pos : Pos} {mr : G → M (List D)}
theorem call_sorted : CallR X (.builtin "sorted") (fun xs H Q => ∃ l ys, xs = [.ref l] ∧ SqL X.K H l ys ∧ ys.length < 64 ∧
    ((∃ ss, ys = ss.map V.str ∧ ∀ q, H q = none → Q (.ref q) (upd H q (.lst ((sortS ss).map V.str)))) ∨ (∃ ns, ys = ns.map V.int ∧ ∀ q, H q = none → Q (.ref q) (upd H q (.lst ((sortI ns).map V.int)))))) := by
  intro pins s σ H xs us Q I r h
  obtain ⟨l, ys, rfl, hq, h64, h⟩ := h
  obtain ⟨u, rfl, ru⟩ := vals1 r
  cases ru
  obtain ⟨its, rv, pl, hz⟩ := I.list hq
  have hl := rv.length
  have fin : ∀ (out : Array Value) (zs : List V), Vals zs out.toList → zs.length = ys.length → (∀ q, H q = none → Q (.ref q) (upd H q (.lst zs))) → EP X pins σ Q (.ref (s.heap.objs.size + 1)) { s with heap := sortedAll s.heap its out } := fun out zs h1 h2 h3 => by
    obtain ⟨e, he⟩ := sortedAll_at s.heap its out
    refine ⟨.ref (s.heap.objs.size + 1), _, I.laid (t' := s.toks) (o := .lst zs) (fun b o q => sortedAll_old q) (Nat.le_succ _) ⟨by omega, out.toList, e, h1, ?_⟩, rfl, h3 _ (I.hok.fresh (Nat.le_succ _))⟩
    rw [he]
  rcases h with ⟨ss, rfl, h⟩ | ⟨ns, rfl, h⟩
  · refine sorted_strs pl.isList (strs_are rv) (by omega) fun out ss' h1 h2 h3 => ?_
    have e := sortS_eq h2 h3
    subst e
    exact fin out _ (are_strs h1) (by rw [List.length_map, List.length_map, h2.length_eq]) h
  · have hi : IntsAre its ns := L2.intsAre_of rv
    refine sorted_ints pl.isList hi (by omega) fun out ns' h1 h2 h3 => ?_
    have e := sortI_eq h2 h3
    subst e
    exact fin out _ (are_ints h1) (by rw [List.length_map, List.length_map, h2.length_eq]) h
theorem rds_strs {K : PySem.W.Frag} {ρ : List Addr} {H : Hp} : ∀ (l : List Str), RDs K ρ H (l.map .str) (l.map V.str)
  | [] => RDs.nil
  | x :: r => RDs.cons (by simp [RD]) (rds_strs r)
theorem rds_ints {K : PySem.W.Frag} {ρ : List Addr} {H : Hp} : ∀ (l : List Int), RDs K ρ H (l.map .int) (l.map V.int)
  | [] => RDs.nil
  | x :: r => RDs.cons (by simp [RD]) (rds_ints r)
theorem ar_sorted : AR X.K EX (fun xs H Q => ∃ l ys, xs = [.ref l] ∧ SqL X.K H l ys ∧ ys.length < 64 ∧
    ((∃ ss, ys = ss.map V.str ∧ ∀ q, H q = none → Q (.ref q) (upd H q (.lst ((sortS ss).map V.str)))) ∨ (∃ ns, ys = ns.map V.int ∧ ∀ q, H q = none → Q (.ref q) (upd H q (.lst ((sortI ns).map V.int)))))) fSorted := by
  intro ρ h H ds vs Q r rd fin
  unfold fSorted at fin
  split at fin
  · rename_i n
    obtain ⟨v, rfl, rv⟩ := rds1 rd
    have f1 := Fin.bind fin
    cases e : getL n h with
    | bad => rw [e] at f1; exact f1.elim
    | err z hz => exact (getL_no e).elim
    | ok xs h1 =>
      obtain ⟨rfl, q1⟩ := getL_ok e
      rw [e] at f1
      have f2 := f1 ρ H (Pre.refl _) (Ext.refl _ _) r
      dsimp only at f2
      simp only [RD] at rv; obtain ⟨q, rfl, h2⟩ := rv
      obtain ⟨a1, n1, ws, o1, d1⟩ := r.at q1
      rw [h2] at n1; cases n1
      by_cases hl : xs.length < 64
      · rw [if_pos hl] at f2
        refine ⟨q, ws, rfl, SqL.of o1, by rw [← d1.length]; exact hl, ?_⟩
        cases eb : strsD xs with
        | some ss =>
          rw [eb] at f2
          have f3 : FE X.K EX ρ H Q (newL ((sortS ss).map .str) h1) := f2
          unfold newL at f3
          split at f3
          · exact .inl ⟨ss, strs_rel eb d1, fun p hp => FE.lst f3 r (rds_strs _) hp⟩
          · exact f3.elim
        | none =>
          rw [eb] at f2
          cases en : numsD xs with
          | some ns =>
            rw [en] at f2
            have f3 : FE X.K EX ρ H Q (newL ((sortI ns).map .int) h1) := f2
            unfold newL at f3
            split at f3
            · exact .inr ⟨ns, nums_rel en d1, fun p hp => FE.lst f3 r (rds_ints _) hp⟩
            · exact f3.elim
          | none => rw [en] at f2; exact (show False from f2).elim
      · rw [if_neg hl] at f2; exact (show False from f2).elim
  · exact fin.elim
theorem se_sorted (hc : X.calm = true) (hg : Gl X "sorted") (hm : X.mg "sorted" = none) (ha : SA X EX [a] mr) (he : starEach [a] X.env = [(false, eval a X.env)] := by rfl) : SE X EX (.Call (.Name "sorted" p) [a] [] pos) (eCall fSorted mr) :=
  se_args (pe_callB call_sorted hg hm boot_sorted ha.h (by decide) (by decide) he rfl) ar_sorted
end
end FT
set_option Elab.async false
set_option linter.all false
set_option maxRecDepth 100000
set_option maxHeartbeats 2000000
/-! Code that changes nothing that was there. -/
namespace FT
open PySem PySem.Spec PyProof.Rows L2

@[simp] theorem bindM {α β : Type} (m : M α) (f : α → M β) (h : AH) : (m >>= f) h = match m h with
  | .ok a h1 => f a h1
  | .err x h1 => .err x h1
  | .bad => .bad := rfl
@[simp] theorem pureM {α : Type} (a : α) (h : AH) : (Pure.pure a : M α) h = .ok a h := rfl
@[simp] theorem badM {α : Type} (h : AH) : (bad : M α) h = .bad := rfl
@[simp] theorem iteM {α : Type} {c : Prop} [Decidable c] (a b : M α) (h : AH) : (if c then a else b) h = if c then a h else b h := by split <;> rfl

def Pu {α : Type} (m : M α) (a : α) : Prop := ∀ h, ∃ j, m h = .ok a (h ++ j)
theorem Pu.pure {α : Type} (a : α) : Pu (Pure.pure a : M α) a := fun h => ⟨[], by simp⟩
theorem Pu.bind {α β : Type} {m : M α} {f : α → M β} {a : α} {b : β} (h1 : Pu m a) (h2 : Pu (f a) b) : Pu (m >>= f) b := fun h => by
  obtain ⟨j, e⟩ := h1 h
  obtain ⟨j', e'⟩ := h2 (h ++ j)
  exact ⟨j ++ j', by rw [M.bind_ok e, e', List.append_assoc]⟩
theorem Pu.of {α : Type} {m : M α} {a : α} (h : ∀ x, m x = .ok a x) : Pu m a := fun x => ⟨[], by rw [h]; simp⟩
theorem Pu.ite {α : Type} {c : Bool} {m n : M α} {a : α} (h1 : c = true → Pu m a) (h2 : c = false → Pu n a) : Pu (if c = true then m else n) a := by
  cases c with
  | true => exact h1 rfl
  | false => exact h2 rfl
theorem pu_var {γ : G} {i : Nat} {d : D} (h : γ[i]? = some (some d)) : Pu (eVar i γ) d := Pu.of fun x => by unfold eVar; rw [h]; rfl
theorem pu_args0 (γ : G) : Pu (aNil γ) [] := Pu.pure _
theorem pu_args {γ : G} {ma : G → M D} {mr : G → M (List D)} {d : D} {ds : List D} (h1 : Pu (ma γ) d) (h2 : Pu (mr γ) ds) : Pu (aCons ma mr γ) (d :: ds) := h1.bind (h2.bind (Pu.pure _))
theorem pu_two {γ : G} {ma mb : G → M D} {f : D → D → M D} {a b c : D} (h1 : Pu (ma γ) a) (h2 : Pu (mb γ) b) (h3 : Pu (f a b) c) : Pu (e2 f ma mb γ) c := h1.bind (h2.bind h3)
theorem pu_call {γ : G} {mr : G → M (List D)} {f : List D → M D} {ds : List D} {d : D} (h1 : Pu (mr γ) ds) (h2 : Pu (f ds) d) : Pu (eCall f mr γ) d := h1.bind h2
theorem pu_fn {γ : G} {n : Nat} {mr : G → M (List D)} {f : List D → M D} {ds : List D} {d : D} (h1 : Pu (mr γ) ds) (hn : ds.length = n) (h2 : Pu (f ds) d) : Pu (eFn n f mr γ) d := h1.bind (by rw [if_pos hn]; exact h2)
theorem pu_and {γ : G} {ma mb : G → M D} {b c : Bool} (h1 : Pu (ma γ) (.bl b)) (h2 : b = true → Pu (mb γ) (.bl c)) : Pu (eAnd ma mb γ) (.bl (b && c)) := h1.bind (Pu.bind (Pu.pure b) (Pu.ite (fun e => by subst e; exact h2 rfl) (fun e => by subst e; exact Pu.pure _)))
theorem pu_or {γ : G} {ma mb : G → M D} {b c : Bool} (h1 : Pu (ma γ) (.bl b)) (h2 : b = false → Pu (mb γ) (.bl c)) : Pu (eOr ma mb γ) (.bl (b || c)) := h1.bind (Pu.bind (Pu.pure b) (Pu.ite (fun e => by subst e; exact Pu.pure _) (fun e => by subst e; exact h2 rfl)))
theorem pu_not {γ : G} {ma : G → M D} {b : Bool} (h1 : Pu (ma γ) (.bl b)) : Pu (eNot ma γ) (.bl (!b)) := h1.bind (Pu.bind (Pu.pure b) (Pu.pure _))
theorem pu_cval {γ : G} {ma : G → M D} {b : Bool} (h1 : Pu (ma γ) (.bl b)) : Pu (cVal ma γ) b := h1.bind (Pu.pure _)
theorem pu_cnot {γ : G} {k : G → M Bool} {b : Bool} (h1 : Pu (k γ) b) : Pu (cNot k γ) (!b) := h1.bind (Pu.pure _)
theorem pu_cand {γ : G} {k l : G → M Bool} {b c : Bool} (h1 : Pu (k γ) b) (h2 : b = true → Pu (l γ) c) : Pu (cAnd k l γ) (b && c) := h1.bind (Pu.ite (fun e => by subst e; exact h2 rfl) (fun e => by subst e; exact Pu.pure _))
theorem pu_cor {γ : G} {k l : G → M Bool} {b c : Bool} (h1 : Pu (k γ) b) (h2 : b = false → Pu (l γ) c) : Pu (cOr k l γ) (b || c) := h1.bind (Pu.ite (fun e => by subst e; exact Pu.pure _) (fun e => by subst e; exact h2 rfl))
theorem pu_asB {m : M D} {b : Bool} (h : Pu m (.bl b)) : Pu (m >>= fun d => asB d) b := h.bind (Pu.pure _)
/-- blocks -/
theorem pu_ret {γ : G} {ma : G → M D} {d : D} {mt : G → M Out} (h : Pu (ma γ) d) : Pu (bCons (sRet ma) mt γ) (.rt d) := Pu.bind (h.bind (Pu.pure _)) (Pu.pure _)
theorem pu_if {γ : G} {k : G → M Bool} {ms mt mr : G → M Out} {b : Bool} {o : Out} (h : Pu (k γ) b) (h1 : b = true → Pu (bCons ms mr γ) o) (h2 : b = false → Pu (bCons mt mr γ) o) : Pu (bCons (sIf k ms mt) mr γ) o := by
  have q : bCons (sIf k ms mt) mr γ = (k γ >>= fun t => (if t = true then bCons ms mr γ else bCons mt mr γ)) := by
    funext x
    simp only [bCons, sIf, bindM]
    cases k γ x with
    | ok t h1 => cases t <;> simp
    | err e h1 => rfl
    | bad => rfl
  rw [q]
  exact h.bind (Pu.ite h1 h2)
theorem pu_nilnext {γ : G} {mr : G → M Out} {o : Out} (h : Pu (mr γ) o) : Pu (bCons bNil mr γ) o := fun x => h x
theorem pu_rets {γ : G} {ms mr : G → M Out} {d : D} (h : Pu (ms γ) (.rt d)) : Pu (bCons ms mr γ) (.rt d) := Pu.bind h (Pu.pure _)
theorem pu_set {γ γ' : G} {ma : G → M D} {g : D → G → M G} {mr : G → M Out} {d : D} {o : Out} (h : Pu (ma γ) d) (h1 : Pu (g d γ) γ') (h2 : Pu (mr γ') o) : Pu (bCons (sAsg ma g) mr γ) o := Pu.bind (h.bind (h1.bind (Pu.pure _))) h2
theorem pu_run {n : Nat} {mb : G → M Out} {ds : List D} {d : D} (h : Pu (mb (startG n ds)) (.rt d)) : Pu (runF n mb ds) d := h.bind (Pu.pure _)

/-! ### comprehensions -/
theorem compR_pu {g : D → G → M G} {k : G → M Bool} {me : G → M D} {γ : G} {p : D → Bool} {f : D → D} (xs : List D) : ∀ (items : List D) (h0 : AH) (acc : List D) (j : AH), acc.length + items.length ≤ 1000000 →
    (∀ d ∈ items, ∃ γ1, (∀ h, g d γ h = .ok γ1 h) ∧ Pu (k γ1) (p d) ∧ (p d = true → Pu (me γ1) (f d))) →
    ∃ j', compR (.con xs) g k me h0.length γ items (h0 ++ .lst acc :: j) = .ok () (h0 ++ .lst (acc ++ (items.filter p).map f) :: j')
  | [], h0, acc, j, hl, hd => ⟨j, by unfold compR Src.chk Src.good; simp⟩
  | d :: r, h0, acc, j, hl, hd => by
    obtain ⟨γ1, e1, e2, e3⟩ := hd d List.mem_cons_self
    obtain ⟨j1, q1⟩ := e2 (h0 ++ .lst acc :: j)
    unfold compR
    have chk : (Src.con xs).chk (h0 ++ .lst acc :: j) = .ok () (h0 ++ .lst acc :: j) := by unfold Src.chk Src.good; simp
    rw [M.bind_ok chk, M.bind_ok (e1 _), M.bind_ok q1]
    simp only [List.length_cons] at hl
    have hr : ∀ d ∈ r, ∃ γ1, (∀ h, g d γ h = .ok γ1 h) ∧ Pu (k γ1) (p d) ∧ (p d = true → Pu (me γ1) (f d)) := fun x hx => hd x (List.mem_cons_of_mem _ hx)
    cases hp : p d with
    | false =>
      rw [if_neg (by decide)]
      obtain ⟨j', q⟩ := compR_pu xs r h0 acc (j ++ j1) (by omega) hr
      refine ⟨j', ?_⟩
      rw [List.append_assoc, List.cons_append, q, List.filter_cons, hp]
      rfl
    | true =>
      rw [if_pos rfl]
      obtain ⟨j2, q2⟩ := e3 hp ((h0 ++ .lst acc :: j) ++ j1)
      rw [M.bind_ok q2]
      have ap : fAppend h0.length (f d) ((h0 ++ .lst acc :: j) ++ j1 ++ j2) = .ok .non (h0 ++ .lst (acc ++ [f d]) :: (j ++ j1 ++ j2)) := by
        unfold fAppend updL
        have g1 : ((h0 ++ .lst acc :: j) ++ j1 ++ j2)[h0.length]? = some (.lst acc) := by simp
        rw [g1]
        dsimp only
        have hs : (acc ++ [f d]).length ≤ sizeLine := by
          rw [List.length_append, List.length_singleton]
          exact Nat.le_trans (show acc.length + 1 ≤ 1000000 by omega) (by decide)
        rw [if_pos hs]
        simp
      rw [M.bind_ok ap]
      obtain ⟨j', q⟩ := compR_pu xs r h0 (acc ++ [f d]) (j ++ j1 ++ j2) (by simp; omega) hr
      refine ⟨j', ?_⟩
      rw [q, List.filter_cons, hp]
      simp
theorem comp_pu {cap : List (Option Nat)} {mi : G → M Src} {g : D → G → M G} {k : G → M Bool} {me : G → M D} {γ : G} {items : List D} (p : D → Bool) (f : D → D) (hi : Pu (mi γ) (.con items)) (hl : items.length ≤ 1000000)
    (hd : ∀ d ∈ items, ∃ γ1, (∀ h, g d (capG cap γ) h = .ok γ1 h) ∧ Pu (k γ1) (p d) ∧ (p d = true → Pu (me γ1) (f d))) (h : AH) :
    ∃ i j1 j2, i = h.length + j1.length ∧ eComp cap mi g k me γ h = .ok (.ref i) (h ++ j1 ++ .lst ((items.filter p).map f) :: j2) := by
  obtain ⟨j1, e1⟩ := hi h
  obtain ⟨j', e⟩ := compR_pu (g := g) (k := k) (me := me) (γ := capG cap γ) (p := p) (f := f) items items (h ++ j1) [] [] (by simpa using hl) hd
  refine ⟨(h ++ j1).length, j1, j', by simp, ?_⟩
  show (mi γ >>= _) h = _
  rw [M.bind_ok e1]
  rw [M.bind_ok (m := (fun h => Res.ok (List.length h) (h ++ [O.lst []]) : M Nat)) (h := h ++ j1) rfl]
  have e' : compR (.con items) g k me (h ++ j1).length (capG cap γ) (Src.con items).items (h ++ j1 ++ [.lst []]) = .ok () (h ++ j1 ++ .lst (((items.filter p).map f)) :: j') := by simpa [Src.items] using e
  rw [M.bind_ok e']
  rfl
theorem all_pu {cap : List (Option Nat)} {mi : G → M Src} {g : D → G → M G} {me : G → M D} {γ : G} {items : List D} (f : D → Bool) (hi : Pu (mi γ) (.con items)) (hl : items.length ≤ 1000000)
    (hd : ∀ d ∈ items, ∃ γ1, (∀ h, g d (capG cap γ) h = .ok γ1 h) ∧ Pu (me γ1) (.bl (f d))) : Pu (eCall (fAll false) (aCons (eComp cap mi g (fun _ => Pure.pure true) me) aNil) γ) (.bl (items.all f)) := fun h => by
  obtain ⟨i, j1, j2, hi', e⟩ := comp_pu (cap := cap) (k := fun _ => Pure.pure true) (fun _ => true) (fun d => .bl (f d)) hi hl (fun d hm => let ⟨γ1, q1, q2⟩ := hd d hm; ⟨γ1, q1, Pu.pure _, fun _ => q2⟩) h
  refine ⟨j1 ++ .lst (((items.filter fun _ => true).map fun d => .bl (f d))) :: j2, ?_⟩
  have bl : ∀ xs : List D, blsD (xs.map fun d => .bl (f d)) = some (xs.map f) := fun xs => by
    induction xs with
    | nil => rfl
    | cons x r ih => simp [blsD, ih]
  have hg : (h ++ j1 ++ O.lst ((items.filter fun _ => true).map fun d => .bl (f d)) :: j2)[i]? = some (.lst ((items.filter fun _ => true).map fun d => .bl (f d))) := by
    subst hi'
    rw [show h.length + j1.length = (h ++ j1).length by simp]
    simp
  have ha : aCons (eComp cap mi g (fun _ => Pure.pure true) me) aNil γ h = .ok [.ref i] (h ++ j1 ++ .lst ((items.filter fun _ => true).map fun d => .bl (f d)) :: j2) := by
    show (eComp cap mi g (fun _ => Pure.pure true) me γ >>= _) h = _
    rw [M.bind_ok e]; rfl
  show (aCons (eComp cap mi g (fun _ => Pure.pure true) me) aNil γ >>= _) h = _
  rw [M.bind_ok ha]
  unfold fAll getL
  simp only [bindM]
  rw [hg]
  dsimp only
  rw [bl]
  simp [Function.comp_def]
end FT
set_option Elab.async false
set_option linter.all false
set_option maxRecDepth 100000
/-! A set's table: its places rise. -/
namespace FT
open PySem PySem.Spec PyProof.Rows L2

theorem Rise.lt {xs : Array Nat} (h : Rise xs) {i j a b : Nat} (ha : xs[i]? = some a) (hb : xs[j]? = some b) (hij : i < j) : a < b := by
  obtain ⟨h1, e1⟩ := Array.getElem?_eq_some_iff.mp ha
  obtain ⟨h2, e2⟩ := Array.getElem?_eq_some_iff.mp hb
  have := List.pairwise_iff_getElem.mp h i j (by simpa using h1) (by simpa using h2) hij
  simp only [Array.getElem_toList] at this
  rw [e1, e2] at this
  exact this
theorem below_go {xs : Array Nat} (h : Rise xs) (j : Nat) : ∀ (fuel lo hi : Nat), hi - lo ≤ fuel → lo ≤ hi → hi ≤ xs.size → (∀ (i : Nat) a, i < lo → xs[i]? = some a → a < j) → (∀ (i : Nat) a, hi ≤ i → xs[i]? = some a → j ≤ a) →
    (SetTable.below.go xs j fuel lo hi) ≤ xs.size ∧ (∀ (i : Nat) a, i < SetTable.below.go xs j fuel lo hi → xs[i]? = some a → a < j) ∧ ∀ (i : Nat) a, SetTable.below.go xs j fuel lo hi ≤ i → xs[i]? = some a → j ≤ a
  | 0, lo, hi, hf, hl, hs, h1, h2 => by
    have : hi = lo := by omega
    subst this
    exact ⟨by simp only [SetTable.below.go]; omega, by simpa only [SetTable.below.go] using h1, by simpa only [SetTable.below.go] using h2⟩
  | fuel + 1, lo, hi, hf, hl, hs, h1, h2 => by
    rw [SetTable.below.go]
    split
    · rename_i hlt
      have hm : (lo + hi) / 2 < xs.size := by omega
      have e : xs[(lo + hi) / 2]? = some xs[(lo + hi) / 2] := Array.getElem?_eq_getElem hm
      have ed : xs.getD ((lo + hi) / 2) j = xs[(lo + hi) / 2] := by rw [Array.getD_eq_getD_getElem?, e]; rfl
      dsimp only
      rw [ed]
      split
      · rename_i q
        refine below_go h j fuel _ hi (by omega) (by omega) hs (fun i a hi' ha => ?_) h2
        by_cases z : i = (lo + hi) / 2
        · subst z; rw [e] at ha; cases ha; exact q
        · exact Nat.lt_trans (h.lt ha e (by omega)) q
      · rename_i q
        refine below_go h j fuel lo _ (by omega) (by omega) (by omega) h1 (fun i a hi' ha => ?_)
        by_cases z : i = (lo + hi) / 2
        · subst z; rw [e] at ha; cases ha; omega
        · have := h.lt e ha (by omega); omega
    · exact ⟨by omega, h1, fun i a hi' ha => h2 i a (by omega) ha⟩
theorem below_spec {xs : Array Nat} (h : Rise xs) (j : Nat) : SetTable.below xs j ≤ xs.size ∧ (∀ (i : Nat) a, i < SetTable.below xs j → xs[i]? = some a → a < j) ∧ ∀ (i : Nat) a, SetTable.below xs j ≤ i → xs[i]? = some a → j ≤ a := by
  unfold SetTable.below
  refine below_go h j xs.size 0 xs.size (by omega) (by omega) (by omega) (fun i a hi => by omega) (fun i a hi ha => ?_)
  have := (Array.getElem?_eq_some_iff.mp ha).1
  omega
/-- behind the i-th place stands the next one -/
theorem below_next {xs : Array Nat} (h : Rise xs) {i j : Nat} (e : xs[i]? = some j) : SetTable.below xs (j + 1) = i + 1 := by
  obtain ⟨b1, b2, b3⟩ := below_spec h (j + 1)
  have hi := (Array.getElem?_eq_some_iff.mp e).1
  have l1 : i < SetTable.below xs (j + 1) := by
    by_cases q : i < SetTable.below xs (j + 1)
    · exact q
    · have := b3 i j (by omega) e; omega
  by_cases q : SetTable.below xs (j + 1) = i + 1
  · exact q
  · have hlt : i + 1 < xs.size := by omega
    have e2 : xs[i + 1]? = some xs[i + 1] := Array.getElem?_eq_getElem hlt
    have a1 := b2 (i + 1) _ (by omega) e2
    have a2 := h.lt e e2 (by omega)
    omega
theorem below_zero {xs : Array Nat} (h : Rise xs) : SetTable.below xs 0 = 0 := by
  obtain ⟨b1, b2, b3⟩ := below_spec h 0
  by_cases q : SetTable.below xs 0 = 0
  · exact q
  · have hlt : 0 < xs.size := by omega
    have e2 : xs[0]? = some xs[0] := Array.getElem?_eq_getElem hlt
    have := b2 0 _ (by omega) e2
    omega
theorem put_rise {t : SetTable} {j : Nat} (h : Rise t.place) (hj : t.place[SetTable.below t.place j]? ≠ some j) : Rise (t.put j).1.place := by
  obtain ⟨b1, b2, b3⟩ := below_spec h j
  show (SetTable.insertAt t.place (SetTable.below t.place j) j).toList.Pairwise _
  rw [SetTable.toList_insertAt]
  have tk : ∀ a ∈ t.place.toList.take (SetTable.below t.place j), a < j := fun a ha => by
    obtain ⟨i, hi, e⟩ := List.getElem_of_mem ha
    rw [List.getElem_take] at e
    have hi2 : i < SetTable.below t.place j := by
      rw [List.length_take] at hi; omega
    have hi3 : i < t.place.size := by omega
    exact b2 i a hi2 (by rw [Array.getElem?_eq_getElem hi3]; simpa using e)
  have dr : ∀ a ∈ t.place.toList.drop (SetTable.below t.place j), j < a := fun a ha => by
    obtain ⟨i, hi, e⟩ := List.getElem_of_mem ha
    rw [List.getElem_drop] at e
    have hi3 : SetTable.below t.place j + i < t.place.size := by
      rw [List.length_drop] at hi; simp at hi; omega
    have e2 : t.place[SetTable.below t.place j + i]? = some a := by rw [Array.getElem?_eq_getElem hi3]; simpa using e
    have := b3 _ a (by omega) e2
    by_cases q : a = j
    · subst q
      cases i with
      | zero => exact absurd e2 hj
      | succ i =>
        have hlt : SetTable.below t.place a < t.place.size := by omega
        have e3 : t.place[SetTable.below t.place a]? = some t.place[SetTable.below t.place a] := Array.getElem?_eq_getElem hlt
        have a1 := b3 _ _ (Nat.le_refl _) e3
        have a2 := h.lt e3 e2 (by omega)
        omega
    · omega
  have p1 := List.Pairwise.take (i := SetTable.below t.place j) h
  have p2 := List.Pairwise.drop (i := SetTable.below t.place j) h
  simp only [List.pairwise_append, List.pairwise_cons]
  first
    | (refine ⟨p1, ⟨dr, p2⟩, fun a ha b hb => ?_⟩
       rcases List.mem_cons.mp hb with rfl | hb
       · exact tk a ha
       · exact Nat.lt_trans (tk a ha) (dr b hb))
    | skip
theorem slot_not {t : SetTable} {j : Nat} (h : ∀ i, t.slot j ≠ .live i) : t.place[SetTable.below t.place j]? ≠ some j := fun e => by
  refine h (SetTable.below t.place j) ?_
  unfold SetTable.slot
  dsimp only
  rw [e, if_pos (by simp)]
theorem probe_go {t : SetTable} {ha : Nat → Int} {hx : Int} : ∀ (fuel : Nat) (p : SetTable.Probe) (j : Nat) (dm : Option Nat), (∀ d, p.dummy = some d → t.slot d = .dummy) → SetTable.probe.go t ha hx fuel p = some (.empty j dm) → t.slot j = .empty ∧ ∀ d, dm = some d → t.slot d = .dummy
  | 0, p, j, dm, hd, e => by simp [SetTable.probe.go] at e
  | fuel + 1, p, j, dm, hd, e => by
    rw [SetTable.probe.go] at e
    have adv : ∀ q : SetTable.Probe, (t.advance q).dummy = q.dummy := fun q => by
      unfold SetTable.advance
      split <;> rfl
    split at e
    · rename_i hs
      cases e
      exact ⟨hs, hd⟩
    · rename_i hs
      refine probe_go fuel _ j dm (fun d z => ?_) e
      rw [adv] at z
      cases z
      exact hs
    · split at e
      · cases e
      · refine probe_go fuel _ j dm (fun d z => ?_) e
        rw [adv] at z
        exact hd d z
theorem free_not {t : SetTable} {hx : Int} {j : Nat} {b : Bool} (e : t.freeSlot hx = some (j, b)) : t.place[SetTable.below t.place j]? ≠ some j := by
  unfold SetTable.freeSlot SetTable.probe at e
  split at e
  · rename_i j' dm hp
    obtain ⟨s1, s2⟩ := probe_go _ _ j' dm (fun d z => by simp [SetTable.probeStart] at z) hp
    cases dm with
    | none => cases e; exact slot_not (fun i z => by rw [show t.slot (none.getD j') = _ from s1] at z; cases z)
    | some d => cases e; exact slot_not (fun i z => by rw [show t.slot ((some d).getD j') = _ from s2 d rfl] at z; cases z)
  · cases e
theorem range_rise (n : Nat) : Rise (Array.range n) := by
  show (Array.range n).toList.Pairwise _
  rw [Array.toList_range]
  exact List.pairwise_lt_range
theorem layNew_rise {t : SetTable} {es : Array (Int × Value)} {hx : Int} {x : Value} (h : Rise t.place) : Rise (layNew t es hx x).2.1.place ∧ (layNew t es hx x).2.1.led = t.led := by
  unfold layNew
  split
  · rename_i sl wd e
    dsimp only
    unfold SetTable.orStandIn
    split
    · exact ⟨put_rise h (free_not e), rfl⟩
    · exact ⟨range_rise _, rfl⟩
  · exact ⟨range_rise _, rfl⟩
theorem laid_rise {mask finger moves : Nat} {led plain : Bool} {hs : Array Int} {t : SetTable} {o : Array Nat} (e : SetTable.laid mask finger moves led plain hs = some (t, o)) : Rise t.place ∧ t.led = led := by
  unfold SetTable.laid at e
  cases hl : SetTable.layClean mask hs with
  | none => rw [hl] at e; cases e
  | some ow =>
    rw [hl] at e
    cases e
    refine ⟨?_, rfl⟩
    unfold Rise
    dsimp only
    rw [List.pairwise_map, List.pairwise_filterMap]
    refine List.pairwise_lt_range.imp fun {a b} hab c hc d hd => ?_
    cases h1 : ow.getD a none with
    | none => rw [h1] at hc; cases hc
    | some u =>
      cases h2 : ow.getD b none with
      | none => rw [h2] at hd; cases hd
      | some v =>
        rw [h1] at hc; rw [h2] at hd
        cases hc; cases hd
        exact hab
theorem relay_rise {t : SetTable} {es : Array (Int × Value)} {n : Nat} : Rise (relayAll t es n).2.1.place ∧ (relayAll t es n).2.1.led = t.led := by
  unfold relayAll
  split
  · rename_i t' o e
    obtain ⟨r1, r2⟩ := laid_rise e
    dsimp only
    split
    · exact ⟨r1, r2⟩
    · exact ⟨range_rise _, rfl⟩
  · exact ⟨range_rise _, rfl⟩
end FT
set_option Elab.async false
set_option linter.all false
set_option maxRecDepth 100000
/-! Sets of numbers and texts on the heap. -/
namespace FT
open PySem PySem.Spec PyProof.Rows L2

section
variable {P : Program} {w : World}
theorem paired_perm {α β : Type} {R : α → β → Prop} {l' l : List β} (p : l'.Perm l) : ∀ {ks : List α}, Paired R ks l → ∃ ks', ks'.Perm ks ∧ Paired R ks' l' := by
  induction p with
  | nil => intro ks h; exact ⟨ks, .refl _, h⟩
  | cons x _ ih =>
    intro ks h
    cases h with
    | cons a b =>
      obtain ⟨ks', q1, q2⟩ := ih b
      exact ⟨_ :: ks', .cons _ q1, .cons a q2⟩
  | swap x y l =>
    intro ks h
    cases h with
    | cons a b =>
      cases b with
      | cons c d => exact ⟨_ :: _ :: _, .swap _ _ _, .cons c (.cons a d)⟩
  | trans _ _ ih1 ih2 =>
    intro ks h
    obtain ⟨k1, a1, a2⟩ := ih2 h
    obtain ⟨k2, b1, b2⟩ := ih1 a2
    exact ⟨k2, b1.trans a1, b2⟩
theorem paired_snoc {α β : Type} {R : α → β → Prop} : ∀ {ks : List α} {l : List β} {k : α} {x : β}, Paired R ks l → R k x → Paired R (ks ++ [k]) (l ++ [x])
  | _, _, _, _, .nil, h => .cons h .nil
  | _, _, _, _, .cons a b, h => .cons a (paired_snoc b h)
theorem paired_mem {α β : Type} {R : α → β → Prop} : ∀ {ks : List α} {l : List β} {x : β}, Paired R ks l → x ∈ l → ∃ k ∈ ks, R k x
  | _, _, _, .cons a b, h => by
    rcases List.mem_cons.mp h with rfl | h
    · exact ⟨_, List.mem_cons_self, a⟩
    · obtain ⟨k, h1, h2⟩ := paired_mem b h; exact ⟨k, List.mem_cons_of_mem _ h1, h2⟩
theorem paired_memL {α β : Type} {R : α → β → Prop} : ∀ {ks : List α} {l : List β} {k : α}, Paired R ks l → k ∈ ks → ∃ x ∈ l, R k x
  | _, _, _, .cons a b, h => by
    rcases List.mem_cons.mp h with rfl | h
    · exact ⟨_, List.mem_cons_self, a⟩
    · obtain ⟨k, h1, h2⟩ := paired_memL b h; exact ⟨k, List.mem_cons_of_mem _ h1, h2⟩
theorem key_scan {k : Key} {v : Value} (h : keyIs k v = true) : v.scannable = true := by
  rcases keyIs_shape h with ⟨i, t, rfl, rfl⟩ | ⟨x, t, rfl, rfl⟩ <;> rfl
theorem elems_of {ks : List Key} {l : List (Int × Value)} (h : Paired (KE w) ks l) : ElemsOf (mixKind P w) l := fun e he => by
  obtain ⟨k, _, h1, h2⟩ := paired_mem h he
  exact ⟨⟨k, h1, h2⟩, key_scan h1⟩
theorem key_inj {k k' : Key} {v : Value} (h : keyIs k v = true) (h' : keyIs k' v = true) : k = k' := by
  rcases keyIs_shape h with ⟨i, t, rfl, rfl⟩ | ⟨x, t, rfl, rfl⟩
  · rcases keyIs_shape h' with ⟨j, u, rfl, e⟩ | ⟨y, u, rfl, e⟩
    · cases e; rfl
    · cases e
  · rcases keyIs_shape h' with ⟨j, u, rfl, e⟩ | ⟨y, u, rfl, e⟩
    · cases e
    · cases e; rfl
theorem mem_of {ks : List Key} {l : List (Int × Value)} (h : Paired (KE w) ks l) (k : Key) : k ∈ ks ↔ ∃ e ∈ l, keyIs k e.2 = true := by
  constructor
  · intro hk
    obtain ⟨e, h1, h2, _⟩ := paired_memL h hk
    exact ⟨e, h1, h2⟩
  · rintro ⟨e, h1, h2⟩
    obtain ⟨k', h3, h4, _⟩ := paired_mem h h1
    exact key_inj h2 h4 ▸ h3
theorem SetAt.setOf {h : Heap} {a : Addr} {ks : List Key} (x : SetAt w h a ks) : h.SetOf (mixKind P w) a (fun k => decide (k ∈ ks)) ks.length := by
  obtain ⟨o, es, ep, t, ks', h1, h2, h3, h4, h5, h6, h7, h8, h9, _⟩ := x
  refine ⟨o, es, ep, t, h1, h2, h3, elems_of h4, fun k => ?_, h7, h8, ?_⟩
  · rw [decide_eq_true_eq, ← h5.mem_iff]
    exact mem_of h4 k
  · rw [← h5.length_eq, Paired.length h4, Array.length_toList]
theorem SetAt.stay {h h' : Heap} {a : Addr} {ks : List Key} (x : SetAt w h a ks) (k : ∀ o, h.get? a = some o → h'.get? a = some o) : SetAt w h' a ks := by
  obtain ⟨o, es, ep, t, ks', h1, h2⟩ := x
  exact ⟨o, es, ep, t, ks', k o h1, h2⟩
theorem SetAt.perm {h : Heap} {a : Addr} {ks ks2 : List Key} (x : SetAt w h a ks) (p : ks.Perm ks2) : SetAt w h a ks2 := by
  obtain ⟨o, es, ep, t, ks', h1, h2, h3, h4, h5, h6, h7⟩ := x
  exact ⟨o, es, ep, t, ks', h1, h2, h3, h4, h5.trans p, p.nodup_iff.mp h6, h7⟩
theorem setAt_new {h : Heap} {led : Bool} (hl : led = true ∨ w.params.followText "set-order" = true) : SetAt w (h.push { cls := .type "set", dict := none, data := .set #[] 0 (.fresh 0 0 led) }) h.objs.size [] :=
  ⟨_, #[], 0, _, [], Heap.get?_push_size _ rfl, ⟨rfl, rfl, rfl⟩, rfl, .nil, .refl _, List.nodup_nil, by decide, by rfl, by show ([] : List Nat).Pairwise _; exact .nil, hl⟩

variable {A : Around} {E : Value → Shared → Prop} {s : Shared} {a : Addr}
theorem store_at {ks : List Key} {o : Obj} {es es' : Array (Int × Value)} {ep : Nat} {t t' : SetTable} {ks' : List Key} {h : Heap} (ho : h.get? a = some o) (hex : o.ExactSet) (hd : o.data = .set es ep t) (h4 : Paired (KE w) ks' es'.toList) (h5 : ks'.Perm ks) (h6 : ks.Nodup)
    (hb : es'.size < scanBound) (hf : t'.fits es'.size = true) (hr : Rise t'.place) (hl : t'.led = true ∨ w.params.followText "set-order" = true) :
    SetAt w (h.update a (Obj.putSet es' t')) a ks ∧ ∃ o', (h.update a (Obj.putSet es' t')).get? a = some o' ∧ o'.ExactSet ∧ o'.data = .set es' (ep + 1) t' := by
  have g : (h.update a (Obj.putSet es' t')).get? a = some { o with data := .set es' (ep + 1) t' } := by
    have := Heap.get?_update_self (Obj.putSet es' t') ho (by rw [putSet_of es' t' hd]; rfl)
    rw [putSet_of es' t' hd] at this; exact this
  exact ⟨⟨_, es', ep + 1, t', ks', g, hex, rfl, h4, h5, h6, hb, hf, hr, hl⟩, _, g, hex, rfl⟩
theorem tail_at {ks ks1 : List Key} {o : Obj} {es es1 : Array (Int × Value)} {ep : Nat} {t t2 : SetTable} {wd : Bool} {gw : Bool → Sem Unit} {R : Option Bool → Shared → Prop} (hG : ∀ (g : Bool) (s1 : Shared) (Z : Unit → Shared → Prop), Z () s1 → wpAny (model P w) A (gw g) Z E s1)
    (ho : s.heap.get? a = some o) (hex : o.ExactSet) (hd : o.data = .set es ep t) (h4 : Paired (KE w) ks1 es1.toList) (h5 : ks1.Perm ks) (h6 : ks.Nodup) (hb : es1.size < scanBound) (hf : t2.fits es1.size = true) (hr : Rise t2.place) (hl : t2.led = true ∨ w.params.followText "set-order" = true)
    (h : ∀ h', Heap.SameBut a s.heap h' → SetAt w h' a ks → R (some true) { s with heap := h' }) :
    wpAny (model P w) A (storeSet a es1 t2 >>= fun _ => if (!wd && t2.tooFull) = true then (gw (relayAll t2 es1 (SetTable.grown es1.size)).2.2 >>= fun _ => storeSet a (relayAll t2 es1 (SetTable.grown es1.size)).1 (relayAll t2 es1 (SetTable.grown es1.size)).2.1 >>= fun _ => pure (some true)) else pure (some true)) R E s := by
  obtain ⟨S1, o1, g1, x1, d1⟩ := store_at (h := s.heap) (t' := t2) ho hex hd h4 h5 h6 hb hf hr hl
  have sb := Heap.SameBut.update s.heap a (Obj.putSet es1 t2)
  refine wpAny_bind (wpAny_storeSet_of ho hd ?_ (fits_of_scanBound hb))
  split
  · have rp := relayAll_perm t2 es1 (SetTable.grown es1.size)
    have rf := relayAll_fits t2 es1 (SetTable.grown es1.size)
    have rr := relay_rise (t := t2) (es := es1) (n := SetTable.grown es1.size)
    obtain ⟨ks2, p1, p2⟩ := paired_perm rp h4
    have sz : (relayAll t2 es1 (SetTable.grown es1.size)).1.size = es1.size := by rw [← Array.length_toList, rp.length_eq, Array.length_toList]
    have b2 : (relayAll t2 es1 (SetTable.grown es1.size)).1.size < scanBound := by rw [sz]; exact hb
    refine wpAny_bind (hG _ _ _ (wpAny_bind (wpAny_storeSet_of g1 d1 (wpAny_pure ?_) (fits_of_scanBound b2))))
    obtain ⟨S2, _⟩ := store_at (h := s.heap.update a (Obj.putSet es1 t2)) (t' := (relayAll t2 es1 (SetTable.grown es1.size)).2.1) g1 x1 d1 p2 (p1.trans h5) h6 b2 rf rr.1 (by rw [rr.2]; exact hl)
    exact h _ (sb.trans (Heap.SameBut.update _ a _)) S2
  · exact wpAny_pure (h _ sb S1)
theorem add_at {ks : List Key} {k : Key} {x : Value} {Q : Bool → Shared → Prop} (hk : keyIs k x = true) (hS : SetAt w s.heap a ks) (hroom : ks.length + 1 < scanBound)
    (h : ∀ h' b, Heap.SameBut a s.heap h' → SetAt w h' a (if k ∈ ks then ks else ks ++ [k]) → Q b { s with heap := h' }) :
    wpAny (model P w) A (setAddHashed a x (keyH w k)) Q E s := by
  obtain ⟨o, es, ep, t, ks', ho, hex, hd, h4, h5, h6, h7, h8, h9, h0⟩ := hS
  have el := elems_of (P := P) h4
  have sc := key_scan hk
  have hn : es.size = ks.length := by rw [← h5.length_eq, Paired.length h4, Array.length_toList]
  unfold setAddHashed setAddHashedIn
  refine wpAny_holding (wpAny_bind (wpAny_setState_of ho hd h8 ?_))
  dsimp only
  rw [byScan_of sc h7 el, if_pos rfl]
  unfold setAddByScan
  refine wpAny_bind (wpAny_bind (wpAny_rule (wpAny_bind (wpAny_setScan_of (knd := mixKind P w) (k := k) hk ho hd h8 el ?_))))
  cases hr : List.findIdx? (fun e => (mixKind P w).is k e.2) es.toList with
  | some j =>
    dsimp only
    obtain ⟨hj, hp, _⟩ := List.findIdx?_eq_some_iff_getElem.mp hr
    have hm : k ∈ ks := h5.mem_iff.mp ((mem_of h4 k).mpr ⟨_, List.getElem_mem hj, hp⟩)
    have := h s.heap false (Heap.SameBut.refl a s.heap) (by rw [if_pos hm]; exact ⟨o, es, ep, t, ks', ho, hex, hd, h4, h5, h6, h7, h8, h9, h0⟩)
    exact wpAny_pure (wpAny_pure this)
  | none =>
    dsimp only
    have hm : k ∉ ks := fun z => by
      obtain ⟨e, he, hp⟩ := (mem_of h4 k).mp (h5.mem_iff.mpr z)
      have := List.findIdx?_eq_none_iff.mp hr e he
      rw [show (mixKind P w).is k e.2 = true from hp] at this
      cases this
    rw [if_neg hm] at h
    have np := layNew_perm t es (keyH w k) x
    have nf := layNew_fits t es (keyH w k) x
    have nr := layNew_rise (t := t) (es := es) (hx := keyH w k) (x := x) h9
    have hG : ∀ (g : Bool) (s1 : Shared) (R : Unit → Shared → Prop), R () s1 → wpAny (model P w) A (match g with | true => rule "set.scan.the-table-gave-way" | false => pure ()) R E s1 :=
      fun g s1 R q => by cases g <;> first | exact wpAny_pure q | exact wpAny_rule q
    generalize hL : layNew t es (keyH w k) x = L at np nf nr ⊢
    obtain ⟨es1, t1, wd, gv⟩ := L
    dsimp only at np nf nr ⊢
    rw [Array.toList_push] at np
    obtain ⟨ks1, p1, p2⟩ := paired_perm np (paired_snoc h4 (show KE w k (keyH w k, x) from ⟨hk, rfl⟩))
    have nd : (ks ++ [k]).Nodup := by
      rw [List.nodup_append]
      exact ⟨h6, by simp, fun u hu v hv => by simp at hv; subst hv; exact fun z => hm (z ▸ hu)⟩
    have b1 : es1.size < scanBound := by
      rw [← Array.length_toList, np.length_eq, List.length_append, Array.length_toList]
      simpa [hn] using hroom
    have p3 : ks1.Perm (ks ++ [k]) := p1.trans (h5.append_right [k])
    have l1 : t1.led = true ∨ w.params.followText "set-order" = true := by rw [nr.2]; exact h0
    refine wpAny_bind (hG _ _ _ ?_)
    split
    · rw [hashByValue_scannable 8 sc]
      refine wpAny_bind (wpAny_pure ?_)
      refine tail_at (t2 := if plainKind x = true then t1 else { t1 with plain := false }) hG ho hex hd p2 p3 nd b1 ?_ ?_ ?_ fun h' sb S => wpAny_pure (h h' true sb S)
      · split
        · exact nf
        · exact SetTable.fits_plain_off nf
      · split
        · exact nr.1
        · exact nr.1
      · split
        · exact l1
        · exact l1
    · refine wpAny_bind (wpAny_pure ?_)
      simp only [if_pos]
      exact tail_at hG ho hex hd p2 p3 nd b1 nf nr.1 l1 fun h' sb S => wpAny_pure (h h' true sb S)
end
end FT
set_option Elab.async false
set_option linter.all false
set_option maxRecDepth 100000
namespace FT
open PySem PySem.Spec PyProof.Rows L2

/-- keys, each once, as they first come -/
def putK (acc : List Key) (k : Key) : List Key := if k ∈ acc then acc else acc ++ [k]
def dedK (ks : List Key) : List Key := ks.foldl putK []
theorem putK_len (acc : List Key) (k : Key) : (putK acc k).length ≤ acc.length + 1 := by
  unfold putK
  split
  · omega
  · simp
theorem foldK_len : ∀ (ks acc : List Key), (ks.foldl putK acc).length ≤ acc.length + ks.length
  | [], acc => by simp
  | k :: ks, acc => by
    have h1 := foldK_len ks (putK acc k)
    have h2 := putK_len acc k
    simp only [List.foldl_cons, List.length_cons]
    omega
theorem dedK_len (ks : List Key) : (dedK ks).length ≤ ks.length := by
  have := foldK_len ks []
  simpa [dedK] using this
theorem dedK_snoc (ks : List Key) (k : Key) : dedK (ks ++ [k]) = putK (dedK ks) k := by
  unfold dedK
  rw [List.foldl_append]
  rfl
theorem foldK_mem (x : Key) : ∀ (ks acc : List Key), x ∈ ks.foldl putK acc ↔ x ∈ acc ∨ x ∈ ks
  | [], acc => by simp
  | k :: ks, acc => by
    rw [List.foldl_cons, foldK_mem x ks (putK acc k)]
    unfold putK
    split
    · rename_i h
      simp only [List.mem_cons]
      constructor
      · rintro (q | q)
        · exact .inl q
        · exact .inr (.inr q)
      · rintro (q | q | q)
        · exact .inl q
        · exact .inl (q ▸ h)
        · exact .inr q
    · simp only [List.mem_append, List.mem_cons, List.mem_nil_iff, or_false]
      constructor
      · rintro ((q | q) | q)
        · exact .inl q
        · exact .inr (.inl q)
        · exact .inr (.inr q)
      · rintro (q | q | q)
        · exact .inl (.inl q)
        · exact .inl (.inr q)
        · exact .inr q
theorem dedK_mem (x : Key) (ks : List Key) : x ∈ dedK ks ↔ x ∈ ks := by
  unfold dedK
  rw [foldK_mem]
  simp

section
variable {P : Program} {w : World} {A : Around} {E : Value → Shared → Prop} {s : Shared} {a : Addr}
theorem SetAt.typeIs {ks : List Key} (x : SetAt w s.heap a ks) : s.TypeIs (.ref a) "set" := (x.setOf (P := default)).typeIs
theorem setAdd_at {ks : List Key} {k : Key} {x : Value} {Q : Bool → Shared → Prop} (hk : keyIs k x = true) (hS : SetAt w s.heap a ks) (hroom : ks.length + 1 < scanBound)
    (h : ∀ h' b, Heap.SameBut a s.heap h' → SetAt w h' a (putK ks k) → Q b { s with heap := h', toks := s.toks + 1 }) : wpAny (model P w) A (setAdd a x) Q E s := by
  unfold setAdd
  refine wpAny_holding (wpAny_bind ((mixKind P w).pyHash (k := k) hk ?_))
  exact add_at (s := { s with toks := s.toks + 1 }) hk hS hroom fun h' b sb S => h h' b sb S
theorem call_add {ks : List Key} {k : Key} {x : Value} {Q : Value → Shared → Prop} (hk : keyIs k x = true) (hS : SetAt w s.heap a ks) (hroom : ks.length + 1 < scanBound)
    (h : ∀ h', Heap.SameBut a s.heap h' → SetAt w h' a (putK ks k) → Q .none { s with heap := h', toks := s.toks + 1 }) : wpAny (model P w) A (call (.builtin "set.add") [.ref a, x]) Q E s := by
  refine wpAny_call_entry F.slot_set_add hS.typeIs F.entry_set_add ?_ (F.args_set_add_2 _ _)
  unfold Builtin.«set.add» Builtin.Frozenset.oneOther
  simp only [List.isEmpty_nil, bind_assoc]
  unfold Builtin.Frozenset.addrOf
  refine wpAny_bind (wpAny_pure ?_)
  try dsimp only
  refine wpAny_bind (wpAny_pure ?_)
  try dsimp only
  refine wpAny_bind (setAdd_at hk hS hroom fun h' b sb S => ?_)
  show wpAny _ _ (ret Value.none) _ _ _
  exact wpAny_pure ⟨_, rfl, h h' sb S⟩
end

section
variable {P : Program} {w : World} {A : Around} {R : Result → Shared → Prop} {I : Addr} {fp wr : List Addr} {G : Array GenState → Array GenState → Prop} {n : Nat} {PV : Nat → Value → Prop} {St : Nat → Shared → Prop}
theorem update_at (W : WalksS P w A.in1 I fp wr G n PV St) (S : Addr) (hSf : S ∉ fp) (key : Nat → Key) (hv : ∀ i v, PV i v → keyIs (key i) v = true) (hb : n + 1 < scanBound) :
    ∀ (k i : Nat) (s : Shared), i + k = n → St i s → SetAt w s.heap S (dedK ((List.range i).map key)) →
      (∀ s', Moved (S :: wr) G s s' → SetAt w s'.heap S (dedK ((List.range n).map key)) → R (.ok (.ret .none)) s') →
      codeAny (model P w) A (.builtin "set.update.loop" ⟨[.ref S, .ref I], []⟩) R s := by
  have nw : S ∉ wr := fun h => hSf (W.sub _ h)
  have up : ∀ b ∈ wr, b ∈ S :: wr := fun b hb => List.mem_cons_of_mem _ hb
  intro k
  induction k with
  | zero =>
    intro i s hk st hS hR
    obtain rfl : i = n := by omega
    refine codeAny_builtin F.entry_set_update_loop ?_
    rw [Around.under_plainId F.plain_set_update_loop _]
    show wpAny _ A.in1 (pyNext (.ref I) >>= _) _ _ s
    refine wpAny_bind (W.done s _ _ st fun s' hm => ?_)
    show wpAny _ A.in1 (ret Value.none) _ _ s'
    exact wpAny_pure (hR s' (hm.mono up) (hS.stay fun o e => hm.heap S o nw e))
  | succ k ih =>
    intro i s hk st hS hR
    refine codeAny_builtin F.entry_set_update_loop ?_
    rw [Around.under_plainId F.plain_set_update_loop _]
    show wpAny _ A.in1 (pyNext (.ref I) >>= _) _ _ s
    refine wpAny_bind (W.item i s _ _ (by omega) st fun v s' hP st' hm => ?_)
    show wpAny _ A.in1 (holding [v] (setAdd S v) >>= _) _ _ s'
    have room : (dedK ((List.range i).map key)).length + 1 < scanBound := by
      have := dedK_len ((List.range i).map key)
      rw [List.length_map, List.length_range] at this
      omega
    refine wpAny_bind (wpAny_holding (setAdd_at (hv i v hP) (hS.stay fun o e => hm.heap S o nw e) room fun h' b sb S2 => ?_))
    have nx : dedK ((List.range (i + 1)).map key) = putK (dedK ((List.range i).map key)) (key i) := by
      rw [List.range_succ, List.map_append]
      exact dedK_snoc _ _
    refine wpAny_pure ⟨plainId_quiet F.plain_set_update_loop _, ih (i + 1) _ (by omega) (W.frame _ s' _ _ st' (Nat.le_succ _) fun b hb o e => ?_) (by rw [nx]; exact S2) fun s'' hm'' S3 => ?_⟩
    · rw [sb.2 b (fun z : b = S => hSf (z ▸ hb))]; exact e
    · refine hR s'' (Moved.trans W.gtrans ((hm.mono up).then_heap (Nat.le_succ _) fun b o hb e => ?_) hm'') S3
      rw [sb.2 b (fun z : b = S => hb (by rw [z]; exact List.mem_cons_self))]; exact e
end
end FT
set_option Elab.async false
set_option linter.all false
set_option maxRecDepth 100000
set_option maxHeartbeats 3200000
namespace FT
open PySem PySem.Spec PyProof.Rows L2

theorem tup_no_set : isSubtype (.type "tuple") (.type "set") = pure false := by rw [isSubtype_type]; kernel_rfl
theorem tup_no_fset : isSubtype (.type "tuple") (.type "frozenset") = pure false := by rw [isSubtype_type]; kernel_rfl
/-- a new set, as it lies -/
abbrev freshS (w : World) : Obj := { cls := .type "set", dict := none, data := .set #[] 0 (.fresh 0 0 (!w.params.followText "set-order")) }
theorem led_ok (w : World) : (!w.params.followText "set-order") = true ∨ w.params.followText "set-order" = true := by
  cases w.params.followText "set-order" <;> simp
section
variable {P : Program} {w : World} {A : Around} {E : Value → Shared → Prop} {s : Shared}
theorem fresh_at {h : Heap} : SetAt w (h.push (freshS w)) h.objs.size [] := setAt_new (led_ok w)
theorem newS {Q : Value → Shared → Prop} (h : Q (.ref s.heap.objs.size) { s with heap := s.heap.push (freshS w) }) : wpAny (model P w) A (newSet (.type "set")) Q E s := by
  unfold newSet setsByText
  refine wpAny_bind (wpAny_bind (wpAny_askSetting (wpAny_pure ?_)))
  dsimp only
  simp only [newObj]
  exact wpAny_bind (wpAny_alloc (wpAny_pure h))
theorem newCode (a : Value) {Q : Value → Shared → Prop} (h : Q (.ref s.heap.objs.size) { s with heap := s.heap.push (freshS w) }) :
    codeAny (model P w) A (.call (.builtin "set.__new__") ⟨[.type "set", a], []⟩) (wants Q E) s := by
  refine codeAny_of_tree (show wpAny _ A.in1 (do checkBuiltinCall "set.__new__" ⟨[.type "set", a], []⟩; again (.builtin "set.__new__" ⟨[.type "set", a], []⟩)) _ _ s from ?_)
  refine wpAny_bind (wpAny_of_eq (F.newCall_set_1 a) (wpAny_pure ⟨plainId_quiet F.plain_set_new _, codeAny_builtin F.entry_set_new ?_⟩))
  rw [Around.under_plainId F.plain_set_new _]
  unfold Builtin.«set.__new__» Builtin.Frozenset.newClass
  have hz := sub_set_self
  obtain ⟨hp, g, d, tk, os⟩ := s
  dsimp only
  wp_walk
  refine wpAny_askSetting (wpAny_pure ?_)
  dsimp only
  simp only [newObj]
  refine wpAny_bind (wpAny_alloc (wpAny_pure ?_))
  exact wpAny_pure h
/-- set(l) of a list or a tuple -/
theorem call_setT {T : String} {l : Addr} {items : Array Value} {key : Nat → Key} {Q : Value → Shared → Prop} (hT : T = "list" ∨ T = "tuple") (hh : A.handled = none) (hl : ∃ o, s.heap.get? l = some o ∧ o.cls = .type T ∧ ∃ n, o.data = .seq items n)
    (hv : ∀ (i : Nat) v, items[i]? = some v → keyIs (key i) v = true) (hb : items.size + 1 < scanBound)
    (h : ∀ h' tk, SetAt w h' s.heap.objs.size (dedK ((List.range items.size).map key)) → (∀ b o, s.heap.get? b = some o → h'.get? b = some o) → Q (.ref s.heap.objs.size) { s with heap := h', toks := tk }) :
    wpAny (model P w) A (call (.type "set") [.ref l]) Q E s := by
  obtain ⟨c, tl, hmro⟩ := F.called_set.mro
  have z1 := F.called_set.made
  have z2 := F.called_set.sub
  have z3 := F.called_set.notType
  have z4 := F.called_set.canCreate
  have z5 := F.typeCall_set_1 (.ref l)
  obtain ⟨ol, hol, hcl, nl, hdl⟩ := hl
  obtain ⟨ocls, odict, odata, oslots⟩ := ol
  simp only at hcl hdl
  subst hcl; subst hdl
  refine wpAny_call (codeAny_of_tree (show wpAny _ _ (callAny (.type "set") _) _ _ _ from ?_))
  refine wpAny_pure ⟨Code.quiet_builtin _ (by decide +kernel), codeAny_builtin F.entry_type_call ?_⟩
  rw [Around.under_plain (weight_type_call_type "set" [.ref l] []) rfl]
  repeat (any_goals (first | assumption | wp_step))
  refine codeAny_mono (newCode (.ref l) (E := E) (Q := fun obj s1 => obj = .ref s.heap.objs.size ∧ s1 = { s with heap := s.heap.push (freshS w) }) ⟨rfl, rfl⟩) fun r s1 hr => ?_
  cases r with
  | error e => exact hr
  | ok fl =>
    cases fl with
    | next => exact hr.elim
    | brk => exact hr.elim
    | cont => exact hr.elim
    | ret obj =>
      obtain ⟨rfl, rfl⟩ := hr
      have gS : (s.heap.push (freshS w)).get? s.heap.objs.size = some (freshS w) := Heap.get?_push_size _ rfl
      have tS : Shared.TypeIs { s with heap := s.heap.push (freshS w) } (.ref s.heap.objs.size) "set" := ⟨_, gS, rfl⟩
      have y1 := F.called_set.init.lookup
      have y2 := F.called_set.init.bind (.ref s.heap.objs.size)
      repeat (any_goals (first | assumption | wp_step))
      refine codeAny_mono (codeAny_call_builtin (R := wants (fun r s2 => r = .none ∧ ∃ h' tk, s2 = { s with heap := h', toks := tk } ∧ SetAt w h' s.heap.objs.size (dedK ((List.range items.size).map key)) ∧ ∀ b o, s.heap.get? b = some o → h'.get? b = some o) E) F.called_set.init.plain F.entry_set_init (check_set_init_1 tS ?_)) fun r2 s2 hr2 => ?_
      · have gl : (s.heap.push (freshS w)).get? l = some { cls := .type T, dict := odict, data := .seq items nl, slots := oslots } := Heap.get?_push_of_some _ hol
        have hll : l < s.heap.objs.size := Heap.lt_size hol
        have h3 : A.in1.in1.in1.handled = none := by simp [hh]
        have neI : l ≠ (s.heap.push (freshS w)).objs.size := by rw [Heap.size_push]; exact Nat.ne_of_lt (Nat.lt_succ_of_lt hll)
        have nf : s.heap.objs.size ∉ [(s.heap.push (freshS w)).objs.size, l] := by
          rw [Heap.size_push]
          simp only [List.mem_cons, List.mem_singleton, List.not_mem_nil, or_false, not_or]
          exact ⟨Nat.ne_of_lt (Nat.lt_succ_self _), Nat.ne_of_gt hll⟩
        have start : ∀ ob : Obj, SetAt w ((s.heap.push (freshS w)).push ob) s.heap.objs.size (dedK ((List.range 0).map key)) := fun ob => fresh_at.stay fun o e => Heap.get?_push_of_some _ e
        have fin : ∀ (ob : Obj) s', Moved [s.heap.objs.size, (s.heap.push (freshS w)).objs.size] (fun g g' => g' = g) { s with heap := (s.heap.push (freshS w)).push ob } s' → SetAt w s'.heap s.heap.objs.size (dedK ((List.range items.size).map key)) →
            ∃ h' tk, s' = { s with heap := h', toks := tk } ∧ SetAt w h' s.heap.objs.size (dedK ((List.range items.size).map key)) ∧ ∀ b o, s.heap.get? b = some o → h'.get? b = some o := fun ob s' hm S2 => by
          obtain ⟨h', g', d', tk', os'⟩ := s'
          have e1 : g' = s.gens := hm.gens
          have e2 : d' = s.drawn := hm.drawn
          have e3 : os' = s.os := hm.os
          subst e1; subst e2; subst e3
          refine ⟨h', tk', rfl, S2, fun b o e => hm.heap b o ?_ (Heap.get?_push_of_some _ (Heap.get?_push_of_some _ e))⟩
          have := Heap.lt_size e
          rw [Heap.size_push]
          simp only [List.mem_cons, List.mem_singleton, List.not_mem_nil, or_false, not_or]
          exact ⟨Nat.ne_of_lt this, Nat.ne_of_lt (Nat.lt_succ_of_lt this)⟩
        rcases hT with rfl | rfl
        · have x1 := F.sub_list_set
          have x2 := F.sub_list_frozenset
          have x3 : (Value.type "list" == Value.type "dict") = false := by decide
          have il : (s.heap.push (freshS w)).IsList l items := ⟨_, gl, rfl, nl, rfl⟩
          unfold Builtin.«set.__init__» noKeywords Builtin.Frozenset.updateFrom
          generalize hPI : pyIter = PI
          wp_walk
          subst hPI
          refine wpAny_pyIter_list il (wpAny_bind (wpAny_runValue ?_))
          refine update_at ((Walks.list h3 _ l neI items).toS) s.heap.objs.size nf key (fun i v e => hv i v e) hb items.size 0 _ (by omega) ⟨⟨_, Heap.get?_push_size _ rfl, rfl, rfl⟩, il.push _⟩ (start _) fun s' hm S2 => ?_
          obtain ⟨h', tk, rfl, q1, q2⟩ := fin _ s' hm S2
          exact wpAny_pure (show wpAny _ _ (ret Value.none) _ _ _ from wpAny_pure ⟨rfl, h', tk, rfl, q1, q2⟩)
        · have x1 := tup_no_set
          have x2 := tup_no_fset
          have x3 : (Value.type "tuple" == Value.type "dict") = false := by decide
          have il : (s.heap.push (freshS w)).IsTuple l items := ⟨_, gl, rfl, nl, rfl⟩
          unfold Builtin.«set.__init__» noKeywords Builtin.Frozenset.updateFrom
          generalize hPI : pyIter = PI
          wp_walk
          subst hPI
          refine wpAny_pyIter_tuple il (wpAny_bind (wpAny_runValue ?_))
          refine update_at ((Walks.tuple h3 _ l neI items).toS) s.heap.objs.size nf key (fun i v e => hv i v e) hb items.size 0 _ (by omega) ⟨⟨_, Heap.get?_push_size _ rfl, rfl, rfl⟩, ⟨_, Heap.get?_push_of_some _ gl, rfl, nl, rfl⟩⟩ (start _) fun s' hm S2 => ?_
          obtain ⟨h', tk, rfl, q1, q2⟩ := fin _ s' hm S2
          exact wpAny_pure (show wpAny _ _ (ret Value.none) _ _ _ from wpAny_pure ⟨rfl, h', tk, rfl, q1, q2⟩)
      · cases r2 with
        | error e => exact hr2
        | ok f2 =>
          cases f2 with
          | next => exact hr2.elim
          | brk => exact hr2.elim
          | cont => exact hr2.elim
          | ret r =>
            obtain ⟨rfl, h', tk, rfl, q1, q2⟩ := hr2
            repeat (any_goals (first | assumption | wp_step))
            exact h _ _ q1 q2
end
end FT
set_option Elab.async false
set_option linter.all false
set_option maxRecDepth 100000
set_option maxHeartbeats 1600000
/-! A walk over a set. -/
namespace FT
open PySem PySem.Spec PyProof.Rows L2

theorem erase_perm {α : Type} : ∀ (l : List α) (i : Nat) (h : i < l.length), (l[i] :: l.eraseIdx i).Perm l
  | [], i, h => by simp at h
  | a :: l, 0, h => .refl _
  | a :: l, i + 1, h => by
    have := erase_perm l i (by simpa using h)
    exact (List.Perm.swap a _ _).trans (List.Perm.cons a this)
theorem erase_len {α : Type} {l : List α} {i n : Nat} (h : i < l.length) (e : l.length = n + 1) : (l.eraseIdx i).length = n := by
  rw [List.length_eraseIdx, if_pos h, e]; rfl
theorem pick_go {α : Type} (f : Nat → Nat) : ∀ (n k : Nat) (left : List α) (out : Array α), left.length = n → (pickOrder.go f n k left out).toList.Perm (out.toList ++ left)
  | 0, k, left, out, h => by
    have : left = [] := List.length_eq_zero_iff.mp h
    subst this
    simp [pickOrder.go]
  | n + 1, k, left, out, h => by
    have hl : f k % left.length < left.length := Nat.mod_lt _ (by omega)
    rw [pickOrder.go, List.getElem?_eq_getElem hl]
    dsimp only
    refine (pick_go f n (k + 1) _ _ (erase_len hl h)).trans ?_
    rw [Array.toList_push, List.append_assoc]
    refine List.Perm.append_left _ ?_
    exact erase_perm left _ hl
theorem pick_perm {α : Type} (f : Nat → Nat) (xs : Array α) : (pickOrder f xs).toList.Perm xs.toList := by
  unfold pickOrder
  have := pick_go f xs.size 0 xs.toList #[] (by simp)
  simpa using this

theorem slot_si_next : Slot "set_iterator" "__next__" "set_iterator.__next__" :=
  .of (owner := "set_iterator") (n := "__next__") (by rw [typeLookup_type, builtinLookup_eq_fast]; kernel_rfl) (by decide +kernel) (by decide +kernel) (by decide +kernel) (by first | exact .inl (by decide +kernel) | exact .inr (by decide +kernel)) (by rw [isSubtype_type]; kernel_rfl)
theorem entry_si_next : entryFor table "set_iterator.__next__" = some Builtin.«set_iterator.__next__» := entryFor_of_tree (by kernel_rfl)
theorem owner_si : Manifest.owners.lookup (String.ofList ['r', 'o', 't', 'a', 'r', 'e', 't', 'i', '_', 't', 'e', 's'].reverse) = some Manifest.sig_set_iterator := by kernel_rfl
theorem args_si_next (a : Value) : argsOk "set_iterator.__next__" ⟨[a], []⟩ := by
  unfold argsOk; rw [signature?_of (id := "set_iterator.__next__") (n := ['_', '_', 't', 'x', 'e', 'n', '_', '_']) (o := ['r', 'o', 't', 'a', 'r', 'e', 't', 'i', '_', 't', 'e', 's']) (by kernel_rfl) owner_si]; kernel_rfl
theorem slot_si_iter : Slot "set_iterator" "__iter__" "set_iterator.__iter__" :=
  .of (owner := "set_iterator") (n := "__iter__") (by rw [typeLookup_type, builtinLookup_eq_fast]; kernel_rfl) (by decide +kernel) (by decide +kernel) (by decide +kernel) (by first | exact .inl (by decide +kernel) | exact .inr (by decide +kernel)) (by rw [isSubtype_type]; kernel_rfl)
theorem entry_set_it : entryFor table "set.__iter__" = some Builtin.«frozenset.__iter__» :=
  entryFor_alias (id' := "frozenset.__iter__") (by kernel_rfl) rfl (by decide +kernel) (by kernel_rfl)
theorem args_set_it (a : Value) : argsOk "set.__iter__" ⟨[a], []⟩ := by
  unfold argsOk; rw [signature?_of (id := "set.__iter__") (n := ['_', '_', 'r', 'e', 't', 'i', '_', '_']) (o := ['t', 'e', 's']) (by kernel_rfl) F.owner_set]; kernel_rfl

section
variable {P : Program} {w : World} {A : Around} {E : Value → Shared → Prop} {s : Shared}
theorem draw_order {α : Type} : ∀ (n : Nat) (xs : List α) (s : Shared) (Q : List α → Shared → Prop), xs.length = n → (∀ ys d', ys.Perm xs → Q ys { s with drawn := d' }) → wpAny (model P w) A (drawOrder n xs) Q E s
  | 0, xs, s, Q, h, hq => by
    have : xs = [] := List.length_eq_zero_iff.mp h
    subst this
    exact wpAny_pure (hq [] s.drawn (.refl _))
  | n + 1, xs, s, Q, h, hq => by
    cases xs with
    | nil => simp at h
    | cons x xs =>
      rw [drawOrder.eq_3 _ _ (fun z => by cases z)]
      refine wpAny_bind ?_
      refine fun Γ p _ => ⟨by simp, ?_⟩
      generalize hi : (model P w).w.draws .order (s.drawn.get .order) % (x :: xs).length = i
      have il : i < (x :: xs).length := by rw [← hi]; exact Nat.mod_lt _ (by simp)
      show wpAny (model P w) A (match (x :: xs)[i]? with | some x_1 => (do return x_1 :: (← drawOrder n ((x :: xs).eraseIdx i))) | none => unsupported "internal:drawOrder") Q E { s with drawn := s.drawn.bump .order }
      rw [List.getElem?_eq_getElem il]
      dsimp only
      refine wpAny_bind (draw_order n _ _ _ (erase_len il h) fun ys d' pm => wpAny_pure ?_)
      exact hq _ d' ((List.Perm.cons _ pm).trans (erase_perm _ i il))
end
end FT
set_option Elab.async false
set_option linter.all false
set_option maxRecDepth 100000
set_option maxHeartbeats 1600000
namespace FT
open PySem PySem.Spec PyProof.Rows L2

theorem entry_si_iter : entryFor table "set_iterator.__iter__" = some Builtin.«dict_keyiterator.__iter__» :=
  entryFor_alias (id' := "dict_keyiterator.__iter__") (by kernel_rfl) rfl (by decide +kernel) (by kernel_rfl)
theorem args_si_iter (a : Value) : argsOk "set_iterator.__iter__" ⟨[a], []⟩ := by
  unfold argsOk; rw [signature?_of (id := "set_iterator.__iter__") (n := ['_', '_', 'r', 'e', 't', 'i', '_', '_']) (o := ['r', 'o', 't', 'a', 'r', 'e', 't', 'i', '_', 't', 'e', 's']) (by kernel_rfl) owner_si]; kernel_rfl
/-- an iterator's record -/
abbrev iterO (first : Value) (i : Nat) (S : Addr) (n ep : Nat) : Obj := { cls := .type "set_iterator", data := .fields #[first, rawInt i, .ref S, rawInt n, rawInt ep] }
section
variable (w : World) (S : Addr) (es : Array (Int × Value)) (ep : Nat) (t : SetTable)
/-- how the walk stands at the i-th element of ord -/
inductive Stand (h : Heap) (i : Nat) : Value → List (Int × Value) → Prop where
  | txt (b : w.params.followText "set-order" = true) : Stand h i (rawInt 0) (pickOrder (w.params.setOrder S ep) es).toList
  | drw (T : Addr) (pl : List Nat) (b : w.params.followText "set-order" = false) (hT : ∃ o n, h.get? T = some o ∧ o.data = .seq (pl.map fun (j : Nat) => rawInt j).toArray n) (hp : pl.Perm (List.range es.size)) : Stand h i (.ref T) (pl.filterMap fun j => es[j]?)
  | slo (sl : Nat) (b : w.params.followText "set-order" = false) (c : (!t.plain && decide (es.size > 1)) = false) (l : t.led = true) (e : SetTable.below t.place sl = i) : Stand h i (rawInt sl) es.toList
end
theorem fm_getElem {α : Type} {es : Array α} : ∀ {pl : List Nat}, (∀ j ∈ pl, j < es.size) → ∀ (i : Nat), (pl.filterMap fun j => es[j]?)[i]? = (pl[i]?).bind fun j => es[j]?
  | [], h, i => by simp
  | a :: pl, h, i => by
    have hb := h a List.mem_cons_self
    have ha : es[a]? = some es[a] := Array.getElem?_eq_getElem hb
    rw [List.filterMap_cons, ha]
    cases i with
    | zero => simp [ha]
    | succ i => simpa using fm_getElem (fun j hj => h j (List.mem_cons_of_mem _ hj)) i
theorem Stand.perm {w : World} {S : Addr} {es : Array (Int × Value)} {ep : Nat} {t : SetTable} {h : Heap} {i : Nat} {f : Value} {ord : List (Int × Value)} (x : Stand w S es ep t h i f ord) : ord.Perm es.toList := by
  cases x with
  | txt b => exact pick_perm _ _
  | drw T pl b hT hp =>
    refine (hp.filterMap _).trans ?_
    rw [filterMap_getElem?_range]
  | slo sl b c l e => exact .refl _
section
variable {P : Program} {w : World} {A : Around} {E : Value → Shared → Prop} {s : Shared} {S I : Addr} {es : Array (Int × Value)} {ep : Nat} {t : SetTable} {i : Nat} {f : Value} {ord : List (Int × Value)} {o : Obj}
theorem next_txt {sl : Nat} {Q : Option (Value × Nat) → Shared → Prop} (ho : s.heap.get? S = some o) (hd : o.data = .set es ep t) (hf : t.fits es.size = true) (b : w.params.followText "set-order" = true)
    (h : Q (((pickOrder (w.params.setOrder S ep) es)[i]?).map fun e => (e.2, sl)) s) : wpAny (model P w) A (setNext S sl i ep) Q E s := by
  unfold setNext setsByText
  refine wpAny_bind (wpAny_setState_of ho hd hf (wpAny_bind (wpAny_bind (wpAny_askSetting (wpAny_pure ?_)))))
  dsimp only
  rw [show (model P w).w.params.followText "set-order" = true from b, if_pos rfl, if_neg (by simp)]
  unfold setWalk setsByText
  refine wpAny_bind (wpAny_bind (wpAny_setState_of ho hd hf (wpAny_bind (wpAny_bind (wpAny_askSetting (wpAny_pure ?_))))))
  dsimp only
  rw [show (model P w).w.params.followText "set-order" = true from b, if_pos rfl]
  refine wpAny_bind (wpAny_askSetting (wpAny_pure (wpAny_pure ?_)))
  exact h
theorem next_slo {sl : Nat} {Q : Option (Value × Nat) → Shared → Prop} (ho : s.heap.get? S = some o) (hd : o.data = .set es ep t) (hf : t.fits es.size = true) (b : w.params.followText "set-order" = false)
    (c : (!t.plain && decide (es.size > 1)) = false) (l : t.led = true) (h : Q (match es[SetTable.below t.place sl]?, t.place[SetTable.below t.place sl]? with | some (_, x), some j => some (x, j + 1) | _, _ => none) s) : wpAny (model P w) A (setNext S sl i ep) Q E s := by
  unfold setNext setsByText
  refine wpAny_bind (wpAny_setState_of ho hd hf (wpAny_bind (wpAny_bind (wpAny_askSetting (wpAny_pure ?_)))))
  dsimp only
  rw [show (model P w).w.params.followText "set-order" = false from b, if_neg (by decide)]
  rw [if_neg (by show ¬ ((!t.plain && decide (es.size > 1)) = true); rw [c]; decide)]
  refine wpAny_bind ?_
  show wpAny _ _ (if (!t.led && !es.isEmpty) = true then _ else _) _ _ _
  rw [if_neg (by rw [l]; simp)]
  exact wpAny_pure (wpAny_pure h)
theorem si_next {e : Int × Value} {Q : Option Value → Shared → Prop} (ho : s.heap.get? S = some o) (hd : o.data = .set es ep t) (hf : t.fits es.size = true) (hr : Rise t.place) (hI : s.heap.get? I = some (iterO f i S es.size ep)) (st : Stand w S es ep t s.heap i f ord) (he : ord[i]? = some e) (hSI : S ≠ I)
    (hQ : ∀ h' f', Heap.SameBut I s.heap h' → h'.get? I = some (iterO f' (i + 1) S es.size ep) → Stand w S es ep t h' (i + 1) f' ord → (∀ T, f' = .ref T → f = .ref T) → Q (some e.2) { s with heap := h' }) : wpAny (model P w) A (pyNext (.ref I)) Q E s := by
  have hT : s.TypeIs (.ref I) "set_iterator" := ⟨_, hI, rfl⟩
  unfold pyNext
  refine wpAny_bind (wpAny_attempt (wpAny_callSpecial?_slot (name := Str.ofString "__next__") hT slot_si_next (wpAny_call_entry slot_si_next hT entry_si_next ?_ (args_si_next _))))
  show wpAny _ _ (fieldsOf (.ref I) >>= _) _ _ s
  refine wpAny_bind (wpAny_fieldsOf hI rfl ?_)
  show wpAny _ _ (setEntries S >>= _) _ _ s
  refine wpAny_bind (wpAny_setEntries_of ho hd hf ?_)
  rw [if_neg (by simp)]
  have upd : ∀ (h0 : Heap) (vs : Array Value) (j : Nat) (v : Value), h0.get? I = some { cls := .type "set_iterator", data := .fields vs } → (h0.update I (Obj.mapFields (·.setIfInBounds j v))).get? I = some { cls := .type "set_iterator", data := .fields (vs.setIfInBounds j v) } := fun h0 vs j v e => by
    have := Heap.get?_update_self (Obj.mapFields (·.setIfInBounds j v)) e (Obj.isFreed_of_fields (Obj.data_mapFields rfl _))
    exact this
  have fin : ∀ (f' : Value) (j : Nat) (R : PySem.Fin → Shared → Prop) (R2 : Value → Shared → Prop), (∀ h', Heap.SameBut I s.heap h' → h'.get? I = some (iterO f' (i + 1) S es.size ep) → R (.done (.ret e.2)) { s with heap := h' }) →
      wpAny (model P w) A.in1 (setField (.ref I) 0 f' >>= fun _ => setField (.ref I) 1 (rawInt ((i : Int) + 1)) >>= fun _ => ret e.2) R R2 s := fun f' j R R2 q => by
    have u1 := upd s.heap _ 0 f' hI
    refine wpAny_bind (wpAny_setField hI rfl (by simp) (wpAny_bind (wpAny_setField u1 rfl (by simp) (wpAny_pure (q _ ((Heap.SameBut.update ..).trans (Heap.SameBut.update ..)) ?_)))))
    rw [upd _ _ 1 _ u1]
    simp [rawInt]
  cases st with
  | txt b =>
    show wpAny _ _ (setNext S (0 : Int).toNat (i : Int).toNat (ep : Int).toNat >>= _) _ _ _
    rw [Int.toNat_natCast, Int.toNat_natCast]
    refine wpAny_bind (next_txt ho hd hf b ?_)
    rw [← Array.getElem?_toList, he]
    exact fin (rawInt 0) 0 _ _ fun h' sb q => ⟨_, rfl, wpAny_pure (hQ h' _ sb q (.txt b) fun T z => by cases z)⟩
  | slo sl b c l e2 =>
    have hi : i < es.size := by simpa using (List.getElem?_eq_some_iff.mp he).1
    have he2 : es[i]? = some e := by rw [← Array.getElem?_toList]; exact he
    have sz : t.place.size = es.size := by
      unfold SetTable.fits at hf
      simp at hf
      exact hf.1
    have hp : t.place[i]? = some (t.place[i]'(by omega)) := Array.getElem?_eq_getElem (by omega)
    show wpAny _ _ (setNext S (sl : Int).toNat (i : Int).toNat (ep : Int).toNat >>= _) _ _ _
    rw [Int.toNat_natCast, Int.toNat_natCast, Int.toNat_natCast]
    refine wpAny_bind (next_slo ho hd hf b c l ?_)
    rw [e2, he2, hp]
    refine fin (rawInt ((t.place[i]'(by omega) + 1 : Nat) : Int)) 0 _ _ fun h' sb q => ⟨_, rfl, wpAny_pure (hQ h' _ sb q (.slo _ b c l (below_next hr hp)) fun T z => by cases z)⟩
  | drw T pl b hT hp =>
    obtain ⟨oT, nT, gT, dT⟩ := hT
    have hb : ∀ j ∈ pl, j < es.size := fun j hj => by simpa using hp.mem_iff.mp hj
    rw [fm_getElem hb] at he
    cases hpi : pl[i]? with
    | none => rw [hpi] at he; cases he
    | some j =>
      rw [hpi] at he
      have hej : es[j]? = some e := he
      have hTI : T ≠ I := fun z => by
        subst z
        rw [hI] at gT
        cases gT
        cases dT
      show wpAny _ _ (seqItems? (.ref T) >>= _) _ _ _
      refine wpAny_bind (wpAny_seqItems gT dT ?_)
      dsimp only
      rw [Int.toNat_natCast, show ((pl.map fun (j : Nat) => rawInt j).toArray)[i]? = some (rawInt j) by simp [hpi]]
      show wpAny _ _ (setNextDrawn S (j : Int).toNat (ep : Int).toNat >>= _) _ _ _
      rw [Int.toNat_natCast, Int.toNat_natCast]
      unfold setNextDrawn
      refine wpAny_bind (wpAny_bind (wpAny_setState_of ho hd hf ?_))
      dsimp only
      rw [if_neg (by simp), hej]
      refine wpAny_pure ?_
      have u1 := upd s.heap _ 1 (rawInt ((i : Int) + 1)) hI
      refine wpAny_bind (wpAny_setField hI rfl (by simp) (wpAny_pure ⟨_, rfl, wpAny_pure (hQ _ (.ref T) (Heap.SameBut.update ..) ?_ (.drw T pl b ⟨oT, nT, ?_, dT⟩ hp) fun _ z => z)⟩))
      · rw [u1]; simp [rawInt]
      · rw [Heap.get?_update_other _ _ (Ne.symm hTI)]; exact gT
/-- the walk is over -/
theorem si_done {Q : Option Value → Shared → Prop} (hh : A.handled = none) (ho : s.heap.get? S = some o) (hd : o.data = .set es ep t) (hf : t.fits es.size = true) (hI : s.heap.get? I = some (iterO f es.size S es.size ep)) (st : Stand w S es ep t s.heap es.size f ord)
    (hQ : ∀ h', Heap.ExtBut I s.heap h' → Q none { s with heap := h' }) : wpAny (model P w) A (pyNext (.ref I)) Q E s := by
  have hT : s.TypeIs (.ref I) "set_iterator" := ⟨_, hI, rfl⟩
  have hl : ord.length = es.size := by rw [st.perm.length_eq, Array.length_toList]
  unfold pyNext
  refine wpAny_bind (wpAny_attempt (wpAny_callSpecial?_slot (name := Str.ofString "__next__") hT slot_si_next (wpAny_call_entry slot_si_next hT entry_si_next ?_ (args_si_next _))))
  show wpAny _ _ (fieldsOf (.ref I) >>= _) _ _ s
  refine wpAny_bind (wpAny_fieldsOf hI rfl ?_)
  show wpAny _ _ (setEntries S >>= _) _ _ s
  refine wpAny_bind (wpAny_setEntries_of ho hd hf ?_)
  rw [if_neg (by simp)]
  have stop : ∀ (h1 : Heap) (Z : PySem.Fin → Shared → Prop), Heap.ExtBut I s.heap h1 → wpAny (model P w) A.in1 (newExc (.type "StopIteration") [] >>= fun x => (raiseNew x : Sem PySem.Fin)) Z (fun e s' => wpAny (model P w) A (do let __do_lift ← isInstance e (Value.type "StopIteration"); if __do_lift = true then pure none else throw e) Q E s') { s with heap := h1 } := fun h1 Z eb => by
    refine wpAny_bind ?_
    simp only [newExc, newTuple]
    refine wpAny_bind (wpAny_newObj_type ?_ (by size_fits))
    refine wpAny_bind (m := firstArgMember _ _) (wpAny_of_eq (a := Value.none) (by first | rfl | (simp only [firstArgMember]; rfl)) ?_)
    refine wpAny_newObj_type ?_ (by size_fits)
    simp only [raiseNew]
    refine wpAny_bind (wpAny_handled ?_)
    rw [show A.in1.handled = none by simp [hh]]
    refine wpAny_bind (wpAny_pure (wpAny_throw ?_))
    refine wpAny_bind (wpAny_isInstance (T := "StopIteration") (b := true) ⟨_, Heap.get?_push_size _ rfl, rfl⟩ isSubtype_stop ?_)
    exact wpAny_pure (hQ _ ((eb.push _).push _))
  cases st with
  | txt b =>
    show wpAny _ _ (setNext S (0 : Int).toNat (es.size : Int).toNat (ep : Int).toNat >>= _) _ _ _
    rw [Int.toNat_natCast, Int.toNat_natCast]
    refine wpAny_bind (next_txt ho hd hf b ?_)
    rw [← Array.getElem?_toList, List.getElem?_eq_none (by omega)]
    exact wpAny_bind (wpAny_setField hI rfl (by simp) (stop _ _ (Heap.SameBut.update ..).extBut))
  | slo sl b c l e2 =>
    show wpAny _ _ (setNext S (sl : Int).toNat (es.size : Int).toNat (ep : Int).toNat >>= _) _ _ _
    rw [Int.toNat_natCast, Int.toNat_natCast, Int.toNat_natCast]
    refine wpAny_bind (next_slo ho hd hf b c l ?_)
    rw [e2, Array.getElem?_eq_none (Nat.le_refl _)]
    exact wpAny_bind (wpAny_setField hI rfl (by simp) (stop _ _ (Heap.SameBut.update ..).extBut))
  | drw T pl b hT hp =>
    obtain ⟨oT, nT, gT, dT⟩ := hT
    have lp : pl.length = es.size := by rw [hp.length_eq, List.length_range]
    show wpAny _ _ (seqItems? (.ref T) >>= _) _ _ _
    refine wpAny_bind (wpAny_seqItems gT dT ?_)
    dsimp only
    rw [Int.toNat_natCast, show ((pl.map fun (j : Nat) => rawInt j).toArray)[es.size]? = none by simp [lp]]
    have u1 : (s.heap.update I (Obj.mapFields (·.setIfInBounds 0 (rawInt 0)))).get? I = some { cls := .type "set_iterator", data := .fields (#[.ref T, rawInt es.size, .ref S, rawInt es.size, rawInt ep].setIfInBounds 0 (rawInt 0)) } :=
      Heap.get?_update_self _ hI (Obj.isFreed_of_fields (Obj.data_mapFields rfl _))
    exact wpAny_bind (wpAny_setField hI rfl (by simp) (wpAny_bind (wpAny_setField u1 rfl (by simp) (stop _ _ ((Heap.SameBut.update ..).trans (Heap.SameBut.update ..)).extBut))))
end
/-- the walk, as others want it -/
theorem walk_set {P : Program} {w : World} {A : Around} {S I : Addr} {es : Array (Int × Value)} {ep : Nat} {t : SetTable} {ord : List (Int × Value)} {o : Obj} {tl : List Addr} (hh : A.handled = none) (hd : o.data = .set es ep t) (hf : t.fits es.size = true) (hr : Rise t.place) (hSI : S ≠ I) (hl : ord.length = es.size) (htl : I ∉ tl) :
    Walks P w A I (I :: S :: tl) [I] es.size (fun i v => ∃ e, ord[i]? = some e ∧ v = e.2) (fun i h => h.get? S = some o ∧ ∃ f, (∀ T, f = .ref T → T ∈ tl) ∧ h.get? I = some (iterO f i S es.size ep) ∧ Stand w S es ep t h i f ord) where
  sub := fun b hb => by simp at hb; simp [hb]
  frame := fun i h h' st hk => by
    obtain ⟨q1, f, q2, q3, q4⟩ := st
    refine ⟨hk S (by simp) _ q1, f, q2, hk I (by simp) _ q3, ?_⟩
    cases q4 with
    | txt b => exact .txt b
    | slo sl b c l e2 => exact .slo sl b c l e2
    | drw T pl b hT hp =>
      obtain ⟨oT, nT, gT, dT⟩ := hT
      exact .drw T pl b ⟨oT, nT, hk T (by simp [q2 T rfl]) _ gT, dT⟩ hp
  item := fun i s Q E hi st hQ => by
    obtain ⟨q1, f, q2, q3, q4⟩ := st
    have he : ord[i]? = some (ord[i]'(by omega)) := List.getElem?_eq_getElem (by omega)
    refine si_next q1 hd hf hr q3 q4 he hSI fun h' f' sb g st' tt => ?_
    refine hQ _ h' s.toks ⟨_, he, rfl⟩ ⟨?_, f', fun T z => q2 T (tt T z), g, st'⟩ fun b ob hb e => ?_
    · rw [sb.2 S hSI]; exact q1
    · rw [sb.2 b (fun z => hb (by simp [z]))]; exact e
  done := fun s Q E st hQ => by
    obtain ⟨q1, f, q2, q3, q4⟩ := st
    exact si_done hh q1 hd hf q3 q4 fun h' eb => hQ h' s.toks fun b ob hb e => eb b ob (fun z => hb (by simp [z])) e
  self := fun i s Q E st hQ => by
    obtain ⟨q1, f, q2, q3, q4⟩ := st
    have hT : s.TypeIs (.ref I) "set_iterator" := ⟨_, q3, rfl⟩
    refine wpAny_pyIter_slot hT slot_si_iter (wpAny_call_entry slot_si_iter hT entry_si_iter ?_ (args_si_iter _))
    show wpAny _ _ (ret (.ref I)) _ _ s
    exact wpAny_pure ⟨_, rfl, "set_iterator", _, hT, slot_si_next.lookup, hQ⟩
end FT
set_option Elab.async false
set_option linter.all false
set_option maxRecDepth 100000
set_option maxHeartbeats 1600000
namespace FT
open PySem PySem.Spec PyProof.Rows L2
section
variable {P : Program} {w : World} {A : Around} {E : Value → Shared → Prop} {s : Shared} {S : Addr} {es : Array (Int × Value)} {ep : Nat} {t : SetTable} {o : Obj}
theorem iter_set {Q : Value → Shared → Prop} (ho : s.heap.get? S = some o) (hc : o.ExactSet) (hd : o.data = .set es ep t) (hf : t.fits es.size = true) (hr : Rise t.place) (hb : es.size < scanBound) (hl : t.led = true ∨ w.params.followText "set-order" = true)
    (hQ : ∀ (h' : Heap) (d' : Drawn) (I : Addr) (f : Value) (ord : List (Int × Value)) (tl : List Addr), (∀ b ob, s.heap.get? b = some ob → h'.get? b = some ob) → s.heap.objs.size ≤ I → h'.get? I = some (iterO f 0 S es.size ep) → (∀ T, f = .ref T → T ∈ tl) → (∀ T ∈ tl, s.heap.objs.size ≤ T ∧ T < h'.objs.size ∧ T ≠ I) → Stand w S es ep t h' 0 f ord → Q (.ref I) { s with heap := h', drawn := d' }) :
    wpAny (model P w) A (pyIter (.ref S)) Q E s := by
  have hT : s.TypeIs (.ref S) "set" := ⟨o, ho, hc.1⟩
  refine wpAny_pyIter_slot hT F.slot_set_iter (wpAny_call_entry F.slot_set_iter hT entry_set_it ?_ (args_set_it _))
  unfold Builtin.«frozenset.__iter__» Builtin.Frozenset.slot0 slotArgs
  simp only [List.isEmpty_nil, Bool.not_true, Bool.false_eq_true, ↓reduceIte, bind_assoc, List.length_nil, bne_self_eq_false]
  unfold Builtin.Frozenset.addrOf Builtin.Frozenset.sizeOf
  refine wpAny_bind (wpAny_pure ?_)
  try dsimp only
  refine wpAny_bind (wpAny_pure ?_)
  refine wpAny_bind (wpAny_bind (wpAny_setEntries_of ho hd hf (wpAny_pure ?_)))
  unfold setDrawn setsByText
  refine wpAny_bind (wpAny_bind (wpAny_setState_of ho hd hf (wpAny_bind (wpAny_bind (wpAny_askSetting (wpAny_pure (wpAny_pure ?_)))))))
  dsimp only
  have tailW : ∀ (h0 : Heap) (d0 : Drawn) (first : Value) (ord : List (Int × Value)) (tl : List Addr), (∀ b ob, s.heap.get? b = some ob → h0.get? b = some ob) → s.heap.objs.size ≤ h0.objs.size → (∀ T, first = .ref T → T ∈ tl) → (∀ T ∈ tl, s.heap.objs.size ≤ T ∧ T < h0.objs.size) →
      (∀ h', (∀ b ob, h0.get? b = some ob → h'.get? b = some ob) → Stand w S es ep t h' 0 first ord) →
      wpAny (model P w) A.in1 (setEpoch S >>= fun e => newFields "set_iterator" [first, rawInt 0, .ref S, rawInt es.size, rawInt e] >>= fun v => ret v) (fun fin s' => ∃ v, fin = .done (.ret v) ∧ ∃ T' r, s'.TypeIs v T' ∧ typeLookup (Value.type T') (Str.ofString "__next__") = pure (some r) ∧ Q v s') E { s with heap := h0, drawn := d0 } := fun h0 d0 first ord tl k1 k2 k3 k4 k5 => by
    refine wpAny_bind (wpAny_setEpoch_of (s := { s with heap := h0, drawn := d0 }) (k1 S o ho) hd hf ?_)
    refine wpAny_bind (wpAny_newObj_type (wpAny_pure ⟨_, rfl, "set_iterator", _, ⟨_, Heap.get?_push_size _ rfl, rfl⟩, slot_si_next.lookup, ?_⟩))
    refine hQ _ d0 h0.objs.size first ord tl (fun b ob e => Heap.get?_push_of_some _ (k1 b ob e)) k2 (Heap.get?_push_size _ rfl) k3 (fun T hT => ?_) (k5 _ fun b ob e => Heap.get?_push_of_some _ e)
    obtain ⟨z1, z2⟩ := k4 T hT
    exact ⟨z1, by rw [Heap.size_push]; exact Nat.lt_succ_of_lt z2, Nat.ne_of_lt z2⟩
  cases hb' : w.params.followText "set-order" with
  | true =>
    rw [show (model P w).w.params.followText "set-order" = true from hb', if_neg (by simp)]
    refine wpAny_bind (wpAny_pure ?_)
    exact tailW s.heap s.drawn (rawInt 0) _ [] (fun _ _ e => e) (Nat.le_refl _) (fun T z => by cases z) (fun T z => by cases z) fun h' _ => .txt hb'
  | false =>
    rw [show (model P w).w.params.followText "set-order" = false from hb']
    have led : t.led = true := by
      rcases hl with hl | hl
      · exact hl
      · rw [hb'] at hl; cases hl
    show wpAny _ _ (if (!false && (!t.plain && decide (es.size > 1))) = true then _ else _) _ _ _
    rw [Bool.not_false, Bool.true_and]
    cases hdr : (!t.plain && decide (es.size > 1)) with
    | false =>
      rw [if_neg (by decide)]
      refine wpAny_bind (wpAny_pure ?_)
      exact tailW s.heap s.drawn (rawInt 0) _ [] (fun _ _ e => e) (Nat.le_refl _) (fun T z => by cases z) (fun T z => by cases z) fun h' _ => .slo 0 hb' hdr led (below_zero hr)
    | true =>
      rw [if_pos rfl]
      refine wpAny_bind (draw_order es.size (List.range es.size) s _ (by simp) fun ys d' pm => ?_)
      have ly : (ys.map fun (i : Nat) => rawInt i).length ≤ sizeLine := by
        rw [List.length_map, pm.length_eq, List.length_range]
        exact fits_of_scanBound hb
      refine wpAny_bind (wpAny_newTuple ?_ ly)
      refine tailW (s.heap.push { cls := .type "tuple", data := .seq (ys.map fun (i : Nat) => rawInt i).toArray }) d' (.ref s.heap.objs.size) _ [s.heap.objs.size] (fun b ob e => Heap.get?_push_of_some _ e) (by rw [Heap.size_push]; exact Nat.le_succ _)
        (fun T z => by cases z; exact List.mem_singleton.mpr rfl) (fun T z => ?_) fun h' k => .drw s.heap.objs.size ys hb' ⟨_, _, k _ _ (Heap.get?_push_size _ rfl), rfl⟩ pm
      have := List.mem_singleton.mp z
      subst this
      exact ⟨Nat.le_refl _, by rw [Heap.size_push]; exact Nat.lt_succ_self _⟩
/-- all of a set in a row -/
theorem collect_set {Q : List Value → Shared → Prop} (hh : A.handled = none) (ho : s.heap.get? S = some o) (hc : o.ExactSet) (hd : o.data = .set es ep t) (hf : t.fits es.size = true) (hr : Rise t.place) (hb : es.size < scanBound) (hl : t.led = true ∨ w.params.followText "set-order" = true)
    (hQ : ∀ (h' : Heap) (d' : Drawn) (tk : Nat) (ord : List (Int × Value)), (∀ b ob, s.heap.get? b = some ob → h'.get? b = some ob) → s.heap.objs.size ≤ h'.objs.size → ord.Perm es.toList → Q (ord.map (·.2)) { s with heap := h', drawn := d', toks := tk }) :
    wpAny (model P w) A (collect (.ref S)) Q E s := by
  have hS : S < s.heap.objs.size := Heap.lt_size ho
  unfold collect
  refine wpAny_bind (wpAny_runValue (codeAny_builtin F.entry_proto_collect ?_))
  rw [Around.under_plainId F.plain_proto_collect _]
  show wpAny _ A.in1 (newList [] >>= fun l => again (.builtin "list.__iadd__" ⟨[l, .ref S], []⟩)) _ _ s
  refine wpAny_bind (wpAny_newObj_type (wpAny_pure ⟨plainId_quiet F.plain_list_iadd _, codeAny_builtin F.entry_list_iadd ?_⟩))
  rw [Around.under_plainId F.plain_list_iadd _]
  show wpAny _ A.in1 (Builtin.List.listExtendWith (.ref s.heap.objs.size) (.ref S) (.ref s.heap.objs.size)) _ _ _
  unfold Builtin.List.listExtendWith
  have g1 : (s.heap.push { cls := .type "list", data := .seq ([] : List Value).toArray }).get? S = some o := Heap.get?_push_of_some _ ho
  have tS : Shared.TypeIs { s with heap := s.heap.push { cls := .type "list", data := .seq ([] : List Value).toArray } } (.ref S) "set" := ⟨o, g1, hc.1⟩
  refine wpAny_bind (wpAny_typeOf tS ?_)
  have n1 : Builtin.List.listSameRef (.ref s.heap.objs.size) (.ref S) = false := by
    simp only [Builtin.List.listSameRef]
    exact beq_eq_false_iff_ne.mpr (Nat.ne_of_gt hS)
  rw [if_neg (by rw [n1]; decide)]
  refine wpAny_bind (iter_set (s := { s with heap := s.heap.push { cls := .type "list", data := .seq ([] : List Value).toArray } }) g1 hc hd hf hr hb hl fun h1 d1 I f ord tl k1 k2 k3 k4 k5 st => ?_)
  have g2 : h1.get? S = some o := k1 S o g1
  have gL : h1.get? s.heap.objs.size = some { cls := .type "list", data := .seq ([] : List Value).toArray } := k1 _ _ (Heap.get?_push_size _ rfl)
  have tS2 : Shared.TypeIs { s with heap := h1, drawn := d1 } (.ref S) "set" := ⟨o, g2, hc.1⟩
  refine wpAny_bind (wpAny_holding ?_)
  unfold Builtin.List.listLengthHint
  refine wpAny_bind (wpAny_specialOf tS2 F.slot_set_len.lookup ?_)
  have sp : splitId "set.__len__" = some ("set", "__len__") := by decide +kernel
  dsimp only
  rw [sp]
  dsimp only
  refine wpAny_bind (wpAny_isInstance (b := true) tS2 (by rw [isSubtype_type]; kernel_rfl) ?_)
  rw [if_neg (by decide), if_pos (by decide +kernel)]
  refine wpAny_bind (wpAny_typeOf tS2 (wpAny_pure ?_))
  rw [if_pos (by decide +kernel)]
  have u1 := get?_update_seq (c := "list") (xs := ([] : List Value).toArray) (n := 0) gL (·.push .none)
  have u2 := get?_update_seq u1 (·.pop)
  refine wpAny_bind (wpAny_rule ?_)
  unfold Builtin.List.listTouch
  refine wpAny_bind (wpAny_bind (listUpdate_at (s := { s with heap := h1, drawn := d1 }) gL rfl (listUpdate_at (s := { s with heap := h1.update s.heap.objs.size (Obj.mapSeq (·.push .none)), drawn := d1 }) u1 rfl ?_)))
  generalize hh2 : (h1.update s.heap.objs.size (Obj.mapSeq (·.push .none))).update s.heap.objs.size (Obj.mapSeq (·.pop)) = h2 at u2 ⊢
  have keep2 : ∀ b ob, b ≠ s.heap.objs.size → h1.get? b = some ob → h2.get? b = some ob := fun b ob hb e => by
    rw [← hh2, Heap.get?_update_other _ _ (Ne.symm hb), Heap.get?_update_other _ _ (Ne.symm hb)]
    exact e
  have hIs : s.heap.objs.size + 1 ≤ I := by rw [Heap.size_push] at k2; exact k2
  have hSI : S ≠ I := Nat.ne_of_lt (Nat.lt_of_lt_of_le hS (Nat.le_of_succ_le hIs))
  have lo : ord.length = es.size := by rw [st.perm.length_eq, Array.length_toList]
  have W := walk_set (P := P) (w := w) (A := A.in1) (S := S) (I := I) (ord := ord) (o := o) (tl := tl) (by simp [hh]) hd hf hr hSI lo (fun z => (k5 I z).2.2 rfl)
  have hLf : s.heap.objs.size ∉ I :: S :: tl := by
    simp only [List.mem_cons, not_or]
    refine ⟨Nat.ne_of_lt hIs, Nat.ne_of_gt hS, fun z => ?_⟩
    have := (k5 _ z).1
    rw [Heap.size_push] at this
    exact Nat.lt_irrefl _ this
  have st0 : (fun i (h : Heap) => h.get? S = some o ∧ ∃ f, (∀ T, f = .ref T → T ∈ tl) ∧ h.get? I = some (iterO f i S es.size ep) ∧ Stand w S es ep t h i f ord) 0 h2 := by
    refine ⟨keep2 S o (Nat.ne_of_lt hS) g2, f, k4, keep2 I _ (Nat.ne_of_gt hIs) k3, ?_⟩
    cases st with
    | txt b => exact .txt b
    | slo sl b c l e2 => exact .slo sl b c l e2
    | drw T pl b hT hp =>
      obtain ⟨oT, nT, gT, dT⟩ := hT
      refine .drw T pl b ⟨oT, nT, keep2 T oT (fun z => ?_) gT, dT⟩ hp
      have := (k5 T (k4 T rfl)).1
      rw [Heap.size_push, z] at this
      exact Nat.lt_irrefl _ this
  refine wpAny_pure ⟨plainId_quiet F.plain_extend_loop _, codeAny_extend_loopS W.toS (fits_of_scanBound hb) s.heap.objs.size hLf _ es.size 0 { s with heap := h2, drawn := d1 } #[] 2 (by omega) (Nat.zero_le _) st0 (by simpa [seqObj] using u2) (ItemsOf.nil _) fun s' acc c' hm gS' hacc => ?_⟩
  show wpAny _ A (load s.heap.objs.size >>= _) _ _ s'
  refine wpAny_bind (wpAny_load gS' (wpAny_pure ?_))
  have ea : acc.toList = ord.map (·.2) := by
    refine List.ext_getElem? fun j => ?_
    rw [List.getElem?_map, Array.getElem?_toList]
    cases hj : acc[j]? with
    | none =>
      have h1 := Array.getElem?_eq_none_iff.mp hj
      rw [hacc.1] at h1
      rw [List.getElem?_eq_none (by omega)]
      rfl
    | some v =>
      obtain ⟨e, h1, h2⟩ := hacc.2 j v hj
      rw [h1, h2]
      rfl
  rw [ea]
  obtain ⟨h', g', d', tk', os'⟩ := s'
  have e1 : g' = s.gens := hm.gens
  have e2 : d' = d1 := hm.drawn
  have e3 : os' = s.os := hm.os
  subst e1; subst e2; subst e3
  refine hQ h' d' tk' ord (fun b ob e => ?_) ?_ st.perm
  · have hb2 : b ≠ s.heap.objs.size := Nat.ne_of_lt (Heap.lt_size e)
    refine hm.heap b ob ?_ (keep2 b ob hb2 (k1 b ob (Heap.get?_push_of_some _ e)))
    simp only [List.mem_cons, List.mem_singleton, List.not_mem_nil, or_false, not_or]
    exact ⟨hb2, Nat.ne_of_lt (Nat.lt_of_lt_of_le (Heap.lt_size e) (Nat.le_of_succ_le hIs))⟩
  · exact Nat.le_of_lt (Heap.lt_size gS')
end
end FT
set_option Elab.async false
set_option linter.all false
set_option maxRecDepth 100000
set_option maxHeartbeats 1600000
/-! Rules for sets. -/
namespace FT
open PySem PySem.Spec PyProof.Rows L2

theorem key_val {k : Key} {u : Value} (r : RelV (kV k) u) : keyIs k u = true := by
  cases k with
  | inl i => obtain ⟨t, rfl⟩ := r; exact keyIs_int i t
  | inr x => obtain ⟨t, rfl⟩ := r; exact keyIs_str x t
theorem keys_vals : ∀ {ks : List Key} {us : List Value}, Vals (ks.map kV) us → ∀ (i : Nat) u, us[i]? = some u → ∃ k, ks[i]? = some k ∧ keyIs k u = true
  | [], _, h, i, u, e => by cases h; simp at e
  | k :: ks, _, .cons h1 h2, 0, u, e => by simp at e; subst e; exact ⟨k, rfl, key_val h1⟩
  | k :: ks, _, .cons h1 h2, i + 1, u, e => by
    obtain ⟨k', q1, q2⟩ := keys_vals h2 i u (by simpa using e)
    exact ⟨k', by simpa using q1, q2⟩
theorem range_keys (ks : List Key) : (List.range ks.length).map (fun i => (ks[i]?).getD (.inl 0)) = ks := by
  refine List.ext_getElem? fun i => ?_
  rw [List.getElem?_map]
  by_cases h : i < ks.length
  · rw [List.getElem?_range h, List.getElem?_eq_getElem h]
    simp [List.getElem?_eq_getElem h]
  · rw [List.getElem?_eq_none (by simpa using h), List.getElem?_eq_none (by omega)]
    rfl
section
variable {X : Cx}
theorem call_setR (hc : X.calm = true) : CallR X (.type "set") (fun xs H Q => ∃ l ks, xs = [.ref l] ∧ (SqL X.K H l (ks.map kV) ∨ SqT X.K H l (ks.map kV)) ∧ ks.length + 1 < scanBound ∧ ∀ q, H q = none → Q (.ref q) (upd H q (.set (dedK ks)))) := by
  intro pins s σ H xs us Q I r h
  obtain ⟨l, ks, rfl, hq, hb, q⟩ := h
  obtain ⟨u, rfl, ru⟩ := vals1 r
  cases ru
  have hh := I.ok.hd hc
  have go : ∀ {its : List Value} {T : String}, T = "list" ∨ T = "tuple" → Vals (ks.map kV) its → (∃ o, s.heap.get? l = some o ∧ o.cls = .type T ∧ ∃ n, o.data = .seq its.toArray n) → wpAny (model X.prog X.w) X.A (call (.type "set") [.ref l]) (EP X pins σ Q) X.xe s := fun {its T} hT rv hl => by
    have le : its.length = ks.length := by rw [← rv.length, List.length_map]
    refine call_setT (key := fun i => (ks[i]?).getD (.inl 0)) hT hh hl (fun i v e => ?_) (by rw [List.size_toArray, le]; exact hb) fun h' tk S2 kp => ?_
    · obtain ⟨k, e1, e2⟩ := keys_vals rv i v (by simpa using e)
      rw [e1]
      exact e2
    · rw [show its.toArray.size = ks.length by rw [List.size_toArray, le], range_keys] at S2
      exact ⟨.ref s.heap.objs.size, _, I.laid (t' := tk) (o := .set (dedK ks)) kp (Nat.le_refl _) S2, rfl, q _ I.fresh⟩
  rcases hq with hq | hq
  · obtain ⟨its, r', pl, hz⟩ := I.list hq
    exact go (.inl rfl) r' pl.isList
  · obtain ⟨its, r', pl, hz⟩ := I.tuple hq
    exact go (.inr rfl) r' pl
theorem inv_set {pins : List (Addr × Obj)} {σ : L2.St} {H : Hp} {s : Shared} {a : Addr} {ks : List Key} (I : L2.Inv X pins σ H s) (h : H a = some (.set ks)) : SetAt X.w s.heap a ks := I.hok a _ h
theorem op_inS : OpR X (compareOp .In) (fun x y H Q => ∃ k a ks, x = kV k ∧ y = .ref a ∧ H a = some (.set ks) ∧ Q (.bl (decide (k ∈ ks))) H) := by
  intro pins s σ H x y v u Q I rx ry h
  obtain ⟨k, a, ks, rfl, rfl, hH, q⟩ := h
  cases ry
  have hk := key_val rx
  exact wpAny_inSet_of (knd := mixKind X.prog X.w) hk (key_scan hk) (inv_set I hH).setOf ⟨.bl _, H, I.tok _, rfl, q⟩
theorem op_ninS : OpR X (compareOp .NotIn) (fun x y H Q => ∃ k a ks, x = kV k ∧ y = .ref a ∧ H a = some (.set ks) ∧ Q (.bl (!decide (k ∈ ks))) H) := by
  intro pins s σ H x y v u Q I rx ry h
  obtain ⟨k, a, ks, rfl, rfl, hH, q⟩ := h
  cases ry
  have hk := key_val rx
  exact wpAny_notInSet_of (knd := mixKind X.prog X.w) hk (key_scan hk) (inv_set I hH).setOf ⟨.bl _, H, I.tok _, rfl, q⟩
theorem call_lenS : CallR X (.builtin "len") (fun xs H Q => ∃ p ks, xs = [.ref p] ∧ H p = some (.set ks) ∧ Q (.int ks.length) H) := by
  intro pins s σ H xs us Q I r h
  obtain ⟨p, ks, rfl, hH, q⟩ := h
  obtain ⟨u, rfl, ru⟩ := vals1 r
  cases ru
  obtain ⟨o, es, ep, t, ks', h1, h2, h3, h4, h5, h6, h7, h8, h9, _⟩ := inv_set I hH
  have le : es.size = ks.length := by rw [← h5.length_eq, Paired.length h4, Array.length_toList]
  have sm : es.size < 4096 := h7
  exact call_len_set h1 h2 h3 h8 (by omega) ⟨.int ks.length, H, I.tok _, ⟨s.toks + 1, by rw [le]⟩, q⟩
theorem mt_addS : MtR X "set.add" (fun x vs H Q => ∃ a ks k, x = .ref a ∧ vs = [kV k] ∧ H a = some (.set ks) ∧ ks.length + 1 < scanBound ∧ Q .non (upd H a (.set (putK ks k)))) := by
  intro pins s σ H x vs v us Q I rx rv h
  obtain ⟨a, ks, k, rfl, rfl, hH, hb, q⟩ := h
  cases rx
  obtain ⟨u, rfl, ru⟩ := rv.one
  refine call_add (key_val ru) (inv_set I hH) hb fun h' sb S2 => ?_
  obtain ⟨o2, _, _, _, _, g2, _⟩ := id S2
  exact ⟨.non, _, I.write (x := a) (e := a) (o := .set (putK ks k)) (t' := s.toks + 1) (by rw [hH]; trivial) (.inl rfl) (fun b ob hb e => by rw [sb.2 b hb]; exact e) ⟨o2, g2⟩ S2, rfl, q⟩
/-- the numbers of keys -/
theorem ints_of : ∀ {ns : List Int} {l : List (Int × Value)} {w : World} {ks : List Key}, ks = ns.map Sum.inl → Paired (KE w) ks l → IntsAre (l.map (·.2)) ns
  | [], l, w, ks, e, h => by subst e; cases h; exact .nil
  | n :: ns, l, w, ks, e, h => by
    subst e
    cases h with
    | cons h1 h2 =>
      rcases keyIs_shape h1.1 with ⟨i, t, e1, e2⟩ | ⟨x, t, e1, e2⟩
      · cases e1
        rw [List.map_cons, e2]
        exact .cons _ t (ints_of rfl h2)
      · cases e1
theorem perm_inl {ns : List Int} : ∀ {ks : List Key}, ks.Perm (ns.map Sum.inl) → ∃ ms : List Int, ks = ms.map Sum.inl ∧ ms.Perm ns := fun {ks} p => by
  have : ∀ k ∈ ks, ∃ i : Int, k = Sum.inl i := fun k hk => by
    obtain ⟨i, _, e⟩ := List.mem_map.mp (p.mem_iff.mp hk)
    exact ⟨i, e.symm⟩
  have e : ks = (ks.filterMap fun k => match k with | .inl i => some i | .inr _ => none).map Sum.inl := by
    clear p
    induction ks with
    | nil => rfl
    | cons k ks ih =>
      obtain ⟨i, rfl⟩ := this k List.mem_cons_self
      rw [List.filterMap_cons]
      dsimp only
      rw [List.map_cons, ← ih fun k hk => this k (List.mem_cons_of_mem _ hk)]
  refine ⟨_, e, ?_⟩
  have q := p.filterMap fun k => match k with | .inl i => some i | .inr _ => none
  refine q.trans ?_
  rw [List.filterMap_map]
  have : (List.filterMap ((fun k : Key => match k with | .inl i => some i | .inr _ => none) ∘ Sum.inl) ns) = ns := by
    induction ns with
    | nil => rfl
    | cons n ns ih => simp [Function.comp_def]
  rw [this]
theorem call_sortedS (hc : X.calm = true) : CallR X (.builtin "sorted") (fun xs H Q => ∃ a ns, xs = [.ref a] ∧ H a = some (.set (ns.map Sum.inl)) ∧ ns.length < 64 ∧ ∀ q, H q = none → Q (.ref q) (upd H q (.lst ((sortI ns).map V.int)))) := by
  intro pins s σ H xs us Q I r h
  obtain ⟨a, ns, rfl, hH, h64, q⟩ := h
  obtain ⟨u, rfl, ru⟩ := vals1 r
  cases ru
  obtain ⟨o, es, ep, t, ks', h1, h2, h3, h4, h5, h6, h7, h8, h9, h0⟩ := inv_set I hH
  refine Calls.call_function_entry kind_sorted plain_sorted entry_sorted (args_sorted1 _) ?_
  unfold Builtin.«sorted»
  refine wpAny_bind (m := checkCount "sorted" 1 1 _) (wpAny_pure ?_)
  refine wpAny_bind (collect_set (by simp [I.ok.hd hc]) h1 h2 h3 h8 h9 h7 h0 fun h' d' tk ord kp sz pm => ?_)
  obtain ⟨k2, p1, p2⟩ := paired_perm pm h4
  obtain ⟨ms, rfl, pm2⟩ := perm_inl (p1.trans h5)
  have ia := ints_of rfl p2
  have l1 : (ord.map (·.2)).length = ns.length := by rw [← pm2.length_eq, List.length_map, ← Paired.length p2, List.length_map]
  refine wpAny_bind (wpAny_newList ?_ (by rw [l1]; exact Nat.le_of_lt (Nat.lt_of_lt_of_le h64 (by decide))))
  have gL : (h'.push (seqObj "list" (ord.map (·.2)).toArray 0)).get? h'.objs.size = some (seqObj "list" (ord.map (·.2)).toArray 0) := Heap.get?_push_size _ rfl
  refine wpAny_bind (wpAny_holding (wpAny_call_entry slot_list_sort ⟨_, gL, rfl⟩ entry_list_sort (list_sort_tree gL ia (by rw [l1]; exact h64) fun out ns' a1 a2 a3 => ⟨_, rfl, ?_⟩) (args_list_sort _)))
  refine wpAny_pure ⟨_, rfl, ?_⟩
  obtain ⟨e, ge⟩ := sortedHeap_at (out := out) gL
  have es' : ns' = sortI ns := sortI_eq (a2.trans pm2) a3
  subst es'
  have un : ∀ b ob, s.heap.get? b = some ob → (sortedHeap (h'.push (seqObj "list" (ord.map (·.2)).toArray 0)) h'.objs.size (ord.map (·.2)) out).get? b = some ob := fun b ob eb => by
    have lt := Heap.lt_size (kp b ob eb)
    rw [sortedHeap_old (Nat.ne_of_lt lt) (by rw [Heap.size_push]; exact Nat.lt_succ_of_lt lt)]
    exact Heap.get?_push_of_some _ (kp b ob eb)
  have ho := I.hok.laid (a := h'.objs.size) (o := .lst ((sortI ns).map V.int)) un sz ⟨by rw [List.length_map, (sortI_perm ns).length_eq]; exact Nat.le_of_lt (Nat.lt_of_lt_of_le h64 (by decide)), out.toList, e, are_ints a1, ge⟩
  exact ⟨.ref h'.objs.size, _, I.call' (s' := { s with heap := _, drawn := d', toks := tk }) (ch := []) rfl (Un.laid un sz (I.hok.fresh sz)) ho I.bare (fun b z => absurd z (by simp)), rfl, q _ (I.hok.fresh sz)⟩
end
end FT
set_option Elab.async false
set_option linter.all false
set_option maxRecDepth 100000
set_option maxHeartbeats 1600000
namespace FT
open PySem PySem.Spec PyProof.Rows L2

section
variable {P : Program} {w : World} {A : Around} {E : Value → Shared → Prop} {s : Shared}
theorem disp_core {b : Bool} {t : Sem Value} {Q : Value → Shared → Prop} (h : wpAny (model P w) A t (fun v s' => wpAny (model P w) A (setAdd s.heap.objs.size v) (fun _ s2 => Q (.ref s.heap.objs.size) s2) E s') E { s with heap := s.heap.push (freshS w) }) :
    wpAny (model P w) A (setDisplay .oneByOne b [(false, t)]) Q E s := by
  unfold setDisplay
  try dsimp only
  rw [if_neg (by decide)]
  refine wpAny_bind (newS ?_)
  dsimp only
  rw [show (if [(false, t)].length > 30 then 0 else ([(false, t)].findIdx? (·.1)).getD [(false, t)].length) = 1 by rfl]
  refine wpAny_bind (wpAny_holding ?_)
  show wpAny _ _ (evalAll [t] >>= _) _ _ _
  have one : evalAll [t] = (do let v ← t; let vs ← holding [v] (evalAll []); pure (v :: vs)) := rfl
  rw [one]
  refine wpAny_bind (wpAny_bind (wpAny_mono h (fun v s1 h1 => ?_) fun _ _ x => x))
  refine wpAny_bind (wpAny_holding (wpAny_pure (wpAny_pure ?_)))
  refine wpAny_bind (wpAny_holding ?_)
  rw [List.forIn_cons]
  refine wpAny_bind (wpAny_bind (wpAny_bind (wpAny_mono h1 (fun b s2 h2 => wpAny_pure ?_) fun _ _ x => x)))
  show wpAny _ _ (forIn ([] : List Value) PUnit.unit _) _ _ _
  rw [List.forIn_nil]
  refine wpAny_pure ?_
  rw [if_neg (by decide)]
  refine wpAny_pure ?_
  show wpAny _ _ (forIn ([] : List (Bool × Sem Value)) PUnit.unit _ >>= _) _ _ _
  rw [List.forIn_nil]
  exact wpAny_bind (wpAny_pure (wpAny_pure (wpAny_pure h2)))
theorem code_main {K : PySem.W.Frag} {env : Env} {q : Str} {Q : Bool → Shared → Prop} (X : K.In s.heap) (hc : PySem.W.codeIn K env.code q = true) (h : ∀ b, Q b s) : wpAny (model P w) A (inMainModule env) Q E s := by
  refine PySem.W.kds_main X ?_ h
  unfold PySem.W.codeIn at hc
  unfold PySem.W.kdsCode
  split at hc
  · rename_i c hcode
    split at hc
    · rename_i ho
      rw [hcode]
      dsimp only
      rw [ho]
    · cases hc
  · cases hc
end

/-! ### data -/
def keyD : D → Option Key
  | .int i => some (.inl i)
  | .str x => some (.inr x)
  | _ => none
def keysD : List D → Option (List Key)
  | [] => some []
  | d :: r => match keyD d, keysD r with
    | some k, some ks => some (k :: ks)
    | _, _ => none
theorem key_rel {K : PySem.W.Frag} {ρ : List Addr} {H : Hp} {d : D} {k : Key} {v : V} (e : keyD d = some k) (r : RD K ρ H d v) : v = kV k := by
  cases d <;> first | (simp only [keyD] at e; cases e; done) | skip
  · simp only [keyD, Option.some.injEq] at e; subst e; simp only [RD] at r; exact r
  · simp only [keyD, Option.some.injEq] at e; subst e; simp only [RD] at r; exact r
theorem keys_rel {K : PySem.W.Frag} {ρ : List Addr} {H : Hp} : ∀ {ds : List D} {ks : List Key} {vs : List V}, keysD ds = some ks → RDs K ρ H ds vs → vs = ks.map kV
  | [], ks, vs, e, r => by simp only [RDs] at r; cases e; subst r; rfl
  | d :: ds, ks, vs, e, r => by
    simp only [RDs] at r
    obtain ⟨v, r2, rfl, h1, h2⟩ := r
    rw [keysD] at e
    cases e1 : keyD d with
    | none => rw [e1] at e; cases e
    | some k =>
      rw [e1] at e
      cases e2 : keysD ds with
      | none => rw [e2] at e; cases e
      | some ks' =>
        rw [e2] at e
        cases e
        rw [key_rel e1 h1, keys_rel e2 h2]
        rfl
def getS (n : Nat) : M (List Key) := fun h => match h[n]? with
  | some (.set ks) => .ok ks h
  | _ => .bad
def newSet (ks : List Key) : M D := fun h => .ok (.ref h.length) (h ++ [.set ks])
def fSetOf : List D → M D
  | [x] => do
    let xs ← seqD x
    match keysD xs with
    | some ks => if ks.length + 1 < 4096 then newSet (dedK ks) else bad
    | none => bad
  | _ => bad
def fInS (neg : Bool) : D → D → M D := fun x y => match y with
  | .ref n => do
    let ks ← getS n
    match keyD x with
    | some k => pure (.bl (decide (k ∈ ks) != neg))
    | none => bad
  | _ => bad
def fLenS : List D → M D
  | [.ref n] => do
    let ks ← getS n
    pure (.int ks.length)
  | _ => bad
def intsK : List Key → Option (List Int)
  | [] => some []
  | .inl i :: r => (intsK r).map (i :: ·)
  | .inr _ :: _ => none
theorem intsK_eq : ∀ {ks : List Key} {ns : List Int}, intsK ks = some ns → ks = ns.map Sum.inl
  | [], ns, e => by cases e; rfl
  | .inl i :: r, ns, e => by
    rw [intsK] at e
    obtain ⟨ms, e1, rfl⟩ := Option.map_eq_some_iff.mp e
    rw [intsK_eq e1]
    rfl
  | .inr _ :: _, ns, e => by rw [intsK] at e; cases e
def fSortedS : List D → M D
  | [.ref n] => do
    let ks ← getS n
    match intsK ks with
    | some ns => if ns.length < 64 then newL ((sortI ns).map .int) else bad
    | none => bad
  | _ => bad
def asSet : D → M Nat
  | .ref n => fun h => match h[n]? with
    | some (.set _) => .ok n h
    | _ => .bad
  | _ => bad
def fAddS (n : Nat) (v : D) : M D := fun h => match h[n]? with
  | some (.set ks) => (match keyD v with
    | some k => if ks.length + 1 < 4096 then .ok .non (h.set n (.set (putK ks k))) else .bad
    | none => .bad)
  | _ => .bad
def eMS (f : Nat → D → M D) (mo ma : G → M D) : G → M D := fun γ => do
  let o ← mo γ
  let n ← asSet o
  let v ← ma γ
  f n v
def eSet1 (ma : G → M D) : G → M D := fun γ => do
  let o ← newSet []
  let n ← asSet o
  let v ← ma γ
  let _ ← fAddS n v
  pure (.ref n)
section
variable {X : Cx} {EX : XX} {a o : Expr} {p pos apos cpos : Pos} {ma mo : G → M D} {mr : G → M (List D)}
theorem getS_rel {K : PySem.W.Frag} {ρ : List Addr} {h : AH} {H : Hp} {n : Nat} {q : Addr} {Z : List Key → List Addr → AH → Hp → Prop} (r : RH K ρ h H) (hq : ρ[n]? = some q) (f : Fin K EX ρ H Z (getS n h)) : ∃ ks, H q = some (.set ks) ∧ Z ks ρ h H := by
  unfold getS at f
  cases e : h[n]? with
  | none => rw [e] at f; exact f.elim
  | some ob =>
    cases ob with
    | lst xs => rw [e] at f; exact f.elim
    | set ks =>
      rw [e] at f
      obtain ⟨a1, n1, o1⟩ := r.at e
      rw [hq] at n1; cases n1
      exact ⟨ks, o1, f ρ H (Pre.refl _) (Ext.refl _ _) r⟩
theorem newSet_rel {K : PySem.W.Frag} {ρ : List Addr} {h : AH} {H : Hp} {ks : List Key} {Q : VK} {q : Addr} (r : RH K ρ h H) (hq : H q = none) (f : FE K EX ρ H Q (newSet ks h)) : Q (.ref q) (upd H q (.set ks)) := by
  refine f (ρ ++ [q]) _ (Pre.app _ _) (Ext.upd (.inl hq)) (r.pushS hq) (.ref q) ?_
  simp only [RD]
  exact ⟨q, rfl, by rw [← r.len]; simp⟩
theorem ar_set : AR X.K EX (fun xs H Q => ∃ l ks, xs = [.ref l] ∧ (SqL X.K H l (ks.map kV) ∨ SqT X.K H l (ks.map kV)) ∧ ks.length + 1 < scanBound ∧ ∀ q, H q = none → Q (.ref q) (upd H q (.set (dedK ks)))) fSetOf := by
  intro ρ h H ds vs Q r rd fin
  unfold fSetOf at fin
  split at fin
  · rename_i x
    obtain ⟨v, rfl, rv⟩ := rds1 rd
    have f1 := Fin.bind fin
    cases e : seqD x h with
    | bad => rw [e] at f1; exact f1.elim
    | err z hz => exact (seqD_no e).elim
    | ok ys h1 =>
      obtain ⟨rfl, p, xs, rfl, hs, hd⟩ := seqD_rel r rv e
      rw [e] at f1
      have f2 := f1 ρ H (Pre.refl _) (Ext.refl _ _) r
      dsimp only at f2
      cases e2 : keysD ys with
      | none => rw [e2] at f2; exact f2.elim
      | some ks =>
        rw [e2] at f2
        dsimp only at f2
        split at f2
        · rename_i hl
          have ek := keys_rel e2 hd
          subst ek
          exact ⟨p, ks, rfl, hs, hl, fun q hq => newSet_rel r hq f2⟩
        · exact f2.elim
  · exact fin.elim
theorem se_setof (hc : X.calm = true) (hg : Gl X "set") (hm : X.mg "set" = none) (ha : SA X EX [a] mr) (he : starEach [a] X.env = [(false, eval a X.env)] := by rfl) : SE X EX (.Call (.Name "set" p) [a] [] pos) (eCall fSetOf mr) :=
  se_args (pe_callTy (call_setR hc) hg hm (by decide +kernel) ha.h (by decide) (by decide) he rfl) ar_set
theorem br_inS {K : PySem.W.Frag} : BR K EX (fun x y H Q => ∃ k a ks, x = kV k ∧ y = .ref a ∧ H a = some (.set ks) ∧ Q (.bl (decide (k ∈ ks))) H) (fInS false) := by
  intro ρ h H x y v u Q r rx ry fin
  cases y <;> first | exact (show False from fin).elim | skip
  rename_i n
  simp only [RD] at ry
  obtain ⟨q, rfl, hq⟩ := ry
  obtain ⟨ks, h1, f2⟩ := getS_rel r hq (Fin.bind fin)
  cases e : keyD x with
  | none => rw [e] at f2; exact f2.elim
  | some k =>
    rw [e] at f2
    refine ⟨k, q, ks, key_rel e rx, rfl, h1, ?_⟩
    have := f2 ρ H (Pre.refl _) (Ext.refl _ _) r (.bl (decide (k ∈ ks) != false)) (by simp [RD])
    simpa using this
theorem br_ninS {K : PySem.W.Frag} : BR K EX (fun x y H Q => ∃ k a ks, x = kV k ∧ y = .ref a ∧ H a = some (.set ks) ∧ Q (.bl (!decide (k ∈ ks))) H) (fInS true) := by
  intro ρ h H x y v u Q r rx ry fin
  cases y <;> first | exact (show False from fin).elim | skip
  rename_i n
  simp only [RD] at ry
  obtain ⟨q, rfl, hq⟩ := ry
  obtain ⟨ks, h1, f2⟩ := getS_rel r hq (Fin.bind fin)
  cases e : keyD x with
  | none => rw [e] at f2; exact f2.elim
  | some k =>
    rw [e] at f2
    refine ⟨k, q, ks, key_rel e rx, rfl, h1, ?_⟩
    have := f2 ρ H (Pre.refl _) (Ext.refl _ _) r (.bl (decide (k ∈ ks) != true)) (by simp [RD])
    simpa using this
theorem co_inS : CO X EX .In (fInS false) := ⟨_, op_inS, br_inS⟩
theorem co_ninS : CO X EX .NotIn (fInS true) := ⟨_, op_ninS, br_ninS⟩
theorem ar_lenS : AR X.K EX (fun xs H Q => ∃ p ks, xs = [.ref p] ∧ H p = some (.set ks) ∧ Q (.int ks.length) H) fLenS := by
  intro ρ h H ds vs Q r rd fin
  unfold fLenS at fin
  split at fin
  · rename_i n
    obtain ⟨v, rfl, rv⟩ := rds1 rd
    simp only [RD] at rv
    obtain ⟨q, rfl, hq⟩ := rv
    obtain ⟨ks, h1, f2⟩ := getS_rel r hq (Fin.bind fin)
    exact ⟨q, ks, rfl, h1, f2 ρ H (Pre.refl _) (Ext.refl _ _) r _ (by simp [RD])⟩
  · exact fin.elim
theorem se_lenS (hg : Gl X "len") (hm : X.mg "len" = none) (ha : SA X EX [a] mr) (he : starEach [a] X.env = [(false, eval a X.env)] := by rfl) : SE X EX (.Call (.Name "len" p) [a] [] pos) (eCall fLenS mr) :=
  se_args (pe_callB call_lenS hg hm PySem.boot_len ha.h (by decide) (by decide) he rfl) ar_lenS
theorem ar_sortedS : AR X.K EX (fun xs H Q => ∃ a ns, xs = [.ref a] ∧ H a = some (.set (ns.map Sum.inl)) ∧ ns.length < 64 ∧ ∀ q, H q = none → Q (.ref q) (upd H q (.lst ((sortI ns).map V.int)))) fSortedS := by
  intro ρ h H ds vs Q r rd fin
  unfold fSortedS at fin
  split at fin
  · rename_i n
    obtain ⟨v, rfl, rv⟩ := rds1 rd
    simp only [RD] at rv
    obtain ⟨q, rfl, hq⟩ := rv
    obtain ⟨ks, h1, f2⟩ := getS_rel r hq (Fin.bind fin)
    cases e : intsK ks with
    | none => rw [e] at f2; exact f2.elim
    | some ns =>
      rw [e] at f2
      dsimp only at f2
      split at f2
      · rename_i hl
        refine ⟨q, ns, rfl, by rw [h1, intsK_eq e], hl, fun l hl2 => ?_⟩
        unfold newL at f2
        split at f2
        · refine f2 (ρ ++ [l]) _ (Pre.app _ _) (Ext.upd (.inl hl2)) (r.push hl2 ?_) (.ref l) ?_
          · have : ∀ ms : List Int, RDs X.K ρ H (ms.map D.int) (ms.map V.int) := fun ms => by
              induction ms with
              | nil => exact RDs.nil
              | cons m ms ih => exact RDs.cons (by simp [RD]) ih
            exact this _
          · simp only [RD]
            exact ⟨l, rfl, by rw [← r.len]; simp⟩
        · exact f2.elim
      · exact f2.elim
  · exact fin.elim
theorem se_sortedS (hc : X.calm = true) (hg : Gl X "sorted") (hm : X.mg "sorted" = none) (ha : SA X EX [a] mr) (he : starEach [a] X.env = [(false, eval a X.env)] := by rfl) : SE X EX (.Call (.Name "sorted" p) [a] [] pos) (eCall fSortedS mr) :=
  se_args (pe_callB (call_sortedS hc) hg hm boot_sorted ha.h (by decide) (by decide) he rfl) ar_sortedS
theorem set_ty {K : PySem.W.Frag} {ρ : List Addr} {h : AH} {H : Hp} {n : Nat} {q : Addr} {Z : Nat → List Addr → AH → Hp → Prop} (r : RH K ρ h H) (hq : ρ[n]? = some q) (f : Fin K EX ρ H Z (asSet (.ref n) h)) : tyV K "set" (.ref q) H ∧ Z n ρ h H := by
  unfold asSet at f
  dsimp only at f
  cases e : h[n]? with
  | none => rw [e] at f; exact f.elim
  | some ob =>
    cases ob with
    | lst xs => rw [e] at f; exact f.elim
    | set ks =>
      rw [e] at f
      obtain ⟨a1, n1, o1⟩ := r.at e
      rw [hq] at n1; cases n1
      exact ⟨.inr (.inr (.inr ⟨rfl, ks, o1⟩)), f ρ H (Pre.refl _) (Ext.refl _ _) r⟩
theorem se_addS (ho : SE X EX o mo) (ha : SE X EX a ma)
    (hbase : attributeBase o "add" X.env (eval o X.env) = eval o X.env := by rfl)
    (hfew : ((backTo cpos (starEach [a] X.env)).all (fun x => !x.1) && (backToKw cpos (keywordEach [] X.env)).all (fun x => x.1.isSome)
      && decide (([a] : List Expr).length + ([] : List Keyword).length + (if ([] : List Keyword).isEmpty then 0 else 1) < 30)) = true := by rfl)
    (hline : (apos.endLine == cpos.line) = true := by rfl) (hs : starEach [a] X.env = [(false, eval a X.env)] := by rfl) :
    SE X EX (.Call (.Attribute o "add" apos) [a] [] cpos) (eMS fAddS mo ma) :=
  ⟨PE.imp (pe_bm PySem.F.plainAttrs_set PySem.F.slot_set_add PySem.F.type_set_add mt_addS ho.h (pa_cons ha.h pa_nil hs) hbase hfew hline hs rfl) fun σ H Q ⟨ρ, γ, h, rel, fin⟩ => ⟨ρ, γ, h, rel, (Fin.bind fin).mono fun x ρ1 h1 H1 p1 e1 r1 f1 v rv => by
    have f2 := Fin.bind f1
    cases x <;> first | exact (show False from f2).elim | skip
    rename_i n
    simp only [RD] at rv
    obtain ⟨q, rfl, hq⟩ := rv
    obtain ⟨lt, f3⟩ := set_ty r1 hq f2
    refine ⟨lt, ρ1, γ, h1, ⟨rel.g.mono p1 e1, r1⟩, (Fin.bind f3).mono fun y ρ2 h2 H2 p2 e2 r2 f4 u ru => ?_⟩
    unfold fAddS at f4
    cases e : h2[n]? with
    | none => rw [e] at f4; exact f4.elim
    | some ob =>
      cases ob with
      | lst xs => rw [e] at f4; exact f4.elim
      | set ks =>
        rw [e] at f4
        dsimp only at f4
        obtain ⟨a1, n1, o1⟩ := r2.at e
        rw [p2 n q hq] at n1; cases n1
        cases e3 : keyD y with
        | none => rw [e3] at f4; exact f4.elim
        | some k =>
          rw [e3] at f4
          dsimp only at f4
          split at f4
          · rename_i hl
            refine ⟨q, ks, k, rfl, by rw [key_rel e3 ru], o1, hl, ?_⟩
            exact f4 ρ2 _ (Pre.refl _) (Ext.upd (.inr ⟨_, o1, trivial⟩)) (r2.setS e (p2 n q hq)) .non (by simp [RD])
          · exact f4.elim⟩⟩
theorem se_set1 {q : Str} {kk : Nat} (hcd : PySem.W.codeIn X.K X.env.code q = true) (ha : SE X EX a ma) (hk : displayRoad kk [a] = .oneByOne := by rfl) (hs : starEach [a] X.env = [(false, eval a X.env)] := by rfl) : SE X EX (.Set [a] kk pos) (eSet1 ma) :=
  ⟨fun pins s σ H Q I ⟨ρ, γ, h, rel, fin⟩ => by
    rw [arm_eval_Set]
    refine wpAny_bind (wpAny_standAt ?_)
    refine wpAny_bind (code_main I.kIn hcd fun b => ?_)
    rw [hs, hk]
    refine disp_core ?_
    have hf := I.fresh
    have I0 : L2.Inv X pins σ (upd H s.heap.objs.size (.set [])) { s with heap := s.heap.push (freshS X.w) } := I.laid (t' := s.toks) (o := .set []) (fun _ _ e => Heap.get?_push_of_some _ e) (Nat.le_refl _) fresh_at
    have f0 := Fin.bind fin
    have rh0 : RH X.K (ρ ++ [s.heap.objs.size]) (h ++ [.set []]) (upd H s.heap.objs.size (.set [])) := rel.h.pushS hf
    have ex0 : Ext X.K H (upd H s.heap.objs.size (.set [])) := Ext.upd (.inl hf)
    have f1 := f0 (ρ ++ [s.heap.objs.size]) _ (Pre.app _ _) ex0 rh0
    have hn : (ρ ++ [s.heap.objs.size])[h.length]? = some s.heap.objs.size := by rw [← rel.h.len]; simp
    obtain ⟨_, f2⟩ := set_ty rh0 hn (Fin.bind f1)
    have st : Rel X.K (ρ ++ [s.heap.objs.size]) γ (h ++ [.set []]) σ (upd H s.heap.objs.size (.set [])) := ⟨rel.g.mono (Pre.app _ _) ex0, rh0⟩
    refine wpAny_bind (thn (ha.h pins _ σ _ (fun v H1 => ∃ d ρ2 h2, RD X.K ρ2 H1 d v ∧ RH X.K ρ2 h2 H1 ∧ Pre (ρ ++ [s.heap.objs.size]) ρ2 ∧ Fin X.K EX ρ2 H1 (fun d' ρ' _ H' => ∀ v, RD X.K ρ' H' d' v → Q v H') ((fAddS h.length d >>= fun _ => pure (.ref h.length)) h2)) I0
      ⟨_, γ, _, st, (Fin.bind f2).mono fun d ρ2 h2 H2 p2 e2 r2 f3 v rv => ⟨d, ρ2, h2, rv, r2, p2, f3⟩⟩) fun u s1 ⟨v, H1, I1, rv, d, ρ2, h2, rd, r2, p2, f3⟩ => wpAny_bind (wpAny_standAt (wpAny_pure ?_)))
    have f4 := Fin.bind f3
    unfold fAddS at f4
    cases e : h2[h.length]? with
    | none => rw [e] at f4; exact f4.elim
    | some ob =>
      cases ob with
      | lst xs => rw [e] at f4; exact f4.elim
      | set ks =>
        rw [e] at f4
        dsimp only at f4
        obtain ⟨a1, n1, o1⟩ := r2.at e
        have hq2 := p2 _ _ hn
        rw [hq2] at n1; cases n1
        cases e3 : keyD d with
        | none => rw [e3] at f4; exact f4.elim
        | some k =>
          rw [e3] at f4
          dsimp only at f4
          split at f4
          · rename_i hl
            have vk := key_rel e3 rd
            subst vk
            refine setAdd_at (key_val rv) (inv_set I1 o1) hl fun h' b sb S2 => ?_
            obtain ⟨o2, _, _, _, _, g2, _⟩ := id S2
            have ext : Ext X.K H1 (upd H1 s.heap.objs.size (.set (putK ks k))) := Ext.upd (.inr ⟨_, o1, trivial⟩)
            have r3 := r2.setS (ks := putK ks k) e hq2
            have f5 := f4 ρ2 _ (Pre.refl _) ext r3
            refine ⟨.ref s.heap.objs.size, _, I1.write (x := s.heap.objs.size) (e := s.heap.objs.size) (o := .set (putK ks k)) (t' := s1.toks + 1) (by rw [o1]; trivial) (.inl rfl) (fun b ob hb e => by rw [sb.2 b hb]; exact e) ⟨o2, g2⟩ S2, rfl, ?_⟩
            exact f5 ρ2 _ (Pre.refl _) (Ext.refl _ _) r3 (.ref s.heap.objs.size) (by simp only [RD]; exact ⟨_, rfl, hq2⟩)
          · exact f4.elim⟩
end
/-- a def, its code's record told -/
theorem fn_mkC {P : Program} {w : World} {K : PySem.W.Frag} {mg : Str → Option Value} {base : Heap} {x : Str} {st : Stmt} {f : Addr} {fd : FuncData} {N ps : List Str} {k n : Nat} {mb : G → M Out} (F : Fun K x x st f fd) (S : FnScope N ps (defScope st)) (hb : Binds K fd ps []) (mx : mg x = some (.ref f)) (hn : ps.length = n)
    (body : ∀ (cdv : Value) (A : Around) (outer : List Env) (s : Shared) (H : Hp) (E : XK), PySem.W.codeIn K cdv x = true → Room k (A.deeper (envOfC x (defScope st) s.heap.objs.size f cdv)) →
      SB (cxOf CX0 P w K mg base N x (defScope st) f cdv A outer s H E).nox EX0 (defBody st) mb) : Fn P w K mg base (k + 1) x n (runF N.length mb) := by
  refine ⟨f, fd, ps, ?_, hb, F.kp, mx⟩
  obtain ⟨oc, od, kV, doc, pm, an, cdv, ct, osl, rfl, lk, hcd⟩ := F.ex
  refine fn_of lk hcd S (fun vs H Q E h => h.1.trans hn.symm) fun A outer s H vs Q E hr h => ?_
  obtain ⟨hl, ρ, ds, h, rh, rd, fin⟩ := h
  refine ⟨_, (body cdv A outer s H E hcd hr).h.nox, ρ, startG N.length ds, h, ⟨start_rel rd, rh⟩, ?_⟩
  refine (Fin.bind fin).mono fun o ρ1 h1 H1 p1 e1 r1 f1 => ?_
  cases o with
  | nx γ => exact fun σ _ => FE.here (d := .non) (h := h1) f1 r1 (by simp [RD])
  | rt d => exact fun v rv => f1 ρ1 H1 (Pre.refl _) (Ext.refl _ _) r1 v rv
  | bk γ => exact (show False from f1).elim
  | ct γ => exact (show False from f1).elim
end FT
set_option Elab.async false
set_option linter.all false
set_option maxRecDepth 100000
set_option maxHeartbeats 1600000
/-! Lists of plain things, equal or not. -/
namespace FT
open PySem PySem.Spec PyProof.Rows L2

def eqVs (xs ys : List V) : Bool := decide (xs.length = ys.length) && (List.range xs.length).all fun j => eqV (xs.getD j .non) (ys.getD j .non)
section
variable {X : Cx}
theorem eqAt_list {s : Shared} {A : Around} {xs ys : List V} {its its2 : List Value} (r1 : Vals xs its) (r2 : Vals ys its2) (f1 : xs.all flatV = true) (f2 : ys.all flatV = true) (j : Nat) (h1 : j < its.toArray.size) (h2 : j < its2.toArray.size) :
    SeqAt.EqAt A s its.toArray[j] its2.toArray[j] (eqV (xs.getD j .non) (ys.getD j .non)) := by
  have l1 := r1.length
  have l2 := r2.length
  have j1 : j < xs.length := by simpa [l1] using h1
  have j2 : j < ys.length := by simpa [l2] using h2
  have e1 : xs[j]? = some xs[j] := List.getElem?_eq_getElem j1
  have e2 : ys[j]? = some ys[j] := List.getElem?_eq_getElem j2
  obtain ⟨u, a1, a2⟩ := r1.get e1
  obtain ⟨v, b1, b2⟩ := r2.get e2
  have c1 : its.toArray[j] = u := by
    have := List.getElem?_eq_getElem (l := its) (i := j) (by simpa using h1)
    rw [a1] at this
    simpa using (Option.some.inj this).symm
  have c2 : its2.toArray[j] = v := by
    have := List.getElem?_eq_getElem (l := its2) (i := j) (by simpa using h2)
    rw [b1] at this
    simpa using (Option.some.inj this).symm
  rw [c1, c2, List.getD_eq_getElem?_getD, List.getD_eq_getElem?_getD, e1, e2]
  exact eqAt_V a2 b2 (List.all_eq_true.mp f1 _ (List.getElem_mem j1)) (List.all_eq_true.mp f2 _ (List.getElem_mem j2))
def rEqL (K : PySem.W.Frag) (neg : Bool) : R2 := fun x y H Q => ∃ p q xs ys, x = .ref p ∧ y = .ref q ∧ SqL K H p xs ∧ SqL K H q ys ∧ xs.all flatV = true ∧ ys.all flatV = true ∧ Q (.bl (eqVs xs ys != neg)) H
theorem op_eqL (hu : X.A.units < cLine) : OpR X (compareOp .Eq) (rEqL X.K false) := by
  intro pins s σ H x y v u Q I rx ry h
  obtain ⟨p, q, xs, ys, rfl, rfl, h1, h2, f1, f2, q'⟩ := h
  cases rx; cases ry
  obtain ⟨its, r1, pl1, z1⟩ := I.list h1
  obtain ⟨its2, r2, pl2, z2⟩ := I.list h2
  have l1 := r1.length
  have l2 := r2.length
  unfold eqVs at q'
  by_cases hl : xs.length = ys.length
  · rw [decide_eq_true hl, Bool.true_and, Bool.bne_false] at q'
    refine SeqAt.eq_listAt (e := fun j => eqV (xs.getD j .non) (ys.getD j .non)) pl1.isList pl2.isList (by simp only [List.size_toArray]; omega) hu (fun j a b => eqAt_list r1 r2 f1 f2 j a b) ⟨.bl _, H, I, rfl, ?_⟩
    rw [List.size_toArray, ← l1]
    exact q'
  · rw [decide_eq_false hl, Bool.false_and, Bool.bne_false] at q'
    exact SeqAt.eq_list_lengthsAt pl1.isList pl2.isList (by simp only [List.size_toArray, bne_iff_ne]; omega) hu ⟨.bl _, H, I, rfl, q'⟩
theorem op_neL (hu : X.A.units < cLine) : OpR X (compareOp .NotEq) (rEqL X.K true) := by
  intro pins s σ H x y v u Q I rx ry h
  obtain ⟨p, q, xs, ys, rfl, rfl, h1, h2, f1, f2, q'⟩ := h
  cases rx; cases ry
  obtain ⟨its, r1, pl1, z1⟩ := I.list h1
  obtain ⟨its2, r2, pl2, z2⟩ := I.list h2
  have l1 := r1.length
  have l2 := r2.length
  unfold eqVs at q'
  by_cases hl : xs.length = ys.length
  · rw [decide_eq_true hl, Bool.true_and] at q'
    refine SeqAt.RcNeAt.lists (e := fun j => eqV (xs.getD j .non) (ys.getD j .non)) pl1.isList pl2.isList (by simp only [List.size_toArray]; omega) hu (fun j a b => eqAt_list r1 r2 f1 f2 j a b) X.prog X.w X.xe (EP X pins σ Q) ⟨.bl _, H, I, rfl, ?_⟩
    rw [List.size_toArray, ← l1]
    simpa using q'
  · rw [decide_eq_false hl, Bool.false_and] at q'
    exact SeqAt.RcNeAt.lists_lengths pl1.isList pl2.isList (by simp only [List.size_toArray, bne_iff_ne]; omega) hu X.prog X.w X.xe (EP X pins σ Q) ⟨.bl _, H, I, rfl, q'⟩
end
def eqDs (xs ys : List D) : Bool := decide (xs.length = ys.length) && (List.range xs.length).all fun j => eqF (xs.getD j .non) (ys.getD j .non)
def lstD : D → M (List D)
  | .fl xs => pure xs
  | .ref n => getL n
  | _ => bad
def fEqL (neg : Bool) : D → D → M D := fun x y => do
  let xs ← lstD x
  let ys ← lstD y
  if xs.all flatD && ys.all flatD then pure (.bl (eqDs xs ys != neg)) else bad
section
variable {X : Cx} {EX : XX}
theorem lstD_rel {K : PySem.W.Frag} {ρ : List Addr} {h : AH} {H : Hp} {y : D} {u : V} {Z : List D → List Addr → AH → Hp → Prop} (r : RH K ρ h H) (ry : RD K ρ H y u) (f : Fin K EX ρ H Z (lstD y h)) : ∃ ys p xs, u = .ref p ∧ SqL K H p xs ∧ RDs K ρ H ys xs ∧ Z ys ρ h H := by
  cases y <;> first | exact (show False from f).elim | skip
  · rename_i xs
    simp only [RD] at ry
    obtain ⟨a, vs, rfl, h1, h2⟩ := ry
    exact ⟨xs, a, vs, rfl, h1.sq, h2, f ρ H (Pre.refl _) (Ext.refl _ _) r⟩
  · rename_i n
    simp only [RD] at ry
    obtain ⟨a, rfl, hq⟩ := ry
    unfold lstD getL at f
    dsimp only at f
    cases e : h[n]? with
    | none => rw [e] at f; exact f.elim
    | some ob =>
      cases ob with
      | set ks => rw [e] at f; exact f.elim
      | lst xs =>
        rw [e] at f
        obtain ⟨a1, n1, vs, o1, d1⟩ := r.at e
        rw [hq] at n1; cases n1
        exact ⟨xs, a, vs, rfl, SqL.of o1, d1, f ρ H (Pre.refl _) (Ext.refl _ _) r⟩
theorem eqDs_rel {K : PySem.W.Frag} {ρ : List Addr} {H : Hp} {xs ys : List D} {vs ws : List V} (h1 : RDs K ρ H xs vs) (h2 : RDs K ρ H ys ws) (f1 : xs.all flatD = true) (f2 : ys.all flatD = true) : eqVs vs ws = eqDs xs ys := by
  unfold eqVs eqDs
  rw [← h1.length, ← h2.length]
  by_cases hl : xs.length = ys.length
  · rw [decide_eq_true hl, Bool.true_and, Bool.true_and]
    rw [Bool.eq_iff_iff, List.all_eq_true, List.all_eq_true]
    have key : ∀ j ∈ List.range xs.length, eqV (vs.getD j .non) (ws.getD j .non) = eqF (xs.getD j .non) (ys.getD j .non) := fun j hj => by
      have j1 : j < xs.length := by simpa using hj
      have j2 : j < ys.length := by omega
      have e1 : xs[j]? = some xs[j] := List.getElem?_eq_getElem j1
      have e2 : ys[j]? = some ys[j] := List.getElem?_eq_getElem j2
      obtain ⟨v, a1, a2⟩ := h1.get e1
      obtain ⟨w, b1, b2⟩ := h2.get e2
      rw [List.getD_eq_getElem?_getD, List.getD_eq_getElem?_getD, List.getD_eq_getElem?_getD, List.getD_eq_getElem?_getD, a1, b1, e1, e2]
      exact eqF_rel (List.all_eq_true.mp f1 _ (List.getElem_mem j1)) (List.all_eq_true.mp f2 _ (List.getElem_mem j2)) a2 b2
    exact ⟨fun q j hj => by rw [← key j hj]; exact q j hj, fun q j hj => by rw [key j hj]; exact q j hj⟩
  · rw [decide_eq_false hl, Bool.false_and, Bool.false_and]
theorem br_eqL {K : PySem.W.Frag} {neg : Bool} : BR K EX (rEqL K neg) (fEqL neg) := by
  intro ρ h H x y v u Q r rx ry fin
  obtain ⟨xs, p, vs, rfl, s1, d1, f1⟩ := lstD_rel r rx (Fin.bind fin)
  obtain ⟨ys, q, ws, rfl, s2, d2, f2⟩ := lstD_rel r ry (Fin.bind f1)
  split at f2
  · rename_i hc
    rw [Bool.and_eq_true] at hc
    refine ⟨p, q, vs, ws, rfl, rfl, s1, s2, flats_rel d1 hc.1, flats_rel d2 hc.2, ?_⟩
    rw [eqDs_rel d1 d2 hc.1 hc.2]
    exact f2 ρ H (Pre.refl _) (Ext.refl _ _) r _ (by simp [RD])
  · exact f2.elim
theorem co_eqL (hu : X.A.units < cLine) : CO X EX .Eq (fEqL false) := ⟨_, op_eqL hu, br_eqL⟩
theorem co_neL (hu : X.A.units < cLine) : CO X EX .NotEq (fEqL true) := ⟨_, op_neL hu, br_eqL⟩
end
end FT
set_option Elab.async false
set_option linter.all false
set_option maxRecDepth 100000
set_option maxHeartbeats 1600000
/-! enumerate of a tuple -/
namespace FT
open PySem PySem.Spec PyProof.Rows L2

theorem enum_made (t : Addr) (items : Array Value) :
    Meets (Builtin.«enumerate.__new__» ⟨[.type "enumerate", .ref t], []⟩) (fun _ R s => s.heap.IsTuple t items ∧
      R (.ok (.ret (.ref (s.heap.push { cls := .type "tuple_iterator", data := .fields #[.ref t, .int 0 0] }).objs.size)))
        { s with heap := (s.heap.push { cls := .type "tuple_iterator", data := .fields #[.ref t, .int 0 0] }).push { cls := .type "enumerate", data := .fields #[.none, .bool false, .ref s.heap.objs.size, rawInt 0, .none, .none] } }) :=
  .of_wp fun prog w A R s h => by
    obtain ⟨hp, g, d, tk, os⟩ := s
    obtain ⟨q1, h⟩ := h
    have hsub := sub_enumerate
    have L1 : Heap.IsTuple (Shared.heap ⟨hp, g, d, tk, os⟩) t items := q1
    wp_walk
    refine wpAny_stack_any fun st => wpAny_pure ?_
    split
    · rename_i c _ _ _ _ _
      cases (c == Value.type "enumerate")
      · wp_walk using wpAny_pyIter_tuple L1
        exact ⟨_, rfl, h⟩
      · wp_walk using wpAny_pyIter_tuple L1
        exact ⟨_, rfl, h⟩
    · wp_walk using wpAny_pyIter_tuple L1
      exact ⟨_, rfl, h⟩
theorem drawsT {P : Program} {w : World} {A : Around} (hh : A.handled = none) (it t : Addr) (hne : t ≠ it) (items : Array Value) :
    Draws P w A it [it, t] items.size (fun i v => items[i]? = some v) (fun i h => h.IsTupleIter it t i ∧ h.IsTuple t items) where
  live := fun _ _ st => let ⟨o, ho, _⟩ := st.1; ⟨o, ho⟩
  frame := fun _ _ _ st hk => ⟨st.1.at fun o e => hk it (by simp) o e, st.2.at fun o e => hk t (by simp) o e⟩
  item := fun i s Q E hi st hQ => nx_item st.1 st.2 (x := items[i]) (by simp [hi]) fun h' hit sb => hQ _ h' s.toks (by simp [hi]) ⟨hit, st.2.extBut sb.extBut hne⟩ sb
  done := fun s Q E st hE => nx_end hh st.1 st.2 (by simp) hE
def Ite (K : PySem.W.Frag) (t : Addr) : It :=
  ⟨fun i H => ∃ xs x, SqT K H t xs ∧ xs[i]? = some x,
   fun i H v H' => ∃ T x, H T = none ∧ v = .ref T ∧ (∀ xs, SqT K H t xs → xs[i]? = some x) ∧ H' = upd H T (.tup [.int i, x]),
   fun i H => ∃ xs, SqT K H t xs ∧ xs.length = i⟩
theorem turn_enum {P : Program} {w : World} {K : PySem.W.Frag} {elts : List Expr} {kk : Nat} {pos : Pos} {e it t : Addr} (d1 : e ≠ it) (d2 : t ≠ it) (d3 : e ≠ t) :
    Turn P w K (.Tuple elts kk pos) (Ite K t) [e, it] e (fun i h => (∃ old, IsEnum h e it i old) ∧ h.IsTupleIter it t i) where
  mem := by simp
  obj := fun i h st b hb => by
    obtain ⟨⟨old, ee⟩, o, ei, _, di⟩ := st
    simp at hb
    rcases hb with rfl | rfl
    · exact ⟨_, ee, fun v q => by cases q⟩
    · exact ⟨_, ei, fun v q => by rw [di] at q; cases q⟩
  keep := fun i h h' st k => by
    obtain ⟨⟨old, ee⟩, g⟩ := st
    exact ⟨⟨old, k e (by simp) _ ee⟩, g.at fun o q => k it (by simp) o q⟩
  item := by
    intro X hP hw hK hc i pins s σ H E I hf st hg
    subst hP hw hK
    obtain ⟨xs, x, q1, hx⟩ := hg
    obtain ⟨its, rv, pl, hz⟩ := I.tuple q1
    obtain ⟨u, hu, ru⟩ := rv.get hx
    obtain ⟨⟨old, ee⟩, g⟩ := st
    have hi : i < its.toArray.size := by
      have := (List.getElem?_eq_some_iff.mp hu).1
      simpa using this
    have pT : s.heap.IsTuple t its.toArray := pl
    refine wpAny_pyNext_enum_itemD (drawsT (by simp [I.ok.hd hc]) it t d2 its.toArray) ee ⟨g, pT⟩ hi d1 (by simp [d1, d3]) fun y h' tk hy eo st' gT sz kp => ?_
    have ey : y = u := by
      have : its.toArray[i]? = some u := by simpa using hu
      rw [hy] at this
      exact Option.some.inj this
    subst ey
    refine ⟨_, rfl, wpAny_letOwnedTupleGo_enum eo fun h2 eo2 sb => ?_⟩
    have elt : e < s.heap.objs.size := Heap.lt_size ee
    have ilt : it < s.heap.objs.size := by obtain ⟨o, q, _⟩ := g; exact Heap.lt_size q
    have hT : IsTup h2 s.heap.objs.size [Value.int i tk, y].toArray := ⟨_, (sb.2 _ (Nat.ne_of_gt elt)).trans gT, rfl, _, rfl⟩
    have J := madeT (t := tk + 1) (ch := [e, it]) (T := s.heap.objs.size) (vs := [.int i, x]) (its := [.int i tk, y]) (h2 := h2) I hf
      (fun b o hb q => by simp at hb; exact (sb.2 b hb.1).trans (kp b o hb.1 hb.2 q)) (Nat.le_refl _) hT (.cons ⟨tk, rfl⟩ (.cons ru .nil)) (by show 2 ≤ sizeLine; decide)
    refine ⟨.ref s.heap.objs.size, _, J, rfl, ⟨_, x, I.hok.fresh (Nat.le_refl _), rfl, fun xs' h' => by rw [I.tuple_inj h' q1]; exact hx, rfl⟩, ?_, fun b hb => ?_⟩
    · exact ⟨⟨_, by simpa using eo2⟩, st'.1.at fun o q => (sb.2 _ (Ne.symm d1)).trans q⟩
    · have : b < s.heap.objs.size := by
        simp at hb
        rcases hb with rfl | rfl
        · exact elt
        · exact ilt
      rw [upd_ne (Nat.ne_of_lt this)]
      exact (hf b hb).1
  done := by
    intro X hP hw hK hc i pins s σ H E I hf st hg
    subst hP hw hK
    obtain ⟨xs, q1, hl⟩ := hg
    obtain ⟨its, rv, pl, hz⟩ := I.tuple q1
    obtain ⟨⟨old, ee⟩, g⟩ := st
    have l1 := rv.length
    have pT : s.heap.IsTuple t its.toArray := pl
    have en : i = its.toArray.size := by simp; omega
    refine wpAny_pyNext_enum_endD (drawsT (by simp [I.ok.hd hc]) it t d2 its.toArray) ee ⟨by rw [← en]; exact g, pT⟩ fun h' eb => ⟨rfl, ?_⟩
    have hf' : ∀ b ∈ [it], FpOk X pins H b := fun b hb => hf b (by simp at hb; simp [hb])
    refine I.step (g' := s.gens) (t' := s.toks) (d' := s.drawn) (ch := [it]) (fun b hb => ⟨(hf' b hb).2.2.2.1, (hf' b hb).2.1, (hf' b hb).2.2.2.2.1, (hf' b hb).2.2.2.2.2⟩) (fun b o _ _ hc e _ => ?_) (fun b o _ _ hc e _ => ⟨o.slots, ?_⟩)
      (fun _ _ _ _ n => n) (fun b o hc e => ⟨o, ?_⟩) (fun _ _ e => e) (fun _ _ _ e => e) (fun b ps e => ⟨#[], by rw [e]; simp⟩) (fun m hm => ?_) (fun b u e => ?_) I.bare
    · simp at hc; exact eb b o hc e
    · simp at hc; exact eb b o hc e
    · simp at hc; exact eb b o hc e
    · obtain ⟨o, es, ep, q, r⟩ := hm
      exact ⟨o, es, ep, eb _ o (fun y => (hf' it (by simp)).2.1 y.symm) q, r⟩
    · refine (I.hok b u e).stay (fun c v hc q => ?_) (fun _ q => q) fun _ _ q => q
      refine eb c v (fun y => ?_) q
      subst y
      rcases hc with y | y
      · rw [← y, (hf' c (by simp)).1] at e; cases e
      · rw [(hf' c (by simp)).1] at y; cases y
  self := fun _ _ _ _ _ st h => by
    obtain ⟨⟨old, ee⟩, g⟩ := st
    exact wpAny_pyIter_enum ee h
section
variable {X : Cx} {EX : XX} {a : Expr} {elts : List Expr} {kk : Nat} {p pos pt : Pos} {ma : G → M D}
def iEnumT (K : PySem.W.Frag) (ta : TA) : TI := fun σ H R => ta σ H fun vs H2 => ∃ t xs, vs = [.ref t] ∧ SqT K H2 t xs ∧ R (Ite K t) H2
theorem pi_enum {ta : TA} (hg : Gl X "enumerate") (hm : X.mg "enumerate" = none) (ha : PA X [a] ta) (hs : starEach [a] X.env = [(false, eval a X.env)] := by rfl) : PI X (.Tuple elts kk pt) (.Call (.Name "enumerate" p) [a] [] pos) (iEnumT X.K ta) := by
  intro pins s σ H R I h
  refine Call_ (ld_blt I hg hm boot_enumerate (PyProof.Rows.callWith_type1 (thn (ha pos pins s σ H _ I h) fun us s1 ⟨vs, H1, I1, r1, q1⟩ => ?_) (by rw [hs]; rfl) rfl))
  obtain ⟨t, xs, e, q2, q⟩ := q1
  subst e
  obtain ⟨u, rfl, ru⟩ := vals1 r1
  cases ru
  obtain ⟨its, rv, pl, hz⟩ := I1.tuple q2
  have pT : s1.heap.IsTuple t its.toArray := pl
  have lt : t < s1.heap.objs.size := by obtain ⟨o, e, _⟩ := pl; exact Heap.lt_size e
  refine callType_new PySem.F.called_enumerate (by decide) (PySem.F.typeCall_enumerate_1 _) (PySem.F.newCall_enumerate_1 _) (fun obj => PySem.F.args_object_init_2 obj _) PySem.F.entry_enumerate_new (enum_made t its.toArray) ⟨pT, ?_⟩
  have y1 : (s1.heap.push { cls := .type "tuple_iterator", data := .fields #[.ref t, .int 0 0] }).objs.size = s1.heap.objs.size + 1 := Heap.size_push ..
  have x2 : ((s1.heap.push { cls := .type "tuple_iterator", data := .fields #[.ref t, .int 0 0] }).push { cls := .type "enumerate", data := .fields #[.none, .bool false, .ref s1.heap.objs.size, rawInt 0, .none, .none] }).get? (s1.heap.objs.size + 1) = some { cls := .type "enumerate", data := .fields #[.none, .bool false, .ref s1.heap.objs.size, rawInt 0, .none, .none] } := by rw [← y1]; exact Heap.get?_push_size _ rfl
  have x1 : ((s1.heap.push { cls := .type "tuple_iterator", data := .fields #[.ref t, .int 0 0] }).push { cls := .type "enumerate", data := .fields #[.none, .bool false, .ref s1.heap.objs.size, rawInt 0, .none, .none] }).get? s1.heap.objs.size = some { cls := .type "tuple_iterator", data := .fields #[.ref t, .int 0 0] } := Heap.get?_push_of_some _ (Heap.get?_push_size _ rfl)
  show _ ∧ _
  rw [y1]
  refine ⟨⟨_, x2, rfl⟩, wpAny_pyIter_enum (e := s1.heap.objs.size + 1) (it := s1.heap.objs.size) (i := 0) (old := .none) x2 ?_⟩
  refine ⟨s1.heap.objs.size + 1, _, _, _, H1, rfl, I1.kept (t' := s1.toks) (fun c o q => Heap.get?_push_of_some _ (Heap.get?_push_of_some _ q)), turn_enum (it := s1.heap.objs.size) (t := t) (Nat.ne_of_gt (Nat.lt_succ_self _)) (Nat.ne_of_lt lt) (Nat.ne_of_gt (Nat.lt_succ_of_lt lt)), ⟨⟨_, x2⟩, ⟨_, x1, rfl, rfl⟩⟩, fun b hb => ?_, q⟩
  have hb' : s1.heap.objs.size ≤ b := by
    simp at hb
    rcases hb with rfl | rfl
    · exact Nat.le_succ _
    · exact Nat.le_refl _
  exact I1.fpOk hb' (I1.hok.fresh hb')
def enumD (xs : List D) : List D := (List.range xs.length).map fun (i : Nat) => .tup [.int i, (xs[i]?).getD .non]
def iEnum (ma : G → M D) : G → M Src := fun γ => do
  let l ← aCons ma aNil γ
  match l with
  | [.tup xs] => pure (.con (enumD xs))
  | _ => bad
theorem enum_at {xs : List D} {i : Nat} {d : D} (h : (enumD xs)[i]? = some d) : ∃ x, xs[i]? = some x ∧ d = .tup [.int i, x] := by
  unfold enumD at h
  rw [List.getElem?_map] at h
  obtain ⟨j, e1, e2⟩ := Option.map_eq_some_iff.mp h
  obtain ⟨h1, h2⟩ := List.getElem?_eq_some_iff.mp e1
  simp at h1 h2
  subst h2
  rw [List.getElem?_eq_getElem h1] at e2
  exact ⟨_, List.getElem?_eq_getElem h1, e2.symm⟩
theorem si_enum (hc : X.calm = true) (hg : Gl X "enumerate") (hm : X.mg "enumerate" = none) (ha : SE X EX a ma) (hs : starEach [a] X.env = [(false, eval a X.env)] := by rfl) : SI X EX (.Tuple elts kk pt) (.Call (.Name "enumerate" p) [a] [] pos) (iEnum ma) :=
  ⟨PI.imp (pi_enum hg hm (sa_cons ha sa_nil hs).h hs) fun σ H R ⟨ρ, γ, h, rel, fin⟩ => ⟨ρ, γ, h, rel, (Fin.bind fin).mono fun l ρ1 h1 H1 p1 e1 r1 f1 vs rv => by
    split at f1
    · rename_i xs
      simp only [RDs, RD] at rv
      obtain ⟨_, _, rfl, ⟨t, us, rfl, q1, d1⟩, rfl⟩ := rv
      refine ⟨t, us, rfl, q1, f1 ρ1 H1 (Pre.refl _) (Ext.refl _ _) r1 _ fun i ρ2 h4 H2 p2 e2 r2 _ => ⟨fun d hd => ?_, fun hi => ?_⟩⟩
      · have hd' : (enumD xs)[i]? = some d := hd
        obtain ⟨x, g1, rfl⟩ := enum_at hd'
        obtain ⟨v1, a1, b1⟩ := (d1.mono p2 e2).get g1
        refine ⟨⟨us, v1, e2.t _ _ q1, a1⟩, fun v H3 ⟨T, x', n1, n2, n3, n5⟩ => ?_⟩
        have m1 := n3 us (e2.t _ _ q1)
        rw [a1] at m1; cases m1
        subst n2; subst n5
        have ext : Ext X.K H2 (L2.upd H2 T (.tup [.int i, v1])) := Ext.upd (.inl n1)
        refine ⟨?_, r2.other n1, ext⟩
        simp only [RD]
        exact ⟨T, _, rfl, SqT.of upd_same, RDs.cons (by simp [RD]) (RDs.cons (b1.mono (Pre.refl _) ext) RDs.nil)⟩
      · have hi' : (enumD xs).length = i := hi
        unfold enumD at hi'
        rw [List.length_map, List.length_range] at hi'
        have l1 := d1.length
        exact ⟨us, e2.t _ _ q1, by omega⟩
    · exact (show False from f1).elim⟩⟩
end
end FT
set_option Elab.async false
set_option linter.all false
set_option maxRecDepth 100000
set_option maxHeartbeats 2000000
/-! What holds behind a run. -/
namespace FT
open PySem PySem.Spec PyProof.Rows L2
variable {α β : Type}

def W (m : M α) (h : AH) (Q : α → AH → Prop) : Prop := ∃ a h', m h = .ok a h' ∧ Q a h'
theorem W_bind {m : M α} {f : α → M β} {h : AH} {Q : β → AH → Prop} : W (m >>= f) h Q ↔ W m h fun a h1 => W (f a) h1 Q := by
  constructor
  · rintro ⟨b, h2, e, q⟩
    rw [bindM] at e
    cases em : m h with
    | ok a h1 => rw [em] at e; exact ⟨a, h1, em, b, h2, e, q⟩
    | err x h1 => rw [em] at e; cases e
    | bad => rw [em] at e; cases e
  · rintro ⟨a, h1, e, b, h2, e', q⟩
    exact ⟨b, h2, by rw [M.bind_ok e, e'], q⟩
theorem W_pure {a : α} {h : AH} {Q : α → AH → Prop} : W (Pure.pure a : M α) h Q ↔ Q a h := by
  constructor
  · rintro ⟨b, h2, e, q⟩; cases e; exact q
  · exact fun q => ⟨a, h, rfl, q⟩
theorem W_bad {h : AH} {Q : α → AH → Prop} : W (bad : M α) h Q ↔ False := by
  constructor
  · rintro ⟨b, h2, e, q⟩; cases e
  · exact False.elim
theorem W_ite {c : Prop} [Decidable c] {m n : M α} {h : AH} {Q : α → AH → Prop} : W (if c then m else n) h Q ↔ if c then W m h Q else W n h Q := by
  split <;> exact Iff.rfl
theorem W.mono {m : M α} {h : AH} {Q Q' : α → AH → Prop} (z : W m h Q) (f : ∀ a h', Q a h' → Q' a h') : W m h Q' := let ⟨a, h', e, q⟩ := z; ⟨a, h', e, f a h' q⟩
theorem W.of {m : M α} {h h' : AH} {a : α} {Q : α → AH → Prop} (e : m h = .ok a h') (q : Q a h') : W m h Q := ⟨a, h', e, q⟩
theorem W_nil {γ : G} {h : AH} {Q : Out → AH → Prop} : W (bNil γ) h Q ↔ Q (.nx γ) h := W_pure
theorem w_nil {γ : G} {h : AH} {Q : Out → AH → Prop} : W (bNil γ) h Q ↔ Q (.nx γ) h := W_pure
def contW (mt : G → M Out) (Q : Out → AH → Prop) : Out → AH → Prop := fun o h => match o with
  | .nx γ => W (mt γ) h Q
  | o => Q o h
theorem contW_nx {mt : G → M Out} {Q : Out → AH → Prop} {γ : G} {h : AH} : contW mt Q (.nx γ) h ↔ W (mt γ) h Q := Iff.rfl
theorem contW_rt {mt : G → M Out} {Q : Out → AH → Prop} {d : D} {h : AH} : contW mt Q (.rt d) h ↔ Q (.rt d) h := Iff.rfl
theorem w_cons {ms mt : G → M Out} {γ : G} {h : AH} {Q : Out → AH → Prop} : W (bCons ms mt γ) h Q ↔ W (ms γ) h (contW mt Q) := by
  unfold bCons
  rw [W_bind]
  constructor
  · rintro ⟨o, h1, e, q⟩
    refine ⟨o, h1, e, ?_⟩
    cases o with
    | nx γ => exact q
    | rt d => exact (W_pure (a := Out.rt d) (Q := Q)).mp q
    | bk d => exact (W_pure (a := Out.bk d) (Q := Q)).mp q
    | ct d => exact (W_pure (a := Out.ct d) (Q := Q)).mp q
  · rintro ⟨o, h1, e, q⟩
    refine ⟨o, h1, e, ?_⟩
    cases o with
    | nx γ => exact q
    | rt d => exact W_pure.mpr q
    | bk d => exact W_pure.mpr q
    | ct d => exact W_pure.mpr q
def runW (Q : D → AH → Prop) : Out → AH → Prop := fun o h => match o with
  | .nx _ => Q .non h
  | .rt d => Q d h
  | _ => False
theorem w_run {n : Nat} {mb : G → M Out} {ds : List D} {h : AH} {Q : D → AH → Prop} (z : W (mb (startG n ds)) h (runW Q)) : W (runF n mb ds) h Q := by
  unfold runF
  rw [W_bind]
  refine z.mono fun o h1 q => ?_
  cases o with
  | nx γ => exact W_pure.mpr q
  | rt d => exact W_pure.mpr q
  | bk d => exact q.elim
  | ct d => exact q.elim
theorem w_if {k : G → M Bool} {ms mt : G → M Out} {γ : G} {h : AH} {Q : Out → AH → Prop} : W (sIf k ms mt γ) h Q ↔ W (k γ) h fun t h1 => if t = true then W (ms γ) h1 Q else W (mt γ) h1 Q := by
  unfold sIf
  rw [W_bind]
  simp only [W_ite]
theorem add_ii {i j : Int} : fAdd (.int i) (.int j) = pure (.int (i + j)) := rfl
theorem sub_ii {i j : Int} : fSub (.int i) (.int j) = pure (.int (i - j)) := rfl
theorem gt_ii {i j : Int} : fGt (.int i) (.int j) = pure (.bl (decide (j < i))) := rfl
theorem ge_ii {i j : Int} : fGe (.int i) (.int j) = pure (.bl (decide (j ≤ i))) := rfl
theorem lt_ii {i j : Int} : fLt (.int i) (.int j) = pure (.bl (decide (i < j))) := rfl
theorem le_ii {i j : Int} : fLe (.int i) (.int j) = pure (.bl (decide (i ≤ j))) := rfl
theorem eq_ii {i j : Int} {b : Bool} : fEq b (.int i) (.int j) = pure (.bl (decide (i = j) != b)) := rfl
theorem shr_ii {i j : Int} (h : 0 ≤ j) : fShr (.int i) (.int j) = pure (.int (i / 2 ^ j.toNat)) := by
  unfold fShr fIC
  dsimp only
  rw [if_pos (decide_eq_true h)]
theorem and_ii {i j : Int} : fAnd (.int i) (.int j) = pure (.int (Builtin.bitAnd i j)) := rfl
theorem mod_ii {i j : Int} (h : 0 < j) : fMod (.int i) (.int j) = pure (.int (i % j)) := by
  unfold fMod fIC
  dsimp only
  rw [if_pos (decide_eq_true h)]
theorem div_ii {i j : Int} (h : 0 < j) (h2 : j < 1073741824) : fDiv (.int i) (.int j) = pure (.int (i / j)) := by
  unfold fDiv fIC
  dsimp only
  rw [if_pos (by rw [decide_eq_true h, decide_eq_true h2]; rfl)]
theorem asB_bl {b : Bool} : asB (.bl b) = pure b := rfl
theorem truD_bl {b : Bool} : truD (.bl b) = pure b := rfl
theorem W_asRef {n : Nat} {h : AH} {Q : Nat → AH → Prop} : W (asRef (.ref n)) h Q ↔ W (getL n) h fun _ h1 => Q n h1 := by
  unfold W asRef getL
  dsimp only
  cases e : h[n]? with
  | none => exact ⟨fun ⟨_, _, z, _⟩ => (by cases z), fun ⟨_, _, z, _⟩ => (by cases z)⟩
  | some o =>
    cases o with
    | set ks => exact ⟨fun ⟨_, _, z, _⟩ => (by cases z), fun ⟨_, _, z, _⟩ => (by cases z)⟩
    | lst xs => exact ⟨fun ⟨_, _, z, q⟩ => (by cases z; exact ⟨xs, h, rfl, q⟩), fun ⟨_, _, z, q⟩ => (by cases z; exact ⟨n, h, rfl, q⟩)⟩
theorem isi_bl {b : Bool} {t : String} : fIsi t (.bl b) = pure (.bl (subT "bool" t)) := rfl
theorem isi_int {b : Int} {t : String} : fIsi t (.int b) = pure (.bl (subT "int" t)) := rfl
theorem isi_str {b : Str} {t : String} : fIsi t (.str b) = pure (.bl (subT "str" t)) := rfl
theorem isi_tup {b : List D} {t : String} : fIsi t (.tup b) = pure (.bl (subT "tuple" t)) := rfl
theorem W.pu {m : M α} {a : α} {h : AH} {Q : α → AH → Prop} (p : Pu m a) (q : ∀ j, Q a (h ++ j)) : W m h Q := let ⟨j, e⟩ := p h; ⟨a, h ++ j, e, q j⟩

/-- a loop over what stays -/
def forW (J : G → AH → Prop) (R : D → AH → Prop) : Out → AH → Prop := fun o h => match o with
  | .nx γ => J γ h
  | .ct γ => J γ h
  | .bk _ => False
  | .rt d => R d h
def endW (J : G → AH → Prop) (R : D → AH → Prop) : Out → AH → Prop := fun o h => match o with
  | .nx γ => J γ h
  | .ct _ => False
  | .bk _ => False
  | .rt d => R d h
theorem for_inv {src : Src} {g : D → G → M G} {body : G → M Out} (I : Nat → G → AH → Prop) (R : D → AH → Prop) (good : ∀ i γ h, I i γ h → src.good h) : ∀ (items : List D) (n : Nat) (γ : G) (h : AH),
    (∀ i d γ h, items[i]? = some d → I (n + i) γ h → W (g d γ) h fun γ1 h1 => W (body γ1) h1 (forW (I (n + i + 1)) R)) → I n γ h →
    W (forR src g body items γ) h (endW (I (n + items.length)) R)
  | [], n, γ, h, _, q => ⟨.nx γ, h, by unfold forR Src.chk; simp [good _ _ _ q], q⟩
  | d :: r, n, γ, h, z, q => by
    unfold forR
    rw [W_bind]
    refine W.of (a := ()) (h' := h) (by unfold Src.chk; simp [good _ _ _ q]) ?_
    rw [W_bind]
    refine (z 0 d γ h rfl q).mono fun γ1 h1 q1 => ?_
    rw [W_bind]
    refine q1.mono fun o h2 q2 => ?_
    have step : ∀ γ2, I (n + 0 + 1) γ2 h2 → W (forR src g body r γ2) h2 (endW (I (n + (d :: r).length)) R) := fun γ2 w => by
      have := for_inv (src := src) I R good r (n + 1) γ2 h2 (fun i d γ h e q => by
        have := z (i + 1) d γ h (by simpa using e) (by rw [show n + (i + 1) = n + 1 + i by omega]; exact q)
        rw [show n + (i + 1) + 1 = n + 1 + i + 1 by omega] at this
        exact this) (by simpa using w)
      rw [show n + 1 + r.length = n + (d :: r).length by simp; omega] at this
      exact this
    cases o with
    | nx γ2 => exact step γ2 q2
    | ct γ2 => exact step γ2 q2
    | bk γ2 => exact q2.elim
    | rt v => exact W_pure.mpr q2
theorem w_seq {ms mt : G → M Out} {γ : G} {h : AH} {Q : Out → AH → Prop} (J : G → AH → Prop) (z : W (ms γ) h (endW J fun d h => Q (.rt d) h)) (k : ∀ γ h, J γ h → W (mt γ) h Q) : W (bCons ms mt γ) h Q := by
  rw [w_cons]
  refine z.mono fun o h1 q => ?_
  cases o with
  | nx γ => exact k γ h1 q
  | rt d => exact q
  | bk d => exact q.elim
  | ct d => exact q.elim
theorem ints_filter (n : Nat) (p : D → Bool) (f : D → D) : ((intsD n).filter p).map f = ((List.range n).filter fun (i : Nat) => p (.int i)).map fun (i : Nat) => f (.int i) := by
  unfold intsD
  rw [List.filter_map, List.map_map]
  rfl
/-- over numbers up to n -/
theorem intsD_get {n i : Nat} {d : D} (e : (intsD n)[i]? = some d) : d = .int i ∧ i < n := by
  unfold intsD at e
  rw [List.getElem?_map] at e
  obtain ⟨j, e1, e2⟩ := Option.map_eq_some_iff.mp e
  obtain ⟨h1, h2⟩ := List.getElem?_eq_some_iff.mp e1
  simp at h1 h2
  subst h2
  exact ⟨e2.symm, h1⟩
theorem for_range {ma : G → M D} {i : Nat} {body : G → M Out} {γ : G} {h : AH} (I : Nat → G → AH → Prop) (R : D → AH → Prop) {Q : Out → AH → Prop}
    (hs : W (ma γ) h fun d h1 => ∃ n : Nat, d = .int n ∧ n < 4611686018427387904 ∧ I 0 γ h1 ∧ (∀ k γ h, k < n → I k γ h → W (body (γ.set i (some (.int k)))) h (forW (I (k + 1)) R)) ∧ (∀ γ h', I n γ h' → Q (.nx γ) h') ∧ ∀ d h', R d h' → Q (.rt d) h') :
    W (sFor (iRange ma) (gN i) body γ) h Q := by
  unfold sFor iRange
  rw [W_bind, W_bind]
  refine hs.mono fun d h1 ⟨n, e, hn, i0, st, fin⟩ => ?_
  subst e
  dsimp only
  rw [if_pos (by omega), W_pure]
  have := for_inv (src := .con (intsD (n : Int).toNat)) (g := gN i) (body := body) I R (fun _ _ _ _ => trivial) (intsD (n : Int).toNat) 0 γ h1 (fun k d γ h e q => by
    obtain ⟨rfl, hk⟩ := intsD_get e
    rw [Nat.zero_add] at q ⊢
    exact W_pure.mpr (st k γ h (by simpa using hk) q)) i0
  rw [show 0 + (intsD (n : Int).toNat).length = n by unfold intsD; simp] at this
  refine this.mono fun o h' q => ?_
  cases o with
  | nx γ => exact fin.1 γ h' q
  | rt d => exact fin.2 d h' q
  | bk d => exact q.elim
  | ct d => exact q.elim
theorem for_src {mi : G → M Src} {g : D → G → M G} {body : G → M Out} {γ : G} {h : AH} (I : Nat → G → AH → Prop) (R : D → AH → Prop) {Q : Out → AH → Prop}
    (hs : W (mi γ) h fun src h1 => I 0 γ h1 ∧ (∀ i γ h, I i γ h → src.good h) ∧ (∀ i d γ h, src.items[i]? = some d → I i γ h → W (g d γ) h fun γ1 h1 => W (body γ1) h1 (forW (I (i + 1)) R)) ∧ (∀ γ h', I src.items.length γ h' → Q (.nx γ) h') ∧ ∀ d h', R d h' → Q (.rt d) h') :
    W (sFor mi g body γ) h Q := by
  unfold sFor
  rw [W_bind]
  refine hs.mono fun src h1 ⟨i0, good, st, fin⟩ => ?_
  have := for_inv (src := src) (g := g) (body := body) I R good src.items 0 γ h1 (fun k d γ h e q => by
    rw [Nat.zero_add] at q ⊢
    exact st k d γ h e q) i0
  rw [Nat.zero_add] at this
  refine this.mono fun o h' q => ?_
  cases o with
  | nx γ => exact fin.1 γ h' q
  | rt d => exact fin.2 d h' q
  | bk d => exact q.elim
  | ct d => exact q.elim
theorem range_src {ma : G → M D} {γ : G} {h h1 : AH} {n : Nat} (e : ma γ h = .ok (.int n) h1) (hn : n < 4611686018427387904) : iRange ma γ h = .ok (.con (intsD n)) h1 := by
  unfold iRange
  rw [M.bind_ok e]
  dsimp only
  rw [if_pos (by omega)]
  rfl
theorem while_inv {k : G → M Bool} {body : G → M Out} (I : Nat → G → AH → Prop) (E : G → AH → Prop) (R : D → AH → Prop)
    (z : ∀ m γ h, I m γ h → W (k γ) h fun b h1 => if b = true then ∃ m', m = m' + 1 ∧ W (body γ) h1 (forW (fun γ h => ∃ i, i ≤ m' ∧ I i γ h) R) else E γ h1) : ∀ (n m : Nat) (γ : G) (h : AH), m < n → I m γ h →
    W (whileR k body n γ) h (endW E R)
  | 0, m, γ, h, hm, _ => by omega
  | n + 1, m, γ, h, hm, q => by
    unfold whileR
    rw [W_bind]
    refine (z m γ h q).mono fun b h1 q1 => ?_
    cases b with
    | false =>
      rw [if_neg (by decide)] at q1 ⊢
      exact W_pure.mpr q1
    | true =>
      rw [if_pos rfl] at q1 ⊢
      obtain ⟨m', rfl, q2⟩ := q1
      rw [W_bind]
      refine q2.mono fun o h2 q3 => ?_
      cases o with
      | nx γ2 => obtain ⟨i, hi, q4⟩ := q3; exact while_inv I E R z n i γ2 h2 (by omega) q4
      | ct γ2 => obtain ⟨i, hi, q4⟩ := q3; exact while_inv I E R z n i γ2 h2 (by omega) q4
      | bk γ2 => exact q3.elim
      | rt v => exact W_pure.mpr q3
/-- a comprehension of code that lays nothing -/
theorem compR_px {g : D → G → M G} {k : G → M Bool} {me : G → M D} {γ : G} {p : D → Bool} {f : D → D} (src : Src) (h0 : AH) (hg : ∀ j, src.good (h0 ++ j)) : ∀ (items : List D) (acc : List D), acc.length + items.length ≤ 1000000 →
    (∀ d ∈ items, ∃ γ1, (∀ h, g d γ h = .ok γ1 h) ∧ (∀ j, k γ1 (h0 ++ j) = .ok (p d) (h0 ++ j)) ∧ (p d = true → ∀ j, me γ1 (h0 ++ j) = .ok (f d) (h0 ++ j))) →
    compR src g k me h0.length γ items (h0 ++ [.lst acc]) = .ok () (h0 ++ [.lst (acc ++ (items.filter p).map f)])
  | [], acc, hl, hd => by unfold compR Src.chk; simp [hg]
  | d :: r, acc, hl, hd => by
    obtain ⟨γ1, e1, e2, e3⟩ := hd d List.mem_cons_self
    unfold compR
    have chk : src.chk (h0 ++ [.lst acc]) = .ok () (h0 ++ [.lst acc]) := by unfold Src.chk; simp [hg]
    rw [M.bind_ok chk, M.bind_ok (e1 _), M.bind_ok (e2 _)]
    simp only [List.length_cons] at hl
    have hr : ∀ d ∈ r, ∃ γ1, (∀ h, g d γ h = .ok γ1 h) ∧ (∀ j, k γ1 (h0 ++ j) = .ok (p d) (h0 ++ j)) ∧ (p d = true → ∀ j, me γ1 (h0 ++ j) = .ok (f d) (h0 ++ j)) := fun x hx => hd x (List.mem_cons_of_mem _ hx)
    cases hp : p d with
    | false =>
      rw [if_neg (by decide), compR_px src h0 hg r acc (by omega) hr, List.filter_cons, hp]
      rfl
    | true =>
      rw [if_pos rfl, M.bind_ok (e3 hp _)]
      have ap : fAppend h0.length (f d) (h0 ++ [.lst acc]) = .ok .non (h0 ++ [.lst (acc ++ [f d])]) := by
        unfold fAppend updL
        have g1 : (h0 ++ [O.lst acc])[h0.length]? = some (.lst acc) := by simp
        rw [g1]
        dsimp only
        have hs : (acc ++ [f d]).length ≤ sizeLine := by
          rw [List.length_append, List.length_singleton]
          exact Nat.le_trans (show acc.length + 1 ≤ 1000000 by omega) (by decide)
        rw [if_pos hs]
        simp
      rw [M.bind_ok ap, compR_px src h0 hg r (acc ++ [f d]) (by simp; omega) hr, List.filter_cons, hp]
      simp
theorem comp_px {cap : List (Option Nat)} {mi : G → M Src} {g : D → G → M G} {k : G → M Bool} {me : G → M D} {γ : G} {src : Src} {h : AH} (p : D → Bool) (f : D → D) (hi : mi γ h = .ok src h) (hg : ∀ j, src.good (h ++ j)) (hl : src.items.length ≤ 1000000)
    (hd : ∀ d ∈ src.items, ∃ γ1, (∀ h, g d (capG cap γ) h = .ok γ1 h) ∧ (∀ j, k γ1 (h ++ j) = .ok (p d) (h ++ j)) ∧ (p d = true → ∀ j, me γ1 (h ++ j) = .ok (f d) (h ++ j))) :
    eComp cap mi g k me γ h = .ok (.ref h.length) (h ++ [.lst ((src.items.filter p).map f)]) := by
  have e := compR_px (g := g) (k := k) (me := me) (γ := capG cap γ) (p := p) (f := f) src h hg src.items [] (by simpa using hl) hd
  show (mi γ >>= _) h = _
  rw [M.bind_ok hi]
  rw [M.bind_ok (m := (fun h => Res.ok (List.length h) (h ++ [O.lst []]) : M Nat)) (h := h) rfl]
  rw [M.bind_ok (by simpa using e)]
  rfl
end FT
set_option Elab.async false
set_option linter.all false
set_option maxRecDepth 100000
set_option maxHeartbeats 2000000
namespace FT
open PySem PySem.Spec PyProof.Rows L2
def Pool (gr sm : List Int) (s c : Int) (r : AH) : AH := .lst (gr.map .int) :: .lst (sm.map .int) :: .lst [.ref 0, .ref 1, .int s, .int c] :: r
def PS (h : AH) (k : Int) (r : AH) : Prop := ∃ gr sm s c, h = Pool gr sm s c r ∧ 0 ≤ s ∧ s < 2147483647 ∧ 0 ≤ c ∧ c ≤ k ∧ gr.length ≤ 63 ∧ sm.length ≤ 63
theorem PS.up {h : AH} {k k' : Int} {r : AH} (p : PS h k r) (hk : k ≤ k') : PS h k' r := by
  obtain ⟨gr, sm, s, c, e, h1, h2, h3, h4, h5, h6⟩ := p
  exact ⟨gr, sm, s, c, e, h1, h2, h3, by omega, h5, h6⟩
theorem PS.app {h : AH} {k : Int} {r : AH} (p : PS h k r) (j : AH) : PS (h ++ j) k (r ++ j) := by
  obtain ⟨gr, sm, s, c, e, q⟩ := p
  exact ⟨gr, sm, s, c, by rw [e]; rfl, q⟩
theorem PS.get {h : AH} {k : Int} {r : AH} (p : PS h k r) (n : Nat) : h[n + 3]? = r[n]? := by
  obtain ⟨gr, sm, s, c, e, q⟩ := p
  rw [e]; rfl
theorem PS.len {h : AH} {k : Int} {r : AH} (p : PS h k r) : h.length = r.length + 3 := by
  obtain ⟨gr, sm, s, c, e, q⟩ := p
  rw [e]; rfl
theorem PS.set {h : AH} {k : Int} {r : AH} (p : PS h k r) (n : Nat) (o : O) : PS (h.set (n + 3) o) k (r.set n o) := by
  obtain ⟨gr, sm, s, c, e, q⟩ := p
  exact ⟨gr, sm, s, c, by rw [e]; rfl, q⟩
theorem w_getL {h : AH} {k : Int} {r : AH} {n : Nat} {xs : List D} {Q : List D → AH → Prop} (p : PS h k r) (e : r[n]? = some (.lst xs)) (q : Q xs h) : W (getL (n + 3)) h Q :=
  ⟨xs, h, by unfold getL; rw [p.get, e], q⟩
theorem w_newL {h : AH} {k : Int} {r : AH} {xs : List D} {Q : D → AH → Prop} (p : PS h k r) (hl : xs.length ≤ 1000000) (z : ∀ h', PS h' k (r ++ [.lst xs]) → Q (.ref (r.length + 3)) h') : W (newL xs) h Q :=
  ⟨.ref (r.length + 3), h ++ [.lst xs], by unfold newL; rw [if_pos (Nat.le_trans hl (by decide)), p.len], z _ (p.app _)⟩
theorem w_append {h : AH} {k : Int} {r : AH} {n : Nat} {xs : List D} {v : D} {Q : D → AH → Prop} (p : PS h k r) (e : r[n]? = some (.lst xs)) (hl : xs.length < 1000000) (z : ∀ h', PS h' k (r.set n (.lst (xs ++ [v]))) → Q .non h') : W (fAppend (n + 3) v) h Q :=
  ⟨.non, h.set (n + 3) (.lst (xs ++ [v])), by
    unfold fAppend updL
    rw [p.get, e]
    dsimp only
    rw [if_pos (Nat.le_trans (by simp; omega : (xs ++ [v]).length ≤ 1000000) (by decide))], z _ (p.set _ _)⟩
theorem at_app {r j : AH} {n : Nat} {o : O} (e : r[n]? = some o) : (r ++ j)[n]? = some o := by
  rw [List.getElem?_append_left (List.getElem?_eq_some_iff.mp e).1, e]
theorem at_new {r : AH} {o : O} : (r ++ [o])[r.length]? = some o := by simp
def goodN (x : Str) : Prop := 1 ≤ x.length ∧ x.length ≤ 8 ∧ (∀ c ∈ x.cps.toList, 97 ≤ c ∧ c ≤ 122) ∧
  x ∉ (["yes", "no", "not", "and", "or", "step", "some", "all", "next", "once", "ever", "until", "unless"] : List Str)
theorem gNone (i : Nat) (d : D) (γ : G) (h : AH) : gN i d γ h = .ok (γ.set i (some d)) h := rfl
theorem len_str (x : Str) : x.length = x.cps.toList.length := by simp [Str.length]
theorem eqF_str (a : Str) : ∀ l : List Str, ((l.map D.str).any fun z => eqF z (.str a)) = decide (a ∈ l)
  | [] => by simp
  | b :: l => by
    rw [List.map_cons, List.any_cons, eqF_str a l]
    simp only [eqF]
    rw [Bool.eq_iff_iff]
    simp only [Bool.or_eq_true, beq_iff_eq, decide_eq_true_eq, List.mem_cons]
    constructor
    · rintro (h | h)
      · exact .inl h.symm
      · exact .inr h
    · rintro (h | h)
      · exact .inl h.symm
      · exact .inr h
theorem flat_strs : ∀ l : List Str, (l.map D.str).all flatD = true
  | [] => rfl
  | _ :: l => by rw [List.map_cons, List.all_cons, flat_strs l]; rfl
def low (x : Str) : Prop := ∀ c ∈ x.cps.toList, 97 ≤ c ∧ c ≤ 122
def abc : Str := "abcdefghijklmnopqrstuvwxyz"
theorem abc_cps : abc.cps.toList = (List.range 26).map (· + 97) := by decide +kernel
theorem abc_len : abc.length = 26 := by decide +kernel
theorem letter {d : Int} (h0 : 0 ≤ d) (h1 : d < 26) : fIx (.str abc) (.int d) = pure (.str ⟨#[d.toNat + 97]⟩) := by
  unfold fIx
  dsimp only
  rw [if_pos (by rw [abc_len]; decide), abc_cps]
  obtain ⟨n, rfl⟩ := Int.eq_ofNat_of_zero_le h0
  have hn : n < 26 := by omega
  rw [atI_nat (v := n + 97) (by simp [hn])]
  simp
theorem cps_app (x y : Str) : (x ++ y).cps.toList = x.cps.toList ++ y.cps.toList := Array.toList_append
theorem len_app (x y : Str) : (x ++ y).length = x.length + y.length := by rw [len_str, cps_app, List.length_append, ← len_str, ← len_str]
theorem add_ss {x y : Str} (h : x.length + y.length ≤ 1000) : fAdd (.str x) (.str y) = pure (.str (x ++ y)) := by
  show (if x.length + y.length ≤ sizeLine then _ else _) = _
  rw [if_pos (Nat.le_trans h (by decide))]
theorem one_len (c : Nat) : Str.length ⟨#[c]⟩ = 1 := rfl
theorem low_app {x : Str} {c : Nat} (h : low x) (h1 : 97 ≤ c) (h2 : c ≤ 122) : low (x ++ ⟨#[c]⟩) := by
  intro d hd
  rw [cps_app] at hd
  rcases List.mem_append.mp hd with q | q
  · exact h d q
  · simp at q; omega
theorem w_letter {x : Str} {h : AH} {k d : Int} {r : AH} {Q : D → AH → Prop} (h0 : 0 ≤ d) (h1 : d < 26) (hx : x.length ≤ 100) (q : Q (.str (x ++ ⟨#[d.toNat + 97]⟩)) h) : W (fIx (.str abc) (.int d)) h fun a h1 => W (fAdd (.str x) a) h1 Q := by
  rw [letter h0 h1, W_pure, add_ss (by rw [one_len]; omega), W_pure]
  exact q
def words : List Str := ["yes", "no", "not", "and", "or", "step", "some", "all", "next", "once", "ever", "until", "unless"]
def cand (x : Str) (l : Int) (i : Nat) : Str := x ++ ⟨#[((l + i) % 26).toNat + 97]⟩
theorem cand_inj {x : Str} {l : Int} (h0 : 0 ≤ l) {i j : Nat} (hi : i < 26) (hj : j < 26) (e : cand x l i = cand x l j) : i = j := by
  have e2 : (cand x l i).cps.toList = (cand x l j).cps.toList := by rw [e]
  unfold cand at e2
  rw [cps_app, cps_app] at e2
  have := List.append_cancel_left e2
  simp at this
  omega
theorem pigeon {x : Str} {l : Int} (h0 : 0 ≤ l) {ns : List Str} (hn : ns.length ≤ 7) (h : ∀ i : Nat, i < 26 → cand x l i ∈ words ∨ cand x l i ∈ ns) : False := by
  have nd : ((List.range 26).map (cand x l)).Nodup := by
    rw [List.nodup_iff_pairwise_ne, List.pairwise_map]
    refine List.Pairwise.imp_of_mem ?_ List.nodup_range
    intro a b ha hb hne e
    exact hne (cand_inj h0 (by simpa using ha) (by simpa using hb) e)
  have sub : ((List.range 26).map (cand x l)) ⊆ words ++ ns := by
    intro y hy
    obtain ⟨i, hi, rfl⟩ := List.mem_map.mp hy
    exact List.mem_append.mpr (h i (by simpa using hi))
  have := nd.length_le_of_subset sub
  rw [List.length_map, List.length_range, List.length_append] at this
  have w : words.length = 13 := rfl
  omega
theorem in_lst {h : AH} {k : Int} {r : AH} {n : Nat} {ns : List Str} {x : Str} {neg : Bool} (p : PS h k r) (e : r[n]? = some (.lst (ns.map .str))) : fIn neg (.str x) (.ref (n + 3)) h = .ok (.bl (decide (x ∈ ns) != neg)) h := by
  have g : getL (n + 3) h = .ok (ns.map .str) h := by unfold getL; rw [p.get, e]
  unfold fIn seqD
  rw [M.bind_ok g, eqF_str, flat_strs]
  rfl
theorem w_ixr {h : AH} {k : Int} {r : AH} {n : Nat} {xs : List D} {i : Int} {d : D} {Q : D → AH → Prop} (p : PS h k r) (e : r[n]? = some (.lst xs)) (a : atI xs i = some d) (q : Q d h) : W (fIx (.ref (n + 3)) (.int i)) h Q := by
  show W (getL (n + 3) >>= fun xs => match atI xs i with | some d => pure d | none => bad) h Q
  rw [W_bind]
  refine w_getL p e ?_
  rw [a]
  exact W_pure.mpr q
theorem w_lenr {h : AH} {k : Int} {r : AH} {n : Nat} {xs : List D} {Q : D → AH → Prop} (p : PS h k r) (e : r[n]? = some (.lst xs)) (q : Q (.int xs.length) h) : W (fLen [.ref (n + 3)]) h Q := by
  show W (getL (n + 3) >>= fun xs => pure (.int xs.length)) h Q
  rw [W_bind]
  refine w_getL p e ?_
  exact W_pure.mpr q
theorem low_nil : low "" := by
  intro c hc
  have : (Str.ofString "").cps.toList = [] := by decide +kernel
  rw [this] at hc
  cases hc
theorem nil_len : Str.length "" = 0 := by decide +kernel
def NS (ns : List Str) : Prop := ns.Nodup ∧ ∀ x ∈ ns, goodN x
theorem good_unborne : goodN "unborne" := by
  refine ⟨by decide +kernel, by decide +kernel, ?_, by decide +kernel⟩
  have : (Str.ofString "unborne").cps.toList = [117, 110, 98, 111, 114, 110, 101] := by decide +kernel
  rw [this]
  decide
def stD (l : List Nat) : List D := l.map fun (i : Nat) => .int i
theorem rise_of {l : List D} (h : l.Pairwise fun a b => ∀ h, fLt a b h = .ok (.bl true) h) (i : Nat) (a b : D) (ha : l[i]? = some a) (hb : l[i + 1]? = some b) : ∀ h, fLt a b h = .ok (.bl true) h := by
  obtain ⟨h1, e1⟩ := List.getElem?_eq_some_iff.mp ha
  obtain ⟨h2, e2⟩ := List.getElem?_eq_some_iff.mp hb
  have := List.pairwise_iff_getElem.mp h i (i + 1) h1 h2 (by omega)
  rw [e1, e2] at this
  exact this
structure MK (l : List Str) : Prop where
  len : l.length ≤ 8
  good : ∀ x ∈ l, goodN x
  rise : l.Pairwise fun a b => a.cps.toList < b.cps.toList
structure MA (st : List (List Nat)) (mk : List (List Str)) : Prop where
  l1 : 1 ≤ st.length
  l2 : st.length ≤ 40
  l3 : mk.length = st.length
  s1 : ∀ l ∈ st, l.Pairwise (· < ·)
  s2 : ∀ l ∈ st, ∀ x ∈ l, x < st.length
  m1 : ∀ l ∈ mk, MK l
def stsD (st : List (List Nat)) : List D := st.map fun l => .tup (stD l)
def mksD (mk : List (List Str)) : List D := mk.map fun l => .tup (l.map .str)
def maD (st : List (List Nat)) (mk : List (List Str)) : D := .tup [.tup (stsD st), .tup (mksD mk)]
def WI (d : D) : Prop := ∃ a b, d = .tup [.str a, .str b] ∧ (a = "" ∨ goodN a) ∧ goodN b
def bear (x : Str) (mk : List (List Str)) (i : Nat) : Bool := decide (x = "") || decide (x ∈ (mk[i]?).getD [])
theorem mk_at {mk : List (List Str)} {i : Nat} (hi : i < mk.length) : atI (mksD mk) (i : Int) = some (.tup (((mk[i]?).getD []).map .str)) := by
  refine atI_nat ?_
  unfold mksD
  rw [List.getElem?_map, List.getElem?_eq_getElem hi]
  rfl
theorem in_mk {mk : List (List Str)} {i : Nat} {x : Str} {st : List (List Nat)} (hi : i < mk.length) (γ : G) (a b c : Nat) (h : AH) (ha : γ[a]? = some (some (.str x))) (hb : γ[b]? = some (some (maD st mk))) (hc : γ[c]? = some (some (.int i))) :
    e2 (fIn false) (eVar a) (e2 fIx (e2 fIx (eVar b) (fun _ => pure (.int 1))) (eVar c)) γ h = .ok (.bl (decide (x ∈ (mk[i]?).getD []))) h := by
  have z : atI [D.tup (stsD st), D.tup (mksD mk)] (1 : Int) = some (D.tup (mksD mk)) := rfl
  simp [e2, eVar, ha, hb, hc, maD, fIx, seqD, z, mk_at hi, fIn, flat_strs, flatD]
  rw [← List.any_map, eqF_str]
theorem eq_emp (x : Str) (h : AH) : fEq false (.str x) (.str "") h = .ok (.bl (decide (x = ""))) h := by
  simp [fEq, eqD]
theorem le_cps (a b : Str) : leS a b = true ↔ a.cps.toList ≤ b.cps.toList := by
  unfold leS
  simp [List.not_lt]
theorem sortS_rise {l : List Str} (h : l.Nodup) : (sortS l).Pairwise fun a b => a.cps.toList < b.cps.toList := by
  have s : (sortS l).Pairwise fun a b => leS a b = true := List.pairwise_mergeSort (fun a b c h1 h2 => (le_cps a c).mpr (List.le_trans ((le_cps a b).mp h1) ((le_cps b c).mp h2)))
    (fun a b => by
      rw [Bool.or_eq_true, le_cps, le_cps]
      exact List.le_total _ _) l
  have n : (sortS l).Nodup := (List.mergeSort_perm l leS).nodup_iff.mpr h
  refine (List.Pairwise.and s n).imp fun {a b} q => ?_
  obtain ⟨q1, q2⟩ := q
  have q3 := (le_cps a b).mp q1
  by_cases lt : a.cps.toList < b.cps.toList
  · exact lt
  · exact absurd (str_ext (List.le_antisymm q3 (List.not_lt.mp lt))) q2
theorem sortS_mem {l : List Str} {x : Str} : x ∈ sortS l ↔ x ∈ l := (List.mergeSort_perm l leS).mem_iff
theorem sortS_len (l : List Str) : (sortS l).length = l.length := (List.mergeSort_perm l leS).length_eq
theorem strs_map : ∀ l : List Str, strsD (l.map .str) = some l
  | [] => rfl
  | a :: l => by simp [strsD, strs_map l]
def pick (ns : List Str) (p : Nat → Bool) : List Str := ((List.range ns.length).filter p).map fun i => (ns[i]?).getD ""
theorem pick_mk {ns : List Str} (hn : NS ns) (hl : ns.length ≤ 8) (p : Nat → Bool) : MK (sortS (pick ns p)) := by
  have nd : (pick ns p).Nodup := by
    unfold pick
    rw [List.nodup_iff_pairwise_ne, List.pairwise_map]
    refine List.Pairwise.imp_of_mem ?_ (List.Pairwise.filter p List.nodup_range)
    intro a b ha hb hne e
    have la : a < ns.length := by simpa using (List.mem_filter.mp ha).1
    have lb : b < ns.length := by simpa using (List.mem_filter.mp hb).1
    rw [List.getElem?_eq_getElem la, List.getElem?_eq_getElem lb] at e
    simp at e
    exact hne ((List.getElem_inj hn.1).mp e)
  have le : (pick ns p).length ≤ ns.length := by
    unfold pick
    rw [List.length_map]
    refine Nat.le_trans (List.length_filter_le _ _) ?_
    simp
  refine ⟨by rw [sortS_len]; omega, fun x hx => ?_, sortS_rise nd⟩
  rw [sortS_mem] at hx
  unfold pick at hx
  obtain ⟨i, hi, rfl⟩ := List.mem_map.mp hx
  have la : i < ns.length := by simpa using (List.mem_filter.mp hi).1
  rw [List.getElem?_eq_getElem la]
  exact hn.2 _ (List.getElem_mem la)
theorem pick_len (ns : List Str) (p : Nat → Bool) : (pick ns p).length ≤ ns.length := by
  unfold pick
  rw [List.length_map]
  refine Nat.le_trans (List.length_filter_le _ _) ?_
  simp
def AM (st : List (List Nat)) (mk : List (List Str)) (n : Nat) : Prop := (∀ l ∈ st, l.Pairwise (· < ·)) ∧ (∀ l ∈ st, ∀ x ∈ l, x < n) ∧ ∀ l ∈ mk, MK l
theorem set_at {r : AH} {i : Nat} {o o' : O} (e : r[i]? = some o) : (r.set i o')[i]? = some o' := List.getElem?_set_self (List.getElem?_eq_some_iff.mp e).1
theorem set_ne {r : AH} {i j : Nat} {o o' : O} (e : r[j]? = some o) (h : i ≠ j) : (r.set i o')[j]? = some o := by rw [List.getElem?_set_ne h]; exact e
theorem lt_of_at {r : AH} {i : Nat} {o : O} (e : r[i]? = some o) : i < r.length := (List.getElem?_eq_some_iff.mp e).1
theorem map_filter_int (ns : List Int) (p : D → Bool) : ((ns.map D.int).filter p).map (fun d => d) = (ns.filter fun i => p (.int i)).map D.int := by
  rw [List.map_id', List.filter_map]
  rfl
theorem pow18 : fPow (.int 10) (.int 18) = pure (.int 1000000000000000000) := rfl
theorem len_tup (xs : List D) : fLen [.tup xs] = pure (.int xs.length) := rfl
theorem sub_tt : subT "tuple" "tuple" = true := by decide
theorem sub_nn : subT "int" "int" = true := by decide
theorem sub_nb : subT "int" "bool" = false := by decide
theorem ix_tup {xs : List D} {i : Int} {d : D} (a : atI xs i = some d) : fIx (.tup xs) (.int i) = pure d := by
  have : fIx (.tup xs) (.int i) = (pure xs >>= fun xs => match atI xs i with | some d => pure d | none => bad) := rfl
  rw [this]
  show (match atI xs i with | some d => pure d | none => bad) = _
  rw [a]
theorem st_at {l : List Nat} {c : Nat} (hc : c < l.length) : atI (stD l) (c : Int) = some (.int ((l[c]?).getD 0 : Nat)) := by
  refine atI_nat ?_
  unfold stD
  rw [List.getElem?_map, List.getElem?_eq_getElem hc]
  rfl
theorem is_tt : fIs true (.bl true) (.bl true) = pure (.bl false) := rfl
theorem w_newSet {h : AH} {k : Int} {r : AH} {ks : List Key} {Q : D → AH → Prop} (p : PS h k r) (z : ∀ h', PS h' k (r ++ [.set ks]) → Q (.ref (r.length + 3)) h') : W (newSet ks) h Q :=
  ⟨.ref (r.length + 3), h ++ [.set ks], by unfold newSet; rw [p.len], z _ (p.app _)⟩
theorem w_getS {h : AH} {k : Int} {r : AH} {n : Nat} {ks : List Key} {Q : List Key → AH → Prop} (p : PS h k r) (e : r[n]? = some (.set ks)) (q : Q ks h) : W (getS (n + 3)) h Q :=
  ⟨ks, h, by unfold getS; rw [p.get, e], q⟩
theorem w_asSet {h : AH} {k : Int} {r : AH} {n : Nat} {ks : List Key} {Q : Nat → AH → Prop} (p : PS h k r) (e : r[n]? = some (.set ks)) (q : Q (n + 3) h) : W (asSet (.ref (n + 3))) h Q :=
  ⟨n + 3, h, by unfold asSet; dsimp only; rw [p.get, e], q⟩
theorem w_addS {h : AH} {k : Int} {r : AH} {n : Nat} {ks : List Key} {v : D} {y : Key} {Q : D → AH → Prop} (p : PS h k r) (e : r[n]? = some (.set ks)) (hy : keyD v = some y) (hl : ks.length + 1 < 4096) (z : ∀ h', PS h' k (r.set n (.set (putK ks y))) → Q .non h') : W (fAddS (n + 3) v) h Q :=
  ⟨.non, h.set (n + 3) (.set (putK ks y)), by
    unfold fAddS
    rw [p.get, e]
    dsimp only
    rw [hy]
    dsimp only
    rw [if_pos hl], z _ (p.set _ _)⟩
theorem w_pop {h : AH} {k : Int} {r : AH} {n : Nat} {xs : List D} {v : D} {Q : D → AH → Prop} (p : PS h k r) (e : r[n]? = some (.lst (xs ++ [v]))) (hl : xs.length < 1000000) (z : ∀ h', PS h' k (r.set n (.lst xs)) → Q v h') : W (fPop (n + 3)) h Q :=
  ⟨v, h.set (n + 3) (.lst xs), by
    unfold fPop updL
    rw [p.get, e]
    simp only [List.length_append, List.length_singleton, Nat.add_sub_cancel, List.getElem?_append_right (Nat.le_refl _), Nat.sub_self, List.getElem?_cons_zero, Option.map_some, List.dropLast_concat]
    rw [if_pos (Nat.le_trans (Nat.le_of_lt hl) (by decide))], z _ (p.set _ _)⟩
end FT
set_option Elab.async false
set_option linter.all false
set_option maxRecDepth 100000
namespace FT
open PySem PySem.Spec PyProof.Rows L2

section
variable {P : Program} {w : World} {K : PySem.W.Frag} {mg : Str → Option Value} {base : Heap}
theorem fn_ok {x : Str} {st : Stmt} {f : Addr} {fd : FuncData} {N ps : List Str} {k n : Nat} {mb : G → M Out} (F : Fun K x x st f fd) (S : FnScope N ps (defScope st)) (hn : ps.length = n)
    (body : ∀ (cdv : Value) (A : Around) (outer : List Env) (s : Shared) (H : Hp) (E : XK), Room k (A.deeper (envOfC x (defScope st) s.heap.objs.size f cdv)) →
      SB (cxOf CX0 P w K mg base N x (defScope st) f cdv A outer s H E).nox EX0 (defBody st) mb) : FnOk P w K mg base CX0 (k + 1) f fd ps (spB K (runF N.length mb) n) := by
  refine F.ok S (fun vs H Q E h => h.1.trans hn.symm) (fun cdv A outer s H vs Q E hr h => ?_)
  obtain ⟨hl, ρ, ds, h, rh, rd, fin⟩ := h
  refine ⟨_, (body cdv A outer s H E hr).h, ρ, startG N.length ds, h, ⟨start_rel rd, rh⟩, ?_⟩
  refine (Fin.bind fin).mono fun o ρ1 h1 H1 p1 e1 r1 f1 => ?_
  cases o with
  | nx γ => exact fun σ _ => FE.here (d := .non) (h := h1) f1 r1 (by simp [RD])
  | rt d => exact fun v rv => f1 ρ1 H1 (Pre.refl _) (Ext.refl _ _) r1 v rv
  | bk γ => exact (show False from f1).elim
  | ct γ => exact (show False from f1).elim
theorem bindsTo1 {x p : Str} {st : Stmt} {f : Addr} {fd : FuncData} (F : Fun K x x st f fd)
    (h : ∀ (kV doc pm : Value) (an : Option Addr) (cdv ct u : Value), bindArgs (PySem.W.fnOf x x (defArgs st) (defBody st) (defScope st) .none kV doc pm an cdv ct) ⟨[u], []⟩ = pure [(p, u)]) : ∀ (s : Shared) (u : Value), BindsTo s fd ⟨[u], []⟩ [(p, u)] := by
  obtain ⟨oc, od, kV, doc, pm, an, cdv, ct, osl, rfl, lk, hcd⟩ := F.ex
  exact fun s u => .of_eq (h kV doc pm an cdv ct u)
end
theorem law_walk {l : PySem.W.OpenLaw} {q : Program} {loose : List Str} {XP : (Str → Option Value) → Heap → Prop} {YP : World → Heap → Prop} {d : DefRec} {K : Params → PySem.W.Frag} {m : List D → M D} {p : Str} {lev : Nat} (hn : l.most = some 63) (hdf : d.params.defaults = []) (hr : Room lev callerA)
    (hY : ∀ (w : World) (h : Heap), YP w h → (K w.params).In h)
    (F : ∀ (w : World) (mg : Str → Option Value) (fa : Addr) (h : Heap), (K w.params).In h → h.Ns mainGlobals mg → mg d.name = some (.ref fa) →
      ∃ fd : FuncData, (∀ (s : Shared) (u : Value), BindsTo s fd ⟨[u], []⟩ [(p, u)]) ∧ ∀ base : Heap, (K w.params).In base → base.Ns mainGlobals mg → FnOk l.prog w (K w.params) mg base CX0 lev fa fd [p] (spB (K w.params) m 1))
    (math : ∀ ns : List Int, ns.length ≤ 63 → ∃ h', m [.fl (ns.map .int)] [] = .ok (.bl true) h') :
    PySem.W.WalkO q loose XP YP l.row.toRowW d [] (fun f vs => PySem.call f vs) := by
  refine L2.walk_of (n := 63) (k := lev) (x := p) (CX := fun _ => CX0) (sp := fun w => spB (K w.params) m 1) hn (by decide) hdf hr hY F (fun w H a ns hl hO hS => ?_) fun _ _ _ _ _ z => z
  obtain ⟨h', e⟩ := math ns hl
  have sq : SqLP (K w.params) H a (ns.map V.int) := by
    rcases hS with (h | ⟨o, h⟩) | h
    · rcases hO a with z | ⟨ob, xs, z⟩ <;> rw [h] at z <;> cases z
    · exact .inl ⟨o, h⟩
    · exact .inr h
  refine ⟨rfl, [], [.fl (ns.map .int)], [], ⟨rfl, fun i j a h => by simp at h, fun n o a h => by simp at h⟩, RDs.cons ?_ RDs.nil, ?_⟩
  · simp only [RD]
    exact ⟨a, _, rfl, sq, rds_ints ns⟩
  · rw [e]
    exact fun ρ' H' _ _ _ v rv => by simpa [RD] using rv
end FT
set_option Elab.async false
set_option linter.all false
set_option maxRecDepth 100000
set_option maxHeartbeats 4000000
namespace FT
open PySem PySem.Spec PyProof.Rows L2
def top (i : Nat) : Stmt := PySem.Challenge.pw_fairtrees_k04_whole_reached_and_behind.main.body.getD i (.Pass ⟨0, 0, 0, 0⟩)

noncomputable def b_behind : G → M Out :=
  (bCons (sRet (eCall fTuple (aCons (eComp [some 1, none, none] (iEnum (e2 fIx (eVar 0) (fun _ => pure (.int 0)))) (gT 2 (gConss (gN 1) (gConss (gN 2) gNils))) (fun γ => do let d ← e2 (fIn false) (eVar 0) (eVar 2) γ; asB d) (eVar 1)) aNil))) bNil)
noncomputable def m_behind : List D → M D := runF 2 b_behind
theorem sc_behind : FnScope ["machine", "standing"] ["machine", "standing"] (defScope (top 1)) := ⟨rfl, rfl, rfl, by decide +kernel, rfl, by decide +kernel, by decide +kernel⟩
theorem ok_behind {P : Program} {w : World} {K : PySem.W.Frag} {mg : Str → Option Value} {base : Heap} (T : DefAt K "behind" (top 1)) (mx : ∀ v, PySem.W.nsIn K mainGlobals "behind" = some (some v) → mg "behind" = some v) (z_enumerate : mg "enumerate" = none) (z_tuple : mg "tuple" = none) : Fn P w K mg base 1 "behind" 2 m_behind := by
  obtain ⟨f, fd, hf, F⟩ := T
  have hb : Binds K fd ["machine", "standing"] [] := F.binds fun _ _ _ _ _ _ us hl => match us, hl with | [_, _], _ => rfl
  exact fn_mkC F sc_behind hb (mx _ hf) rfl fun cdv A outer s H E hcd hr => (show SB (cxOf CX0 P w K mg base ["machine", "standing"] "behind" (defScope (top 1)) f cdv A outer s H E).nox EX0 (defBody (top 1)) b_behind from
    have nd : (["machine", "standing"] : List Str).Nodup := sc_behind.nd
    (sb_cons (s_ret (se_tuple rfl z_tuple (sa_cons (se_comp (N' := ["standing", "other", "row"]) (cap := [some 1, none, none]) rfl (cs_mk (by first | rfl | kernel_rfl!)) (si_enum rfl rfl z_enumerate (se_ix (se_var 0) se_int)) (fun _ _ _ _ => (sgk_tup rfl (sgks_cons (sgk_name 1 (show (["standing", "other", "row"] : List Str).Nodup by decide +kernel)) (sgks_cons (sgk_name 2 (show (["standing", "other", "row"] : List Str).Nodup by decide +kernel)) sgks_nil)))) (fun _ _ _ _ => (scs_one (sc_c co_in (se_var 0) (se_var 2)))) (fun _ _ _ _ => (se_var 1))) sa_nil))) sb_nil))
noncomputable def b_reached : G → M Out :=
  (bCons (sAsg (eSet1 (eVar 1)) (gN 2)) (bCons (sAsg (eLst (aCons (eVar 1) aNil)) (gN 3)) (bCons (whileR (cVal (eVar 3)) (bCons (sAsg (eM0 fPop (eVar 3)) (gN 4)) (bCons (sFor (iSeqT (e2 fIx (e2 fIx (eVar 0) (fun _ => pure (.int 0))) (eVar 4))) (gN 5) (bCons (sIf (fun γ => do let d ← e2 (fInS true) (eVar 5) (eVar 2) γ; asB d) (bCons (sExpr (eMS fAddS (eVar 2) (eVar 5))) (bCons (sExpr (eM1 fAppend (eVar 3) (eVar 5))) bNil)) bNil) bNil)) bNil)) 1000000) (bCons (sRet (eCall fTuple (aCons (eCall fSortedS (aCons (eVar 2) aNil)) aNil))) bNil))))
noncomputable def m_reached : List D → M D := runF 6 b_reached
theorem sc_reached : FnScope ["machine", "standing", "seen", "waiting", "at", "other"] ["machine", "standing"] (defScope (top 2)) := ⟨rfl, rfl, rfl, by decide +kernel, rfl, by decide +kernel, by decide +kernel⟩
theorem ok_reached {P : Program} {w : World} {K : PySem.W.Frag} {mg : Str → Option Value} {base : Heap} (T : DefAt K "reached" (top 2)) (mx : ∀ v, PySem.W.nsIn K mainGlobals "reached" = some (some v) → mg "reached" = some v) (z_sorted : mg "sorted" = none) (z_tuple : mg "tuple" = none) : Fn P w K mg base 1 "reached" 2 m_reached := by
  obtain ⟨f, fd, hf, F⟩ := T
  have hb : Binds K fd ["machine", "standing"] [] := F.binds fun _ _ _ _ _ _ us hl => match us, hl with | [_, _], _ => rfl
  exact fn_mkC F sc_reached hb (mx _ hf) rfl fun cdv A outer s H E hcd hr => (show SB (cxOf CX0 P w K mg base ["machine", "standing", "seen", "waiting", "at", "other"] "reached" (defScope (top 2)) f cdv A outer s H E).nox EX0 (defBody (top 2)) b_reached from
    have nd : (["machine", "standing", "seen", "waiting", "at", "other"] : List Str).Nodup := sc_reached.nd
    (sb_cons (s_set 2 nd (se_set1 hcd (se_var 1))) (sb_cons (s_set 3 nd (se_lst (sa_cons (se_var 1) sa_nil))) (sb_cons (s_while 1000000 PassesOwn.never (sc_val (se_var 3)) (sb_cons (s_set 4 nd (se_pop (se_var 3))) (sb_cons (s_for PassesOwn.never rfl (si_tup (se_ix (se_ix (se_var 0) se_int) (se_var 4))) (sg_name 5 nd) (sb_cons (s_if (sc_c co_ninS (se_var 5) (se_var 2)) (sb_cons (s_expr (se_addS (se_var 2) (se_var 5))) (sb_cons (s_expr (se_append (se_var 3) (se_var 5))) sb_nil)) sb_nil) sb_nil)) sb_nil))) (sb_cons (s_ret (se_tuple rfl z_tuple (sa_cons (se_sortedS rfl rfl z_sorted (sa_cons (se_var 2) sa_nil)) sa_nil))) sb_nil)))))
noncomputable def b__law_pool : G → M Out :=
  (bCons (sComp' 1 [none] (iSeqL (eVar 0)) (gN 0) (fun γ => do let d ← e2 fGe (eVar 0) (e2 fPow (fun _ => pure (.int 10)) (fun _ => pure (.int 18))) γ; asB d) (eVar 0)) (bCons (sRet (eLst (aCons (eVar 1) (aCons (eComp [none] (iSeqL (eVar 0)) (gN 0) (fun γ => do let d ← e2 fLt (eVar 0) (e2 fPow (fun _ => pure (.int 10)) (fun _ => pure (.int 18))) γ; asB d) (eVar 0)) (aCons (fun _ => pure (.int 5)) (aCons (fun _ => pure (.int 0)) aNil)))))) bNil))
noncomputable def m__law_pool : List D → M D := runF 2 b__law_pool
theorem sc__law_pool : FnScope ["_law_script", "_law_great"] ["_law_script"] (defScope (top 4)) := ⟨rfl, rfl, rfl, by decide +kernel, rfl, by decide +kernel, by decide +kernel⟩
theorem ok__law_pool {P : Program} {w : World} {K : PySem.W.Frag} {mg : Str → Option Value} {base : Heap} (T : DefAt K "_law_pool" (top 4)) (mx : ∀ v, PySem.W.nsIn K mainGlobals "_law_pool" = some (some v) → mg "_law_pool" = some v) : Fn P w K mg base 1 "_law_pool" 1 m__law_pool := by
  obtain ⟨f, fd, hf, F⟩ := T
  have hb : Binds K fd ["_law_script"] [] := F.binds fun _ _ _ _ _ _ us hl => match us, hl with | [_], _ => rfl
  exact fn_mkC F sc__law_pool hb (mx _ hf) rfl fun cdv A outer s H E hcd hr => (show SB (cxOf CX0 P w K mg base ["_law_script", "_law_great"] "_law_pool" (defScope (top 4)) f cdv A outer s H E).nox EX0 (defBody (top 4)) b__law_pool from
    have nd : (["_law_script", "_law_great"] : List Str).Nodup := sc__law_pool.nd
    (sb_cons (s_comp 1 (N' := ["_law_cell"]) (cap := [none]) rfl (cs_mk (by first | rfl | kernel_rfl!)) (si_list (se_var 0)) (fun _ _ _ _ => (sgk_name 0 (show (["_law_cell"] : List Str).Nodup by decide +kernel))) (fun _ _ _ _ => (scs_one (sc_c co_ge (se_var 0) (se_pow se_int se_int)))) (fun _ _ _ _ => (se_var 0)) nd) (sb_cons (s_ret (se_lst (sa_cons (se_var 1) (sa_cons (se_comp (N' := ["_law_cell"]) (cap := [none]) rfl (cs_mk (by first | rfl | kernel_rfl!)) (si_list (se_var 0)) (fun _ _ _ _ => (sgk_name 0 (show (["_law_cell"] : List Str).Nodup by decide +kernel))) (fun _ _ _ _ => (scs_one (sc_c co_lt (se_var 0) (se_pow se_int se_int)))) (fun _ _ _ _ => (se_var 0))) (sa_cons se_int (sa_cons se_int sa_nil)))))) sb_nil)))
noncomputable def b__law_draw : G → M Out :=
  (bCons (sIf (fun γ => do let d ← e2 fGt (eCall fLen (aCons (e2 fIx (eVar 0) (fun _ => pure (.int 0))) aNil)) (fun _ => pure (.int 0)) γ; asB d) (bCons (sAsg (e2 fIx (e2 fIx (eVar 0) (fun _ => pure (.int 0))) (fun _ => pure (.int 0))) (gN 2)) (bCons (sAsg (e2 fDiv (eVar 2) (eVar 1)) (gIx (e2 fIx (eVar 0) (fun _ => pure (.int 0))) (fun _ => pure (.int 0)))) (bCons (sIf (fun γ => do let d ← e2 (fEq false) (e2 fDiv (eVar 2) (eVar 1)) (fun _ => pure (.int 0)) γ; asB d) (bCons (sExpr (eM1 fPopAt (e2 fIx (eVar 0) (fun _ => pure (.int 0))) (fun _ => pure (.int 0)))) bNil) bNil) (bCons (sRet (e2 fMod (eVar 2) (eVar 1))) bNil)))) bNil) (bCons (sAsg (e2 fAdd (e2 fIx (eVar 0) (fun _ => pure (.int 3))) (fun _ => pure (.int 1))) (gIx (eVar 0) (fun _ => pure (.int 3)))) (bCons (sAsg (fun _ => pure (.int 0)) (gN 2)) (bCons (sIf (fun γ => do let d ← e2 fGt (eCall fLen (aCons (e2 fIx (eVar 0) (fun _ => pure (.int 1))) aNil)) (fun _ => pure (.int 0)) γ; asB d) (bCons (sAsg (e2 fIx (e2 fIx (eVar 0) (fun _ => pure (.int 1))) (e2 fMod (e2 fIx (eVar 0) (fun _ => pure (.int 3))) (eCall fLen (aCons (e2 fIx (eVar 0) (fun _ => pure (.int 1))) aNil)))) (gN 2)) bNil) bNil) (bCons (sAsg (e2 fMul (e2 fMod (eVar 2) (fun _ => pure (.int 2147483629))) (e2 fAdd (e2 fMul (e2 fIx (eVar 0) (fun _ => pure (.int 3))) (e2 fIx (eVar 0) (fun _ => pure (.int 3)))) (fun _ => pure (.int 1)))) (gN 2)) (bCons (sAsg (e2 fMod (e2 fAdd (e2 fAdd (e2 fMul (e2 fIx (eVar 0) (fun _ => pure (.int 2))) (fun _ => pure (.int 48271))) (eVar 2)) (e2 fMul (fun _ => pure (.int 97)) (e2 fIx (eVar 0) (fun _ => pure (.int 3))))) (fun _ => pure (.int 2147483647))) (gIx (eVar 0) (fun _ => pure (.int 2)))) (bCons (sRet (e2 fMod (e2 fDiv (e2 fMod (e2 fPow (e2 fIx (eVar 0) (fun _ => pure (.int 2))) (fun _ => pure (.int 5))) (fun _ => pure (.int 2147483629))) (fun _ => pure (.int 64))) (eVar 1))) bNil)))))))
noncomputable def m__law_draw : List D → M D := runF 3 b__law_draw
theorem sc__law_draw : FnScope ["_law_pool_here", "_law_many", "_law_cell"] ["_law_pool_here", "_law_many"] (defScope (top 5)) := ⟨rfl, rfl, rfl, by decide +kernel, rfl, by decide +kernel, by decide +kernel⟩
theorem ok__law_draw {P : Program} {w : World} {K : PySem.W.Frag} {mg : Str → Option Value} {base : Heap} (T : DefAt K "_law_draw" (top 5)) (mx : ∀ v, PySem.W.nsIn K mainGlobals "_law_draw" = some (some v) → mg "_law_draw" = some v) (z_len : mg "len" = none) : Fn P w K mg base 1 "_law_draw" 2 m__law_draw := by
  obtain ⟨f, fd, hf, F⟩ := T
  have hb : Binds K fd ["_law_pool_here", "_law_many"] [] := F.binds fun _ _ _ _ _ _ us hl => match us, hl with | [_, _], _ => rfl
  exact fn_mkC F sc__law_draw hb (mx _ hf) rfl fun cdv A outer s H E hcd hr => (show SB (cxOf CX0 P w K mg base ["_law_pool_here", "_law_many", "_law_cell"] "_law_draw" (defScope (top 5)) f cdv A outer s H E).nox EX0 (defBody (top 5)) b__law_draw from
    have nd : (["_law_pool_here", "_law_many", "_law_cell"] : List Str).Nodup := sc__law_draw.nd
    (sb_cons (s_if (sc_c co_gt (se_len rfl z_len (sa_cons (se_ix (se_var 0) se_int) sa_nil)) se_int) (sb_cons (s_set 2 nd (se_ix (se_ix (se_var 0) se_int) se_int)) (sb_cons (s_asg (se_div (se_var 2) (se_var 1)) (sg_ix (se_ix (se_var 0) se_int) se_int)) (sb_cons (s_if (sc_c co_eq (se_div (se_var 2) (se_var 1)) se_int) (sb_cons (s_expr (se_popAt (se_ix (se_var 0) se_int) se_int)) sb_nil) sb_nil) (sb_cons (s_ret (se_mod (se_var 2) (se_var 1))) sb_nil)))) sb_nil) (sb_cons (s_asg (se_add (se_ix (se_var 0) se_int) se_int) (sg_ix (se_var 0) se_int)) (sb_cons (s_set 2 nd se_int) (sb_cons (s_if (sc_c co_gt (se_len rfl z_len (sa_cons (se_ix (se_var 0) se_int) sa_nil)) se_int) (sb_cons (s_set 2 nd (se_ix (se_ix (se_var 0) se_int) (se_mod (se_ix (se_var 0) se_int) (se_len rfl z_len (sa_cons (se_ix (se_var 0) se_int) sa_nil))))) sb_nil) sb_nil) (sb_cons (s_set 2 nd (se_mul (se_mod (se_var 2) se_int) (se_add (se_mul (se_ix (se_var 0) se_int) (se_ix (se_var 0) se_int)) se_int))) (sb_cons (s_asg (se_mod (se_add (se_add (se_mul (se_ix (se_var 0) se_int) se_int) (se_var 2)) (se_mul se_int (se_ix (se_var 0) se_int))) se_int) (sg_ix (se_var 0) se_int)) (sb_cons (s_ret (se_mod (se_div (se_mod (se_pow (se_ix (se_var 0) se_int) se_int) se_int) se_int) (se_var 1))) sb_nil))))))))
noncomputable def b__law_name : G → M Out :=
  (bCons (sAsg (fun _ => pure (.str "abcdefghijklmnopqrstuvwxyz")) (gN 3)) (bCons (sAsg (eVar 1) (gN 4)) (bCons (sFor (iRange (eFn 2 m__law_draw (aCons (eVar 0) (aCons (fun _ => pure (.int 4)) aNil)))) (gN 5) (bCons (sAsg (e2 fAdd (eVar 4) (e2 fIx (eVar 3) (eFn 2 m__law_draw (aCons (eVar 0) (aCons (fun _ => pure (.int 26)) aNil))))) (gN 4)) bNil)) (bCons (sAsg (eFn 2 m__law_draw (aCons (eVar 0) (aCons (fun _ => pure (.int 26)) aNil))) (gN 6)) (bCons (sAsg (eLst (aCons (fun _ => pure (.str "yes")) (aCons (fun _ => pure (.str "no")) (aCons (fun _ => pure (.str "not")) (aCons (fun _ => pure (.str "and")) (aCons (fun _ => pure (.str "or")) (aCons (fun _ => pure (.str "step")) (aCons (fun _ => pure (.str "some")) (aCons (fun _ => pure (.str "all")) (aCons (fun _ => pure (.str "next")) (aCons (fun _ => pure (.str "once")) (aCons (fun _ => pure (.str "ever")) (aCons (fun _ => pure (.str "until")) (aCons (fun _ => pure (.str "unless")) aNil)))))))))))))) (gN 7)) (bCons (sFor (iRange (fun _ => pure (.int 26))) (gN 5) (bCons (sAsg (e2 fAdd (eVar 4) (e2 fIx (eVar 3) (e2 fMod (e2 fAdd (eVar 6) (eVar 5)) (fun _ => pure (.int 26))))) (gN 8)) (bCons (sIf (cAnd (fun γ => do let d ← e2 (fIn true) (eVar 8) (eVar 7) γ; asB d) (fun γ => do let d ← e2 (fIn true) (eVar 8) (eVar 2) γ; asB d)) (bCons (sRet (eVar 8)) bNil) bNil) bNil))) (bCons (sRet (e2 fAdd (eVar 4) (fun _ => pure (.str "x")))) bNil)))))))
noncomputable def m__law_name : List D → M D := runF 9 b__law_name
theorem sc__law_name : FnScope ["_law_pool_here", "_law_start", "_law_taken", "_law_letters", "_law_name_here", "_law_k", "_law_last", "_law_words", "_law_found"] ["_law_pool_here", "_law_start", "_law_taken"] (defScope (top 6)) := ⟨rfl, rfl, rfl, by decide +kernel, rfl, by decide +kernel, by decide +kernel⟩
theorem ok__law_name {P : Program} {w : World} {K : PySem.W.Frag} {mg : Str → Option Value} {base : Heap} (T : DefAt K "_law_name" (top 6)) (mx : ∀ v, PySem.W.nsIn K mainGlobals "_law_name" = some (some v) → mg "_law_name" = some v) (z_range : mg "range" = none) (F__law_draw : Fn P w K mg base 1 "_law_draw" 2 m__law_draw) : Fn P w K mg base 2 "_law_name" 3 m__law_name := by
  obtain ⟨f, fd, hf, F⟩ := T
  have hb : Binds K fd ["_law_pool_here", "_law_start", "_law_taken"] [] := F.binds fun _ _ _ _ _ _ us hl => match us, hl with | [_, _, _], _ => rfl
  exact fn_mkC F sc__law_name hb (mx _ hf) rfl fun cdv A outer s H E hcd hr => (show SB (cxOf CX0 P w K mg base ["_law_pool_here", "_law_start", "_law_taken", "_law_letters", "_law_name_here", "_law_k", "_law_last", "_law_words", "_law_found"] "_law_name" (defScope (top 6)) f cdv A outer s H E).nox EX0 (defBody (top 6)) b__law_name from
    have nd : (["_law_pool_here", "_law_start", "_law_taken", "_law_letters", "_law_name_here", "_law_k", "_law_last", "_law_words", "_law_found"] : List Str).Nodup := sc__law_name.nd
    (sb_cons (s_set 3 nd se_str) (sb_cons (s_set 4 nd (se_var 1)) (sb_cons (s_for PassesOwn.never rfl (si_range rfl z_range (se_call F__law_draw (hr.mono (by decide)) rfl (sa_cons (se_var 0) (sa_cons se_int sa_nil)))) (sg_name 5 nd) (sb_cons (s_set 4 nd (se_add (se_var 4) (se_ix (se_var 3) (se_call F__law_draw (hr.mono (by decide)) rfl (sa_cons (se_var 0) (sa_cons se_int sa_nil)))))) sb_nil)) (sb_cons (s_set 6 nd (se_call F__law_draw (hr.mono (by decide)) rfl (sa_cons (se_var 0) (sa_cons se_int sa_nil)))) (sb_cons (s_set 7 nd (se_lst (sa_cons se_str (sa_cons se_str (sa_cons se_str (sa_cons se_str (sa_cons se_str (sa_cons se_str (sa_cons se_str (sa_cons se_str (sa_cons se_str (sa_cons se_str (sa_cons se_str (sa_cons se_str (sa_cons se_str sa_nil))))))))))))))) (sb_cons (s_for PassesOwn.never rfl (si_range rfl z_range se_int) (sg_name 5 nd) (sb_cons (s_set 8 nd (se_add (se_var 4) (se_ix (se_var 3) (se_mod (se_add (se_var 6) (se_var 5)) se_int)))) (sb_cons (s_if (SW.sc (sw_and (sc_c co_notin (se_var 8) (se_var 7)) (sw_and1 (sc_c co_notin (se_var 8) (se_var 2))))) (sb_cons (s_ret (se_var 8)) sb_nil) sb_nil) sb_nil))) (sb_cons (s_ret (se_add (se_var 4) se_str)) sb_nil))))))))
noncomputable def b__law_names : G → M Out :=
  (bCons (sAsg (fun _ => pure (.str "abcdefghijklmnopqrstuvwxyz")) (gN 2)) (bCons (sAsg (fun _ => pure (.str "")) (gN 3)) (bCons (sFor (iRange (e2 fIx (eLst (aCons (fun _ => pure (.int 0)) (aCons (fun _ => pure (.int 0)) (aCons (fun _ => pure (.int 1)) (aCons (fun _ => pure (.int 4)) aNil))))) (eFn 2 m__law_draw (aCons (eVar 0) (aCons (fun _ => pure (.int 4)) aNil))))) (gN 4) (bCons (sAsg (e2 fAdd (eVar 3) (e2 fIx (eVar 2) (eFn 2 m__law_draw (aCons (eVar 0) (aCons (fun _ => pure (.int 26)) aNil))))) (gN 3)) bNil)) (bCons (sAsg (eLst aNil) (gN 5)) (bCons (sFor (iRange (eVar 1)) (gN 4) (bCons (sExpr (eM1 fAppend (eVar 5) (eFn 3 m__law_name (aCons (eVar 0) (aCons (eVar 3) (aCons (eVar 5) aNil)))))) bNil)) (bCons (sRet (eVar 5)) bNil))))))
noncomputable def m__law_names : List D → M D := runF 6 b__law_names
theorem sc__law_names : FnScope ["_law_pool_here", "_law_many", "_law_letters", "_law_start", "_law_k", "_law_names_here"] ["_law_pool_here", "_law_many"] (defScope (top 7)) := ⟨rfl, rfl, rfl, by decide +kernel, rfl, by decide +kernel, by decide +kernel⟩
theorem ok__law_names {P : Program} {w : World} {K : PySem.W.Frag} {mg : Str → Option Value} {base : Heap} (T : DefAt K "_law_names" (top 7)) (mx : ∀ v, PySem.W.nsIn K mainGlobals "_law_names" = some (some v) → mg "_law_names" = some v) (z_range : mg "range" = none) (F__law_draw : Fn P w K mg base 1 "_law_draw" 2 m__law_draw) (F__law_name : Fn P w K mg base 2 "_law_name" 3 m__law_name) : Fn P w K mg base 3 "_law_names" 2 m__law_names := by
  obtain ⟨f, fd, hf, F⟩ := T
  have hb : Binds K fd ["_law_pool_here", "_law_many"] [] := F.binds fun _ _ _ _ _ _ us hl => match us, hl with | [_, _], _ => rfl
  exact fn_mkC F sc__law_names hb (mx _ hf) rfl fun cdv A outer s H E hcd hr => (show SB (cxOf CX0 P w K mg base ["_law_pool_here", "_law_many", "_law_letters", "_law_start", "_law_k", "_law_names_here"] "_law_names" (defScope (top 7)) f cdv A outer s H E).nox EX0 (defBody (top 7)) b__law_names from
    have nd : (["_law_pool_here", "_law_many", "_law_letters", "_law_start", "_law_k", "_law_names_here"] : List Str).Nodup := sc__law_names.nd
    (sb_cons (s_set 2 nd se_str) (sb_cons (s_set 3 nd se_str) (sb_cons (s_for PassesOwn.never rfl (si_range rfl z_range (se_ix (se_lst (sa_cons se_int (sa_cons se_int (sa_cons se_int (sa_cons se_int sa_nil))))) (se_call F__law_draw (hr.mono (by decide)) rfl (sa_cons (se_var 0) (sa_cons se_int sa_nil))))) (sg_name 4 nd) (sb_cons (s_set 3 nd (se_add (se_var 3) (se_ix (se_var 2) (se_call F__law_draw (hr.mono (by decide)) rfl (sa_cons (se_var 0) (sa_cons se_int sa_nil)))))) sb_nil)) (sb_cons (s_set 5 nd (se_lst sa_nil)) (sb_cons (s_for PassesOwn.never rfl (si_range rfl z_range (se_var 1)) (sg_name 4 nd) (sb_cons (s_expr (se_append (se_var 5) (se_call F__law_name (hr.mono (by decide)) rfl (sa_cons (se_var 0) (sa_cons (se_var 3) (sa_cons (se_var 5) sa_nil)))))) sb_nil)) (sb_cons (s_ret (se_var 5)) sb_nil)))))))
noncomputable def b__law_great_machine : G → M Out :=
  (bCons (sAsg (e2 fAdd (fun _ => pure (.int 1)) (eFn 2 m__law_draw (aCons (eVar 0) (aCons (fun _ => pure (.int 40)) aNil)))) (gN 2)) (bCons (sIf (fun γ => do let d ← e2 (fEq false) (eFn 2 m__law_draw (aCons (eVar 0) (aCons (fun _ => pure (.int 4)) aNil))) (fun _ => pure (.int 0)) γ; asB d) (bCons (sAsg (fun _ => pure (.int 40)) (gN 2)) bNil) bNil) (bCons (sAsg (eFn 2 m__law_draw (aCons (eVar 0) (aCons (fun _ => pure (.int 3)) aNil))) (gN 3)) (bCons (sAsg (eLst aNil) (gN 4)) (bCons (sAsg (eLst aNil) (gN 5)) (bCons (sFor (iRange (eVar 2)) (gN 6) (bCons (sAsg (eLst (aCons (eFn 2 m__law_draw (aCons (eVar 0) (aCons (fun _ => pure (.int 1048576)) aNil))) (aCons (eFn 2 m__law_draw (aCons (eVar 0) (aCons (fun _ => pure (.int 1048576)) aNil))) aNil))) (gN 7)) (bCons (sIf (fun γ => do let d ← e2 fGt (eVar 3) (fun _ => pure (.int 0)) γ; asB d) (bCons (sAsg (eLst (aCons (e2 fAnd (e2 fIx (eVar 7) (fun _ => pure (.int 0))) (eFn 2 m__law_draw (aCons (eVar 0) (aCons (fun _ => pure (.int 1048576)) aNil)))) (aCons (e2 fAnd (e2 fIx (eVar 7) (fun _ => pure (.int 1))) (eFn 2 m__law_draw (aCons (eVar 0) (aCons (fun _ => pure (.int 1048576)) aNil)))) aNil))) (gN 7)) bNil) bNil) (bCons (sExpr (eM1 fAppend (eVar 4) (eCall fTuple (aCons (eComp [some 7, none] (iRange (eVar 2)) (gN 1) (fun γ => do let d ← e2 (fEq false) (e2 fAnd (e2 fShr (e2 fIx (eVar 0) (e2 fDiv (eVar 1) (fun _ => pure (.int 20)))) (e2 fMod (eVar 1) (fun _ => pure (.int 20)))) (fun _ => pure (.int 1))) (fun _ => pure (.int 1)) γ; asB d) (eVar 1)) aNil)))) (bCons (sAsg (eFn 2 m__law_draw (aCons (eVar 0) (aCons (fun _ => pure (.int 256)) aNil))) (gN 8)) (bCons (sExpr (eM1 fAppend (eVar 5) (eCall fTuple (aCons (eCall fSorted (aCons (eComp [some 1, some 8, none] (iRange (eCall fLen (aCons (eVar 1) aNil))) (gN 2) (fun γ => do let d ← e2 (fEq false) (e2 fAnd (e2 fShr (eVar 1) (eVar 2)) (fun _ => pure (.int 1))) (fun _ => pure (.int 1)) γ; asB d) (e2 fIx (eVar 0) (eVar 2))) aNil)) aNil)))) bNil)))))) (bCons (sRet (eTup (aCons (eCall fTuple (aCons (eVar 4) aNil)) (aCons (eCall fTuple (aCons (eVar 5) aNil)) aNil)))) bNil)))))))
noncomputable def m__law_great_machine : List D → M D := runF 9 b__law_great_machine
theorem sc__law_great_machine : FnScope ["_law_pool_here", "_law_names_here", "_law_many", "_law_dense", "_law_steps", "_law_marks", "_law_k", "_law_bits", "_law_worn"] ["_law_pool_here", "_law_names_here"] (defScope (top 8)) := ⟨rfl, rfl, rfl, by decide +kernel, rfl, by decide +kernel, by decide +kernel⟩
theorem ok__law_great_machine {P : Program} {w : World} {K : PySem.W.Frag} {mg : Str → Option Value} {base : Heap} (T : DefAt K "_law_great_machine" (top 8)) (mx : ∀ v, PySem.W.nsIn K mainGlobals "_law_great_machine" = some (some v) → mg "_law_great_machine" = some v) (z_len : mg "len" = none) (z_range : mg "range" = none) (z_sorted : mg "sorted" = none) (z_tuple : mg "tuple" = none) (F__law_draw : Fn P w K mg base 1 "_law_draw" 2 m__law_draw) : Fn P w K mg base 2 "_law_great_machine" 2 m__law_great_machine := by
  obtain ⟨f, fd, hf, F⟩ := T
  have hb : Binds K fd ["_law_pool_here", "_law_names_here"] [] := F.binds fun _ _ _ _ _ _ us hl => match us, hl with | [_, _], _ => rfl
  exact fn_mkC F sc__law_great_machine hb (mx _ hf) rfl fun cdv A outer s H E hcd hr => (show SB (cxOf CX0 P w K mg base ["_law_pool_here", "_law_names_here", "_law_many", "_law_dense", "_law_steps", "_law_marks", "_law_k", "_law_bits", "_law_worn"] "_law_great_machine" (defScope (top 8)) f cdv A outer s H E).nox EX0 (defBody (top 8)) b__law_great_machine from
    have nd : (["_law_pool_here", "_law_names_here", "_law_many", "_law_dense", "_law_steps", "_law_marks", "_law_k", "_law_bits", "_law_worn"] : List Str).Nodup := sc__law_great_machine.nd
    (sb_cons (s_set 2 nd (se_add se_int (se_call F__law_draw (hr.mono (by decide)) rfl (sa_cons (se_var 0) (sa_cons se_int sa_nil))))) (sb_cons (s_if (sc_c co_eq (se_call F__law_draw (hr.mono (by decide)) rfl (sa_cons (se_var 0) (sa_cons se_int sa_nil))) se_int) (sb_cons (s_set 2 nd se_int) sb_nil) sb_nil) (sb_cons (s_set 3 nd (se_call F__law_draw (hr.mono (by decide)) rfl (sa_cons (se_var 0) (sa_cons se_int sa_nil)))) (sb_cons (s_set 4 nd (se_lst sa_nil)) (sb_cons (s_set 5 nd (se_lst sa_nil)) (sb_cons (s_for PassesOwn.never rfl (si_range rfl z_range (se_var 2)) (sg_name 6 nd) (sb_cons (s_set 7 nd (se_lst (sa_cons (se_call F__law_draw (hr.mono (by decide)) rfl (sa_cons (se_var 0) (sa_cons se_int sa_nil))) (sa_cons (se_call F__law_draw (hr.mono (by decide)) rfl (sa_cons (se_var 0) (sa_cons se_int sa_nil))) sa_nil)))) (sb_cons (s_if (sc_c co_gt (se_var 3) se_int) (sb_cons (s_set 7 nd (se_lst (sa_cons (se_and (se_ix (se_var 7) se_int) (se_call F__law_draw (hr.mono (by decide)) rfl (sa_cons (se_var 0) (sa_cons se_int sa_nil)))) (sa_cons (se_and (se_ix (se_var 7) se_int) (se_call F__law_draw (hr.mono (by decide)) rfl (sa_cons (se_var 0) (sa_cons se_int sa_nil)))) sa_nil)))) sb_nil) sb_nil) (sb_cons (s_expr (se_append (se_var 4) (se_tuple rfl z_tuple (sa_cons (se_comp (N' := ["_law_bits", "_law_to"]) (cap := [some 7, none]) rfl (cs_mk (by first | rfl | kernel_rfl!)) (si_range rfl z_range (se_var 2)) (fun _ _ _ _ => (sgk_name 1 (show (["_law_bits", "_law_to"] : List Str).Nodup by decide +kernel))) (fun _ _ _ _ => (scs_one (sc_c co_eq (se_and (se_shr (se_ix (se_var 0) (se_div (se_var 1) se_int)) (se_mod (se_var 1) se_int)) se_int) se_int))) (fun _ _ _ _ => (se_var 1))) sa_nil)))) (sb_cons (s_set 8 nd (se_call F__law_draw (hr.mono (by decide)) rfl (sa_cons (se_var 0) (sa_cons se_int sa_nil)))) (sb_cons (s_expr (se_append (se_var 5) (se_tuple rfl z_tuple (sa_cons (se_sorted rfl rfl z_sorted (sa_cons (se_comp (N' := ["_law_names_here", "_law_worn", "_law_j"]) (cap := [some 1, some 8, none]) rfl (cs_mk (by first | rfl | kernel_rfl!)) (si_range rfl z_range (se_len rfl z_len (sa_cons (se_var 1) sa_nil))) (fun _ _ _ _ => (sgk_name 2 (show (["_law_names_here", "_law_worn", "_law_j"] : List Str).Nodup by decide +kernel))) (fun _ _ _ _ => (scs_one (sc_c co_eq (se_and (se_shr (se_var 1) (se_var 2)) se_int) se_int))) (fun _ _ _ _ => (se_ix (se_var 0) (se_var 2)))) sa_nil)) sa_nil)))) sb_nil)))))) (sb_cons (s_ret (se_tup (sa_cons (se_tuple rfl z_tuple (sa_cons (se_var 4) sa_nil)) (sa_cons (se_tuple rfl z_tuple (sa_cons (se_var 5) sa_nil)) sa_nil)))) sb_nil))))))))
noncomputable def b__law_number : G → M Out :=
  (bCons (sRet (eAnd (eIsi "int" (eVar 0)) (eAnd (eNot (eIsi "bool" (eVar 0))) (e3 fLe fLt (eVar 1) (eVar 0) (eVar 2))))) bNil)
noncomputable def m__law_number : List D → M D := runF 3 b__law_number
theorem sc__law_number : FnScope ["_law_thing", "_law_low", "_law_high"] ["_law_thing", "_law_low", "_law_high"] (defScope (top 9)) := ⟨rfl, rfl, rfl, by decide +kernel, rfl, by decide +kernel, by decide +kernel⟩
theorem ok__law_number {P : Program} {w : World} {K : PySem.W.Frag} {mg : Str → Option Value} {base : Heap} (T : DefAt K "_law_number" (top 9)) (mx : ∀ v, PySem.W.nsIn K mainGlobals "_law_number" = some (some v) → mg "_law_number" = some v) (z_bool : mg "bool" = none) (z_int : mg "int" = none) (z_isinstance : mg "isinstance" = none) : Fn P w K mg base 1 "_law_number" 3 m__law_number := by
  obtain ⟨f, fd, hf, F⟩ := T
  have hb : Binds K fd ["_law_thing", "_law_low", "_law_high"] [] := F.binds fun _ _ _ _ _ _ us hl => match us, hl with | [_, _, _], _ => rfl
  exact fn_mkC F sc__law_number hb (mx _ hf) rfl fun cdv A outer s H E hcd hr => (show SB (cxOf CX0 P w K mg base ["_law_thing", "_law_low", "_law_high"] "_law_number" (defScope (top 9)) f cdv A outer s H E).nox EX0 (defBody (top 9)) b__law_number from
    have nd : (["_law_thing", "_law_low", "_law_high"] : List Str).Nodup := sc__law_number.nd
    (sb_cons (s_ret (se_band (se_isi rfl z_isinstance rfl z_int (by decide +kernel) (by decide) (se_var 0)) (se_band (se_bnot (se_isi rfl z_isinstance rfl z_bool (by decide +kernel) (by decide) (se_var 0))) (se_one (se_c2 co_le co_lt (se_var 1) (se_var 0) (se_var 2)))))) sb_nil))
noncomputable def b__law_tuple : G → M Out :=
  (bCons (sRet (eAnd (eIsi "tuple" (eVar 0)) (e3 fLe fLe (eVar 1) (eCall fLen (aCons (eVar 0) aNil)) (eVar 2)))) bNil)
noncomputable def m__law_tuple : List D → M D := runF 3 b__law_tuple
theorem sc__law_tuple : FnScope ["_law_thing", "_law_least", "_law_most"] ["_law_thing", "_law_least", "_law_most"] (defScope (top 10)) := ⟨rfl, rfl, rfl, by decide +kernel, rfl, by decide +kernel, by decide +kernel⟩
theorem ok__law_tuple {P : Program} {w : World} {K : PySem.W.Frag} {mg : Str → Option Value} {base : Heap} (T : DefAt K "_law_tuple" (top 10)) (mx : ∀ v, PySem.W.nsIn K mainGlobals "_law_tuple" = some (some v) → mg "_law_tuple" = some v) (z_isinstance : mg "isinstance" = none) (z_len : mg "len" = none) (z_tuple : mg "tuple" = none) : Fn P w K mg base 1 "_law_tuple" 3 m__law_tuple := by
  obtain ⟨f, fd, hf, F⟩ := T
  have hb : Binds K fd ["_law_thing", "_law_least", "_law_most"] [] := F.binds fun _ _ _ _ _ _ us hl => match us, hl with | [_, _, _], _ => rfl
  exact fn_mkC F sc__law_tuple hb (mx _ hf) rfl fun cdv A outer s H E hcd hr => (show SB (cxOf CX0 P w K mg base ["_law_thing", "_law_least", "_law_most"] "_law_tuple" (defScope (top 10)) f cdv A outer s H E).nox EX0 (defBody (top 10)) b__law_tuple from
    have nd : (["_law_thing", "_law_least", "_law_most"] : List Str).Nodup := sc__law_tuple.nd
    (sb_cons (s_ret (se_band (se_isi rfl z_isinstance rfl z_tuple (by decide +kernel) (by decide) (se_var 0)) (se_one (se_c2 co_le co_le (se_var 1) (se_len rfl z_len (sa_cons (se_var 0) sa_nil)) (se_var 2))))) sb_nil))
noncomputable def b__law_good_set : G → M Out :=
  (bCons (sIf (cNot (cVal (eFn 3 m__law_tuple (aCons (eVar 0) (aCons (fun _ => pure (.int 0)) (aCons (eVar 1) aNil)))))) (bCons (sRet (fun _ => pure (.bl false))) bNil) bNil) (bCons (sFor (iRange (eCall fLen (aCons (eVar 0) aNil))) (gN 2) (bCons (sIf (cOr (cNot (cVal (eFn 3 m__law_number (aCons (e2 fIx (eVar 0) (eVar 2)) (aCons (fun _ => pure (.int 0)) (aCons (eVar 1) aNil)))))) (cAnd (fun γ => do let d ← e2 fGt (eVar 2) (fun _ => pure (.int 0)) γ; asB d) (fun γ => do let d ← e2 fGe (e2 fIx (eVar 0) (e2 fSub (eVar 2) (fun _ => pure (.int 1)))) (e2 fIx (eVar 0) (eVar 2)) γ; asB d))) (bCons (sRet (fun _ => pure (.bl false))) bNil) bNil) bNil)) (bCons (sRet (fun _ => pure (.bl true))) bNil)))
noncomputable def m__law_good_set : List D → M D := runF 3 b__law_good_set
theorem sc__law_good_set : FnScope ["_law_thing", "_law_many", "_law_k"] ["_law_thing", "_law_many"] (defScope (top 11)) := ⟨rfl, rfl, rfl, by decide +kernel, rfl, by decide +kernel, by decide +kernel⟩
theorem ok__law_good_set {P : Program} {w : World} {K : PySem.W.Frag} {mg : Str → Option Value} {base : Heap} (T : DefAt K "_law_good_set" (top 11)) (mx : ∀ v, PySem.W.nsIn K mainGlobals "_law_good_set" = some (some v) → mg "_law_good_set" = some v) (z_len : mg "len" = none) (z_range : mg "range" = none) (F__law_number : Fn P w K mg base 1 "_law_number" 3 m__law_number) (F__law_tuple : Fn P w K mg base 1 "_law_tuple" 3 m__law_tuple) : Fn P w K mg base 2 "_law_good_set" 2 m__law_good_set := by
  obtain ⟨f, fd, hf, F⟩ := T
  have hb : Binds K fd ["_law_thing", "_law_many"] [] := F.binds fun _ _ _ _ _ _ us hl => match us, hl with | [_, _], _ => rfl
  exact fn_mkC F sc__law_good_set hb (mx _ hf) rfl fun cdv A outer s H E hcd hr => (show SB (cxOf CX0 P w K mg base ["_law_thing", "_law_many", "_law_k"] "_law_good_set" (defScope (top 11)) f cdv A outer s H E).nox EX0 (defBody (top 11)) b__law_good_set from
    have nd : (["_law_thing", "_law_many", "_law_k"] : List Str).Nodup := sc__law_good_set.nd
    (sb_cons (s_if (sc_not (sc_val (se_call F__law_tuple (hr.mono (by decide)) rfl (sa_cons (se_var 0) (sa_cons se_int (sa_cons (se_var 1) sa_nil)))))) (sb_cons (s_ret se_bl) sb_nil) sb_nil) (sb_cons (s_for PassesOwn.never rfl (si_range rfl z_range (se_len rfl z_len (sa_cons (se_var 0) sa_nil))) (sg_name 2 nd) (sb_cons (s_if (SW.sc (sw_or (sc_not (sc_val (se_call F__law_number (hr.mono (by decide)) rfl (sa_cons (se_ix (se_var 0) (se_var 2)) (sa_cons se_int (sa_cons (se_var 1) sa_nil)))))) (sw_or1 (SW.sc (sw_and (sc_c co_gt (se_var 2) se_int) (sw_and1 (sc_c co_ge (se_ix (se_var 0) (se_sub (se_var 2) se_int)) (se_ix (se_var 0) (se_var 2))))))))) (sb_cons (s_ret se_bl) sb_nil) sb_nil) sb_nil)) (sb_cons (s_ret se_bl) sb_nil))))
noncomputable def b__law_chain : G → M Out :=
  (bCons (sAsg (eCall fLen (aCons (e2 fIx (eVar 1) (fun _ => pure (.int 0))) aNil)) (gN 2)) (bCons (sAsg (e2 fMul (eLst (aCons (eTup aNil) aNil)) (eVar 2)) (gN 3)) (bCons (sAsg (eFn 2 m__law_draw (aCons (eVar 0) (aCons (fun _ => pure (.int 2)) aNil))) (gN 4)) (bCons (sFor (iRange (e2 fSub (eVar 2) (fun _ => pure (.int 1)))) (gN 5) (bCons (sIf (fun γ => do let d ← e2 (fEq false) (eVar 4) (fun _ => pure (.int 0)) γ; asB d) (bCons (sAsg (eTup (aCons (e2 fAdd (eVar 5) (fun _ => pure (.int 1))) aNil)) (gIx (eVar 3) (eVar 5))) bNil) (bCons (sAsg (eTup (aCons (eVar 5) aNil)) (gIx (eVar 3) (e2 fAdd (eVar 5) (fun _ => pure (.int 1))))) bNil)) bNil)) (bCons (sAsg (eTup (aCons (eFn 2 m__law_draw (aCons (eVar 0) (aCons (eVar 2) aNil))) aNil)) (gIx (eVar 3) (eFn 2 m__law_draw (aCons (eVar 0) (aCons (eVar 2) aNil))))) (bCons (sRet (eTup (aCons (eCall fTuple (aCons (eVar 3) aNil)) (aCons (e2 fIx (eVar 1) (fun _ => pure (.int 1))) aNil)))) bNil))))))
noncomputable def m__law_chain : List D → M D := runF 6 b__law_chain
theorem sc__law_chain : FnScope ["_law_pool_here", "_law_machine", "_law_many", "_law_steps", "_law_turn", "_law_k"] ["_law_pool_here", "_law_machine"] (defScope (top 12)) := ⟨rfl, rfl, rfl, by decide +kernel, rfl, by decide +kernel, by decide +kernel⟩
theorem ok__law_chain {P : Program} {w : World} {K : PySem.W.Frag} {mg : Str → Option Value} {base : Heap} (T : DefAt K "_law_chain" (top 12)) (mx : ∀ v, PySem.W.nsIn K mainGlobals "_law_chain" = some (some v) → mg "_law_chain" = some v) (z_len : mg "len" = none) (z_range : mg "range" = none) (z_tuple : mg "tuple" = none) (F__law_draw : Fn P w K mg base 1 "_law_draw" 2 m__law_draw) : Fn P w K mg base 2 "_law_chain" 2 m__law_chain := by
  obtain ⟨f, fd, hf, F⟩ := T
  have hb : Binds K fd ["_law_pool_here", "_law_machine"] [] := F.binds fun _ _ _ _ _ _ us hl => match us, hl with | [_, _], _ => rfl
  exact fn_mkC F sc__law_chain hb (mx _ hf) rfl fun cdv A outer s H E hcd hr => (show SB (cxOf CX0 P w K mg base ["_law_pool_here", "_law_machine", "_law_many", "_law_steps", "_law_turn", "_law_k"] "_law_chain" (defScope (top 12)) f cdv A outer s H E).nox EX0 (defBody (top 12)) b__law_chain from
    have nd : (["_law_pool_here", "_law_machine", "_law_many", "_law_steps", "_law_turn", "_law_k"] : List Str).Nodup := sc__law_chain.nd
    (sb_cons (s_set 2 nd (se_len rfl z_len (sa_cons (se_ix (se_var 1) se_int) sa_nil))) (sb_cons (s_set 3 nd (se_mul (se_lst (sa_cons (se_tup sa_nil) sa_nil)) (se_var 2))) (sb_cons (s_set 4 nd (se_call F__law_draw (hr.mono (by decide)) rfl (sa_cons (se_var 0) (sa_cons se_int sa_nil)))) (sb_cons (s_for PassesOwn.never rfl (si_range rfl z_range (se_sub (se_var 2) se_int)) (sg_name 5 nd) (sb_cons (s_if (sc_c co_eq (se_var 4) se_int) (sb_cons (s_asg (se_tup (sa_cons (se_add (se_var 5) se_int) sa_nil)) (sg_ix (se_var 3) (se_var 5))) sb_nil) (sb_cons (s_asg (se_tup (sa_cons (se_var 5) sa_nil)) (sg_ix (se_var 3) (se_add (se_var 5) se_int))) sb_nil)) sb_nil)) (sb_cons (s_asg (se_tup (sa_cons (se_call F__law_draw (hr.mono (by decide)) rfl (sa_cons (se_var 0) (sa_cons (se_var 2) sa_nil))) sa_nil)) (sg_ix (se_var 3) (se_call F__law_draw (hr.mono (by decide)) rfl (sa_cons (se_var 0) (sa_cons (se_var 2) sa_nil))))) (sb_cons (s_ret (se_tup (sa_cons (se_tuple rfl z_tuple (sa_cons (se_var 3) sa_nil)) (sa_cons (se_ix (se_var 1) se_int) sa_nil)))) sb_nil)))))))
noncomputable def b__law_walk : G → M Out :=
  (bCons (sAsg (eLst (aCons (eVar 1) aNil)) (gN 2)) (bCons (sAsg (fun _ => pure (.int 0)) (gN 3)) (bCons (whileR (fun γ => do let d ← e2 fLt (eVar 3) (eCall fLen (aCons (eVar 2) aNil)) γ; asB d) (bCons (sFor (iSeqT (e2 fIx (e2 fIx (eVar 0) (fun _ => pure (.int 0))) (e2 fIx (eVar 2) (eVar 3)))) (gN 4) (bCons (sIf (fun γ => do let d ← e2 (fIn true) (eVar 4) (eVar 2) γ; asB d) (bCons (sExpr (eM1 fAppend (eVar 2) (eVar 4))) bNil) bNil) bNil)) (bCons (sAsg (e2 fAdd (eVar 3) (fun _ => pure (.int 1))) (gN 3)) bNil)) 1000000) (bCons (sRet (eCall fSorted (aCons (eVar 2) aNil))) bNil))))
noncomputable def m__law_walk : List D → M D := runF 5 b__law_walk
theorem sc__law_walk : FnScope ["_law_machine", "_law_standing", "_law_found", "_law_at", "_law_to"] ["_law_machine", "_law_standing"] (defScope (top 13)) := ⟨rfl, rfl, rfl, by decide +kernel, rfl, by decide +kernel, by decide +kernel⟩
theorem ok__law_walk {P : Program} {w : World} {K : PySem.W.Frag} {mg : Str → Option Value} {base : Heap} (T : DefAt K "_law_walk" (top 13)) (mx : ∀ v, PySem.W.nsIn K mainGlobals "_law_walk" = some (some v) → mg "_law_walk" = some v) (z_len : mg "len" = none) (z_sorted : mg "sorted" = none) : Fn P w K mg base 1 "_law_walk" 2 m__law_walk := by
  obtain ⟨f, fd, hf, F⟩ := T
  have hb : Binds K fd ["_law_machine", "_law_standing"] [] := F.binds fun _ _ _ _ _ _ us hl => match us, hl with | [_, _], _ => rfl
  exact fn_mkC F sc__law_walk hb (mx _ hf) rfl fun cdv A outer s H E hcd hr => (show SB (cxOf CX0 P w K mg base ["_law_machine", "_law_standing", "_law_found", "_law_at", "_law_to"] "_law_walk" (defScope (top 13)) f cdv A outer s H E).nox EX0 (defBody (top 13)) b__law_walk from
    have nd : (["_law_machine", "_law_standing", "_law_found", "_law_at", "_law_to"] : List Str).Nodup := sc__law_walk.nd
    (sb_cons (s_set 2 nd (se_lst (sa_cons (se_var 1) sa_nil))) (sb_cons (s_set 3 nd se_int) (sb_cons (s_while 1000000 PassesOwn.never (sc_c co_lt (se_var 3) (se_len rfl z_len (sa_cons (se_var 2) sa_nil))) (sb_cons (s_for PassesOwn.never rfl (si_tup (se_ix (se_ix (se_var 0) se_int) (se_ix (se_var 2) (se_var 3)))) (sg_name 4 nd) (sb_cons (s_if (sc_c co_notin (se_var 4) (se_var 2)) (sb_cons (s_expr (se_append (se_var 2) (se_var 4))) sb_nil) sb_nil) sb_nil)) (sb_cons (s_set 3 nd (se_add (se_var 3) se_int)) sb_nil))) (sb_cons (s_ret (se_sorted rfl rfl z_sorted (sa_cons (se_var 2) sa_nil))) sb_nil)))))
noncomputable def b__law_right : G → M Out :=
  (bCons (sAsg (eCall fLen (aCons (e2 fIx (eVar 0) (fun _ => pure (.int 0))) aNil)) (gN 2)) (bCons (sAsg (eFn 2 m_behind (aCons (eVar 0) (aCons (eVar 1) aNil))) (gN 3)) (bCons (sIf (cNot (cVal (eFn 2 m__law_good_set (aCons (eVar 3) (aCons (eVar 2) aNil))))) (bCons (sRet (fun _ => pure (.bl false))) bNil) bNil) (bCons (sIf (fun γ => do let d ← e2 (fEqL true) (eCall fList (aCons (eVar 3) aNil)) (eComp [some 1, some 0, none] (iRange (eVar 2)) (gN 2) (fun γ => do let d ← e2 (fIn false) (eVar 0) (e2 fIx (e2 fIx (eVar 1) (fun _ => pure (.int 0))) (eVar 2)) γ; asB d) (eVar 2)) γ; asB d) (bCons (sRet (fun _ => pure (.bl false))) bNil) bNil) (bCons (sAsg (eFn 2 m_reached (aCons (eVar 0) (aCons (eVar 1) aNil))) (gN 3)) (bCons (sRet (eAnd (eFn 2 m__law_good_set (aCons (eVar 3) (aCons (eVar 2) aNil))) (e2 (fEqL false) (eCall fList (aCons (eVar 3) aNil)) (eFn 2 m__law_walk (aCons (eVar 0) (aCons (eVar 1) aNil)))))) bNil))))))
noncomputable def m__law_right : List D → M D := runF 4 b__law_right
theorem sc__law_right : FnScope ["_law_machine", "_law_standing", "_law_many", "_law_found"] ["_law_machine", "_law_standing"] (defScope (top 14)) := ⟨rfl, rfl, rfl, by decide +kernel, rfl, by decide +kernel, by decide +kernel⟩
theorem ok__law_right {P : Program} {w : World} {K : PySem.W.Frag} {mg : Str → Option Value} {base : Heap} (T : DefAt K "_law_right" (top 14)) (mx : ∀ v, PySem.W.nsIn K mainGlobals "_law_right" = some (some v) → mg "_law_right" = some v) (z_len : mg "len" = none) (z_list : mg "list" = none) (z_range : mg "range" = none) (F__law_good_set : Fn P w K mg base 2 "_law_good_set" 2 m__law_good_set) (F__law_walk : Fn P w K mg base 1 "_law_walk" 2 m__law_walk) (F_behind : Fn P w K mg base 1 "behind" 2 m_behind) (F_reached : Fn P w K mg base 1 "reached" 2 m_reached) : Fn P w K mg base 3 "_law_right" 2 m__law_right := by
  obtain ⟨f, fd, hf, F⟩ := T
  have hb : Binds K fd ["_law_machine", "_law_standing"] [] := F.binds fun _ _ _ _ _ _ us hl => match us, hl with | [_, _], _ => rfl
  exact fn_mkC F sc__law_right hb (mx _ hf) rfl fun cdv A outer s H E hcd hr => (show SB (cxOf CX0 P w K mg base ["_law_machine", "_law_standing", "_law_many", "_law_found"] "_law_right" (defScope (top 14)) f cdv A outer s H E).nox EX0 (defBody (top 14)) b__law_right from
    have nd : (["_law_machine", "_law_standing", "_law_many", "_law_found"] : List Str).Nodup := sc__law_right.nd
    (sb_cons (s_set 2 nd (se_len rfl z_len (sa_cons (se_ix (se_var 0) se_int) sa_nil))) (sb_cons (s_set 3 nd (se_call F_behind (hr.mono (by decide)) rfl (sa_cons (se_var 0) (sa_cons (se_var 1) sa_nil)))) (sb_cons (s_if (sc_not (sc_val (se_call F__law_good_set (hr.mono (by decide)) rfl (sa_cons (se_var 3) (sa_cons (se_var 2) sa_nil))))) (sb_cons (s_ret se_bl) sb_nil) sb_nil) (sb_cons (s_if (sc_c (co_neL (Nat.lt_of_succ_lt (hu_of hr))) (se_list rfl z_list (sa_cons (se_var 3) sa_nil)) (se_comp (N' := ["_law_standing", "_law_machine", "_law_k"]) (cap := [some 1, some 0, none]) rfl (cs_mk (by first | rfl | kernel_rfl!)) (si_range rfl z_range (se_var 2)) (fun _ _ _ _ => (sgk_name 2 (show (["_law_standing", "_law_machine", "_law_k"] : List Str).Nodup by decide +kernel))) (fun _ _ _ _ => (scs_one (sc_c co_in (se_var 0) (se_ix (se_ix (se_var 1) se_int) (se_var 2))))) (fun _ _ _ _ => (se_var 2)))) (sb_cons (s_ret se_bl) sb_nil) sb_nil) (sb_cons (s_set 3 nd (se_call F_reached (hr.mono (by decide)) rfl (sa_cons (se_var 0) (sa_cons (se_var 1) sa_nil)))) (sb_cons (s_ret (se_band (se_call F__law_good_set (hr.mono (by decide)) rfl (sa_cons (se_var 3) (sa_cons (se_var 2) sa_nil))) (se_one (se_c (co_eqL (Nat.lt_of_succ_lt (hu_of hr))) (se_list rfl z_list (sa_cons (se_var 3) sa_nil)) (se_call F__law_walk (hr.mono (by decide)) rfl (sa_cons (se_var 0) (sa_cons (se_var 1) sa_nil))))))) sb_nil)))))))
noncomputable def b_law : G → M Out :=
  (bCons (sAsg (eFn 1 m__law_pool (aCons (eVar 0) aNil)) (gN 1)) (bCons (sAsg (e2 (fEq false) (eFn 2 m__law_draw (aCons (eVar 1) (aCons (fun _ => pure (.int 4)) aNil))) (fun _ => pure (.int 0))) (gN 2)) (bCons (sAsg (eFn 2 m__law_great_machine (aCons (eVar 1) (aCons (eFn 2 m__law_names (aCons (eVar 1) (aCons (eFn 2 m__law_draw (aCons (eVar 1) (aCons (fun _ => pure (.int 4)) aNil))) aNil))) aNil))) (gN 3)) (bCons (sIf (cVal (eVar 2)) (bCons (sAsg (eFn 2 m__law_chain (aCons (eVar 1) (aCons (eVar 3) aNil))) (gN 3)) bNil) bNil) (bCons (sAsg (eFn 2 m__law_draw (aCons (eVar 1) (aCons (eCall fLen (aCons (e2 fIx (eVar 3) (fun _ => pure (.int 0))) aNil)) aNil))) (gN 4)) (bCons (sAsg (eFn 2 m__law_draw (aCons (eVar 1) (aCons (eCall fLen (aCons (e2 fIx (eVar 3) (fun _ => pure (.int 0))) aNil)) aNil))) (gN 5)) (bCons (sRet (eAnd (eFn 2 m__law_right (aCons (eVar 3) (aCons (eVar 4) aNil))) (eAnd (eFn 2 m__law_right (aCons (eVar 3) (aCons (eVar 5) aNil))) (eFn 2 m__law_right (aCons (eVar 3) (aCons (eVar 4) aNil)))))) bNil)))))))
noncomputable def m_law : List D → M D := runF 6 b_law
theorem sc_law : FnScope ["_law_script", "_law_pool_here", "_law_row", "_law_machine", "_law_one", "_law_other"] ["_law_script"] (defScope (top 15)) := ⟨rfl, rfl, rfl, by decide +kernel, rfl, by decide +kernel, by decide +kernel⟩
theorem ok_law {P : Program} {w : World} {K : PySem.W.Frag} {mg : Str → Option Value} {base : Heap} (T : DefAt K "law" (top 15)) (mx : ∀ v, PySem.W.nsIn K mainGlobals "law" = some (some v) → mg "law" = some v) (z_len : mg "len" = none) (F__law_chain : Fn P w K mg base 2 "_law_chain" 2 m__law_chain) (F__law_draw : Fn P w K mg base 1 "_law_draw" 2 m__law_draw) (F__law_great_machine : Fn P w K mg base 2 "_law_great_machine" 2 m__law_great_machine) (F__law_names : Fn P w K mg base 3 "_law_names" 2 m__law_names) (F__law_pool : Fn P w K mg base 1 "_law_pool" 1 m__law_pool) (F__law_right : Fn P w K mg base 3 "_law_right" 2 m__law_right) : Fn P w K mg base 4 "law" 1 m_law := by
  obtain ⟨f, fd, hf, F⟩ := T
  have hb : Binds K fd ["_law_script"] [] := F.binds fun _ _ _ _ _ _ us hl => match us, hl with | [_], _ => rfl
  exact fn_mkC F sc_law hb (mx _ hf) rfl fun cdv A outer s H E hcd hr => (show SB (cxOf CX0 P w K mg base ["_law_script", "_law_pool_here", "_law_row", "_law_machine", "_law_one", "_law_other"] "law" (defScope (top 15)) f cdv A outer s H E).nox EX0 (defBody (top 15)) b_law from
    have nd : (["_law_script", "_law_pool_here", "_law_row", "_law_machine", "_law_one", "_law_other"] : List Str).Nodup := sc_law.nd
    (sb_cons (s_set 1 nd (se_call F__law_pool (hr.mono (by decide)) rfl (sa_cons (se_var 0) sa_nil))) (sb_cons (s_set 2 nd (se_c co_eq (se_call F__law_draw (hr.mono (by decide)) rfl (sa_cons (se_var 1) (sa_cons se_int sa_nil))) se_int)) (sb_cons (s_set 3 nd (se_call F__law_great_machine (hr.mono (by decide)) rfl (sa_cons (se_var 1) (sa_cons (se_call F__law_names (hr.mono (by decide)) rfl (sa_cons (se_var 1) (sa_cons (se_call F__law_draw (hr.mono (by decide)) rfl (sa_cons (se_var 1) (sa_cons se_int sa_nil))) sa_nil))) sa_nil)))) (sb_cons (s_if (sc_val (se_var 2)) (sb_cons (s_set 3 nd (se_call F__law_chain (hr.mono (by decide)) rfl (sa_cons (se_var 1) (sa_cons (se_var 3) sa_nil)))) sb_nil) sb_nil) (sb_cons (s_set 4 nd (se_call F__law_draw (hr.mono (by decide)) rfl (sa_cons (se_var 1) (sa_cons (se_len rfl z_len (sa_cons (se_ix (se_var 3) se_int) sa_nil)) sa_nil)))) (sb_cons (s_set 5 nd (se_call F__law_draw (hr.mono (by decide)) rfl (sa_cons (se_var 1) (sa_cons (se_len rfl z_len (sa_cons (se_ix (se_var 3) se_int) sa_nil)) sa_nil)))) (sb_cons (s_ret (se_band (se_call F__law_right (hr.mono (by decide)) rfl (sa_cons (se_var 3) (sa_cons (se_var 4) sa_nil))) (se_band (se_call F__law_right (hr.mono (by decide)) rfl (sa_cons (se_var 3) (sa_cons (se_var 5) sa_nil))) (se_one (se_call F__law_right (hr.mono (by decide)) rfl (sa_cons (se_var 3) (sa_cons (se_var 4) sa_nil))))))) sb_nil))))))))
end FT
set_option Elab.async false
set_option linter.all false
set_option maxRecDepth 100000
set_option maxHeartbeats 2000000
namespace FT
open PySem PySem.Spec PyProof.Rows L2
theorem draw1 (g0 : Int) (gr sm : List Int) (s c : Int) (r : AH) (n : Int) (hn : 0 < n) (hn2 : n < 1073741824) (hg : gr.length ≤ 63) :
    ∃ gr', gr'.length ≤ gr.length + 1 ∧ m__law_draw [.ref 2, .int n] (Pool (g0 :: gr) sm s c r) = .ok (.int (g0 % n)) (Pool gr' sm s c r) := by
  unfold m__law_draw runF b__law_draw Pool startG
  have hl : gr.length ≤ sizeLine := Nat.le_trans hg (by decide)
  by_cases h0 : g0 / n = 0
  · refine ⟨gr, by omega, ?_⟩
    simp [bCons, bNil, sIf, sAsg, sRet, sExpr, e2, eCall, aCons, aNil, eVar, fIx, seqD, getL, fLen, fGt, fCmp, fI, asB, gIx, gN, fSet, fDiv, fIC, eM1, asRef, fPopAt, updL, fEq, eqD, fMod, atI, ixN, hn, hn2, h0, seqIndex?, hl]
  · refine ⟨g0 / n :: gr, by simp, ?_⟩
    simp [bCons, bNil, sIf, sAsg, sRet, sExpr, e2, eCall, aCons, aNil, eVar, fIx, seqD, getL, fLen, fGt, fCmp, fI, asB, gIx, gN, fSet, fDiv, fIC, eM1, asRef, fPopAt, updL, fEq, eqD, fMod, atI, ixN, hn, hn2, h0]
theorem draw2 (sm : List Int) (s c : Int) (r : AH) (n : Int) (hn : 0 < n) (hn2 : n < 1073741824) (hs : 0 ≤ s) (hs2 : s < 2147483647) (hc : 0 ≤ c) (hc2 : c < 1000000) (hm : sm.length ≤ 63) :
    ∃ s' d, m__law_draw [.ref 2, .int n] (Pool [] sm s c r) = .ok (.int d) (Pool [] sm s' (c + 1) r) ∧ 0 ≤ d ∧ d < n ∧ 0 ≤ s' ∧ s' < 2147483647 := by
  have k1 : -18446744073709551616 < c + 1 := by omega
  have k2 : c + 1 < 18446744073709551616 := by omega
  have k3 : -18446744073709551616 < s := by omega
  have k4 : s < 18446744073709551616 := by omega
  have key : ∀ x : Int, (∃ y : Int, m__law_draw [.ref 2, .int n] (Pool [] sm s c r) = .ok (.int ((((s * 48271 + x % 2147483629 * ((c + 1) * (c + 1) + 1) + 97 * (c + 1)) % 2147483647) ^ 5) % 2147483629 / 64 % n)) (Pool [] sm ((s * 48271 + x % 2147483629 * ((c + 1) * (c + 1) + 1) + 97 * (c + 1)) % 2147483647) (c + 1) r)) →
      ∃ s' d, m__law_draw [.ref 2, .int n] (Pool [] sm s c r) = .ok (.int d) (Pool [] sm s' (c + 1) r) ∧ 0 ≤ d ∧ d < n ∧ 0 ≤ s' ∧ s' < 2147483647 := fun x ⟨_, e⟩ =>
    ⟨_, _, e, Int.emod_nonneg _ (by omega), Int.emod_lt_of_pos _ hn, Int.emod_nonneg _ (by decide), Int.emod_lt_of_pos _ (by decide)⟩
  have p1 : ∀ z : Int, -18446744073709551616 < z % 2147483647 := fun z => by omega
  have p2 : ∀ z : Int, z % 2147483647 < 18446744073709551616 := fun z => by omega
  have p3 : ∀ z : Int, -18446744073709551616 < z % 2147483629 := fun z => by omega
  have p4 : ∀ z : Int, z % 2147483629 < 18446744073709551616 := fun z => by omega
  cases sm with
  | nil =>
    refine key 0 ⟨0, ?_⟩
    unfold m__law_draw runF b__law_draw Pool startG
    simp [bCons, bNil, sIf, sAsg, sRet, sExpr, e2, eCall, aCons, aNil, eVar, fIx, seqD, getL, fLen, fGt, fCmp, fI, asB, gIx, gN, fSet, fDiv, fIC, eM1, asRef, fPopAt, updL, fEq, eqD, fMod, fAdd, fMul, fPow, atI, ixN, hn, hn2, k1, k2, k3, k4, p1, p2, p3, p4]
  | cons m0 sm =>
    have hl : (0 : Int) < (sm.length : Int) + 1 := by omega
    have hi : 0 ≤ (c + 1) % ((sm.length : Int) + 1) := Int.emod_nonneg _ (by omega)
    have hi2 : (c + 1) % ((sm.length : Int) + 1) < (sm.length : Int) + 1 := Int.emod_lt_of_pos _ hl
    obtain ⟨x, hx⟩ : ∃ x, (D.int m0 :: sm.map D.int)[((c + 1) % ((sm.length : Int) + 1)).toNat]? = some (.int x) := by
      have e : (D.int m0 :: sm.map D.int) = (m0 :: sm).map D.int := rfl
      rw [e, List.getElem?_map, List.getElem?_eq_getElem (by simp; omega)]
      exact ⟨_, rfl⟩
    have hx2 : ∀ hj, (D.int m0 :: List.map D.int sm)[((c + 1) % ((sm.length : Int) + 1)).toNat]'hj = D.int x := fun hj => Option.some.inj ((List.getElem?_eq_getElem hj).symm.trans hx)
    refine key x ⟨0, ?_⟩
    unfold m__law_draw runF b__law_draw Pool startG
    simp [bCons, bNil, sIf, sAsg, sRet, sExpr, e2, eCall, aCons, aNil, eVar, fIx, seqD, getL, fLen, fGt, fCmp, fI, asB, gIx, gN, fSet, fDiv, fIC, eM1, asRef, fPopAt, updL, fEq, eqD, fMod, fAdd, fMul, fPow, atI, ixN, hn, hn2, k1, k2, k3, k4, p1, p2, p3, p4, hi, hi2, hl, hx, hx2]
theorem draw {h : AH} {k n : Int} {r : AH} (p : PS h k r) (hk : k < 1000000) (hn : 0 < n) (hn2 : n < 1073741824) : ∃ d h', m__law_draw [.ref 2, .int n] h = .ok (.int d) h' ∧ 0 ≤ d ∧ d < n ∧ PS h' (k + 1) r := by
  obtain ⟨gr, sm, s, c, rfl, h1, h2, h3, h4, h5, h6⟩ := p
  cases gr with
  | nil =>
    obtain ⟨s', d, e, q1, q2, q3, q4⟩ := draw2 sm s c r n hn hn2 h1 h2 h3 (by omega) h6
    exact ⟨d, _, e, q1, q2, [], sm, s', c + 1, rfl, q3, q4, by omega, by omega, by simp, h6⟩
  | cons g0 gr =>
    simp at h5
    obtain ⟨gr', l, e⟩ := draw1 g0 gr sm s c r n hn hn2 (by omega)
    exact ⟨_, _, e, Int.emod_nonneg _ (by omega), Int.emod_lt_of_pos _ hn, gr', sm, s, c, rfl, h1, h2, h3, by omega, by omega, h6⟩
theorem w_draw {h : AH} {k n : Int} {r : AH} {Q : D → AH → Prop} (p : PS h k r) (hk : k < 1000000) (hn : 0 < n) (hn2 : n < 1073741824) (z : ∀ d h', 0 ≤ d → d < n → PS h' (k + 1) r → Q (.int d) h') : W (m__law_draw [.ref 2, .int n]) h Q := by
  obtain ⟨d, h', e, d0, d1, p'⟩ := draw p hk hn hn2
  exact ⟨_, _, e, z d h' d0 d1 p'⟩
end FT
set_option Elab.async false
set_option linter.all false
set_option maxRecDepth 100000
set_option maxHeartbeats 2000000
namespace FT
open PySem PySem.Spec PyProof.Rows L2
theorem law_name {h : AH} {k : Int} {r : AH} {i : Nat} {start : Str} {ns : List Str} (p : PS h k r) (hk : k < 1000) (lo : low start) (hs : start.length ≤ 4) (e : r[i]? = some (.lst (ns.map .str))) (hn : ns.length ≤ 7) :
    W (m__law_name [.ref 2, .str start, .ref (i + 3)]) h (fun d h' => ∃ x j, d = .str x ∧ PS h' (k + 5) (r ++ j) ∧ goodN x ∧ x ∉ ns) := by
  refine w_run ?_
  show W (b__law_name [some (.ref 2), some (.str start), some (.ref (i + 3)), none, none, none, none, none, none]) h _
  unfold b__law_name
  rw [show ("abcdefghijklmnopqrstuvwxyz" : Str) = abc from rfl]
  rw [w_cons]; simp only [W_bind, W_pure, W_bad, W_ite, w_nil, contW_nx, contW_rt, sAsg, sExpr, sRet, sIf, e2, e3, eVar, gN, gIx, eFn, aCons, aNil, eCall, eTup, eLst, eM1, eM0, eMS, W_asRef, eIsi, isi_bl, isi_int, isi_str, isi_tup, asB_bl, truD_bl, cVal, cNot, cAnd, cOr, eAnd, eOr, eNot, eIf, oSome, oNone, eSlice, List.getElem?_cons_succ, List.getElem?_cons_zero, List.set_cons_succ, List.set_cons_zero, List.length_cons, List.length_nil, Nat.reduceAdd, if_true, if_false, Bool.not_true, Bool.not_false, ite_true, ite_false, reduceIte, Bool.false_eq_true, reduceCtorEq, add_ii, sub_ii, gt_ii, ge_ii, lt_ii, le_ii, eq_ii]
  rw [w_cons]; simp only [W_bind, W_pure, W_bad, W_ite, w_nil, contW_nx, contW_rt, sAsg, sExpr, sRet, sIf, e2, e3, eVar, gN, gIx, eFn, aCons, aNil, eCall, eTup, eLst, eM1, eM0, eMS, W_asRef, eIsi, isi_bl, isi_int, isi_str, isi_tup, asB_bl, truD_bl, cVal, cNot, cAnd, cOr, eAnd, eOr, eNot, eIf, oSome, oNone, eSlice, List.getElem?_cons_succ, List.getElem?_cons_zero, List.set_cons_succ, List.set_cons_zero, List.length_cons, List.length_nil, Nat.reduceAdd, if_true, if_false, Bool.not_true, Bool.not_false, ite_true, ite_false, reduceIte, Bool.false_eq_true, reduceCtorEq, add_ii, sub_ii, gt_ii, ge_ii, lt_ii, le_ii, eq_ii]
  rw [w_cons]
  refine for_range (fun c γ h => ∃ x w, γ = [some (.ref 2), some (.str start), some (.ref (i + 3)), some (.str abc), some (.str x), w, none, none, none] ∧ PS h (k + 1 + c) r ∧ low x ∧ x.length ≤ 4 + c) (fun _ _ => False) ?_
  simp only [W_bind, W_pure, W_bad, W_ite, w_nil, contW_nx, contW_rt, sAsg, sExpr, sRet, sIf, e2, e3, eVar, gN, gIx, eFn, aCons, aNil, eCall, eTup, eLst, eM1, eM0, eMS, W_asRef, eIsi, isi_bl, isi_int, isi_str, isi_tup, asB_bl, truD_bl, cVal, cNot, cAnd, cOr, eAnd, eOr, eNot, eIf, oSome, oNone, eSlice, List.getElem?_cons_succ, List.getElem?_cons_zero, List.set_cons_succ, List.set_cons_zero, List.length_cons, List.length_nil, Nat.reduceAdd, if_true, if_false, Bool.not_true, Bool.not_false, ite_true, ite_false, reduceIte, Bool.false_eq_true, reduceCtorEq, add_ii, sub_ii, gt_ii, ge_ii, lt_ii, le_ii, eq_ii]
  refine w_draw p (by omega) (by decide) (by decide) fun d h1 d0 d1 p1 => ?_
  refine ⟨d.toNat, by rw [Int.toNat_of_nonneg d0], by omega, ⟨start, none, rfl, by simpa using p1, lo, by omega⟩, ?_, ?_, fun _ _ q => q.elim⟩
  · rintro c γ h2 hc ⟨x, w, rfl, p2, lx, hx⟩
    rw [w_cons]; simp only [W_bind, W_pure, W_bad, W_ite, w_nil, contW_nx, contW_rt, sAsg, sExpr, sRet, sIf, e2, e3, eVar, gN, gIx, eFn, aCons, aNil, eCall, eTup, eLst, eM1, eM0, eMS, W_asRef, eIsi, isi_bl, isi_int, isi_str, isi_tup, asB_bl, truD_bl, cVal, cNot, cAnd, cOr, eAnd, eOr, eNot, eIf, oSome, oNone, eSlice, List.getElem?_cons_succ, List.getElem?_cons_zero, List.set_cons_succ, List.set_cons_zero, List.length_cons, List.length_nil, Nat.reduceAdd, if_true, if_false, Bool.not_true, Bool.not_false, ite_true, ite_false, reduceIte, Bool.false_eq_true, reduceCtorEq, add_ii, sub_ii, gt_ii, ge_ii, lt_ii, le_ii, eq_ii]
    refine w_draw p2 (by omega) (by decide) (by decide) fun d h1 d0 d1 p1 => ?_
    refine w_letter (k := k) (r := r) d0 d1 (by omega) ?_
    refine ⟨_, _, rfl, p1.up (by omega), low_app lx (by omega) (by omega), by rw [len_app, one_len]; omega⟩
  rintro γ h2 ⟨x, w, rfl, p2, lx, hx⟩
  rw [w_cons]; simp only [W_bind, W_pure, W_bad, W_ite, w_nil, contW_nx, contW_rt, sAsg, sExpr, sRet, sIf, e2, e3, eVar, gN, gIx, eFn, aCons, aNil, eCall, eTup, eLst, eM1, eM0, eMS, W_asRef, eIsi, isi_bl, isi_int, isi_str, isi_tup, asB_bl, truD_bl, cVal, cNot, cAnd, cOr, eAnd, eOr, eNot, eIf, oSome, oNone, eSlice, List.getElem?_cons_succ, List.getElem?_cons_zero, List.set_cons_succ, List.set_cons_zero, List.length_cons, List.length_nil, Nat.reduceAdd, if_true, if_false, Bool.not_true, Bool.not_false, ite_true, ite_false, reduceIte, Bool.false_eq_true, reduceCtorEq, add_ii, sub_ii, gt_ii, ge_ii, lt_ii, le_ii, eq_ii]
  refine w_draw (p2.up (show _ ≤ k + 4 by omega)) (by omega) (by decide) (by decide) fun l h3 l0 l1 p3 => ?_
  rw [w_cons]; simp only [W_bind, W_pure, W_bad, W_ite, w_nil, contW_nx, contW_rt, sAsg, sExpr, sRet, sIf, e2, e3, eVar, gN, gIx, eFn, aCons, aNil, eCall, eTup, eLst, eM1, eM0, eMS, W_asRef, eIsi, isi_bl, isi_int, isi_str, isi_tup, asB_bl, truD_bl, cVal, cNot, cAnd, cOr, eAnd, eOr, eNot, eIf, oSome, oNone, eSlice, List.getElem?_cons_succ, List.getElem?_cons_zero, List.set_cons_succ, List.set_cons_zero, List.length_cons, List.length_nil, Nat.reduceAdd, if_true, if_false, Bool.not_true, Bool.not_false, ite_true, ite_false, reduceIte, Bool.false_eq_true, reduceCtorEq, add_ii, sub_ii, gt_ii, ge_ii, lt_ii, le_ii, eq_ii]
  rw [show [D.str "yes", D.str "no", D.str "not", D.str "and", D.str "or", D.str "step", D.str "some", D.str "all", D.str "next", D.str "once", D.str "ever", D.str "until", D.str "unless"] = words.map D.str from rfl]
  refine w_newL p3 (by decide) fun h4 p4 => ?_
  rw [w_cons]
  refine for_range (fun c γ h => ∃ w w', γ = [some (.ref 2), some (.str start), some (.ref (i + 3)), some (.str abc), some (.str x), w, some (.int l), some (.ref (r.length + 3)), w'] ∧ PS h (k + 5) (r ++ [.lst (words.map .str)]) ∧ ∀ c' : Nat, c' < c → cand x l c' ∈ words ∨ cand x l c' ∈ ns) (fun d h => ∃ c : Nat, d = .str (cand x l c) ∧ cand x l c ∉ words ∧ cand x l c ∉ ns ∧ PS h (k + 5) (r ++ [.lst (words.map .str)])) ?_
  rw [W_pure]
  refine ⟨26, rfl, by decide, ⟨_, _, rfl, p4.up (by omega), fun c' hc => by omega⟩, ?_, ?_, ?_⟩
  · rintro c γ h5 hc ⟨w, w', rfl, p5, hb⟩
    rw [w_cons]; simp only [W_bind, W_pure, W_bad, W_ite, w_nil, contW_nx, contW_rt, sAsg, sExpr, sRet, sIf, e2, e3, eVar, gN, gIx, eFn, aCons, aNil, eCall, eTup, eLst, eM1, eM0, eMS, W_asRef, eIsi, isi_bl, isi_int, isi_str, isi_tup, asB_bl, truD_bl, cVal, cNot, cAnd, cOr, eAnd, eOr, eNot, eIf, oSome, oNone, eSlice, List.getElem?_cons_succ, List.getElem?_cons_zero, List.set_cons_succ, List.set_cons_zero, List.length_cons, List.length_nil, Nat.reduceAdd, if_true, if_false, Bool.not_true, Bool.not_false, ite_true, ite_false, reduceIte, Bool.false_eq_true, reduceCtorEq, add_ii, sub_ii, gt_ii, ge_ii, lt_ii, le_ii, eq_ii]
    have m1 : fMod (.int (l + c)) (.int 26) = pure (.int ((l + c) % 26)) := rfl
    rw [m1, W_pure]
    refine w_letter (k := k) (r := r) (Int.emod_nonneg _ (by decide)) (Int.emod_lt_of_pos _ (by decide)) (by omega) ?_
    rw [w_cons]; simp only [W_bind, W_pure, W_bad, W_ite, w_nil, contW_nx, contW_rt, sAsg, sExpr, sRet, sIf, e2, e3, eVar, gN, gIx, eFn, aCons, aNil, eCall, eTup, eLst, eM1, eM0, eMS, W_asRef, eIsi, isi_bl, isi_int, isi_str, isi_tup, asB_bl, truD_bl, cVal, cNot, cAnd, cOr, eAnd, eOr, eNot, eIf, oSome, oNone, eSlice, List.getElem?_cons_succ, List.getElem?_cons_zero, List.set_cons_succ, List.set_cons_zero, List.length_cons, List.length_nil, Nat.reduceAdd, if_true, if_false, Bool.not_true, Bool.not_false, ite_true, ite_false, reduceIte, Bool.false_eq_true, reduceCtorEq, add_ii, sub_ii, gt_ii, ge_ii, lt_ii, le_ii, eq_ii]
    refine W.of (in_lst p5 at_new) ?_
    rw [asB_bl, W_pure]
    by_cases q1 : cand x l c ∈ words
    · have : (decide (x ++ { cps := #[((l + (c : Int)) % 26).toNat + 97] } ∈ words) != true) = false := by
        rw [show decide (x ++ { cps := #[((l + (c : Int)) % 26).toNat + 97] } ∈ words) = true from decide_eq_true q1]; rfl
      rw [this]
      simp only [W_bind, W_pure, W_bad, W_ite, w_nil, contW_nx, contW_rt, sAsg, sExpr, sRet, sIf, e2, e3, eVar, gN, gIx, eFn, aCons, aNil, eCall, eTup, eLst, eM1, eM0, eMS, W_asRef, eIsi, isi_bl, isi_int, isi_str, isi_tup, asB_bl, truD_bl, cVal, cNot, cAnd, cOr, eAnd, eOr, eNot, eIf, oSome, oNone, eSlice, List.getElem?_cons_succ, List.getElem?_cons_zero, List.set_cons_succ, List.set_cons_zero, List.length_cons, List.length_nil, Nat.reduceAdd, if_true, if_false, Bool.not_true, Bool.not_false, ite_true, ite_false, reduceIte, Bool.false_eq_true, reduceCtorEq, add_ii, sub_ii, gt_ii, ge_ii, lt_ii, le_ii, eq_ii]
      refine ⟨_, _, rfl, p5, fun c' hc' => ?_⟩
      by_cases e' : c' = c
      · subst e'; exact .inl q1
      · exact hb c' (by omega)
    · have : (decide (x ++ { cps := #[((l + (c : Int)) % 26).toNat + 97] } ∈ words) != true) = true := by
        rw [show decide (x ++ { cps := #[((l + (c : Int)) % 26).toNat + 97] } ∈ words) = false from decide_eq_false q1]; rfl
      rw [this]
      simp only [W_bind, W_pure, W_bad, W_ite, w_nil, contW_nx, contW_rt, sAsg, sExpr, sRet, sIf, e2, e3, eVar, gN, gIx, eFn, aCons, aNil, eCall, eTup, eLst, eM1, eM0, eMS, W_asRef, eIsi, isi_bl, isi_int, isi_str, isi_tup, asB_bl, truD_bl, cVal, cNot, cAnd, cOr, eAnd, eOr, eNot, eIf, oSome, oNone, eSlice, List.getElem?_cons_succ, List.getElem?_cons_zero, List.set_cons_succ, List.set_cons_zero, List.length_cons, List.length_nil, Nat.reduceAdd, if_true, if_false, Bool.not_true, Bool.not_false, ite_true, ite_false, reduceIte, Bool.false_eq_true, reduceCtorEq, add_ii, sub_ii, gt_ii, ge_ii, lt_ii, le_ii, eq_ii]
      refine W.of (in_lst p5 (at_app e)) ?_
      by_cases q2 : cand x l c ∈ ns
      · have : (decide (x ++ { cps := #[((l + (c : Int)) % 26).toNat + 97] } ∈ ns) != true) = false := by
          rw [show decide (x ++ { cps := #[((l + (c : Int)) % 26).toNat + 97] } ∈ ns) = true from decide_eq_true q2]; rfl
        rw [this]
        simp only [W_bind, W_pure, W_bad, W_ite, w_nil, contW_nx, contW_rt, sAsg, sExpr, sRet, sIf, e2, e3, eVar, gN, gIx, eFn, aCons, aNil, eCall, eTup, eLst, eM1, eM0, eMS, W_asRef, eIsi, isi_bl, isi_int, isi_str, isi_tup, asB_bl, truD_bl, cVal, cNot, cAnd, cOr, eAnd, eOr, eNot, eIf, oSome, oNone, eSlice, List.getElem?_cons_succ, List.getElem?_cons_zero, List.set_cons_succ, List.set_cons_zero, List.length_cons, List.length_nil, Nat.reduceAdd, if_true, if_false, Bool.not_true, Bool.not_false, ite_true, ite_false, reduceIte, Bool.false_eq_true, reduceCtorEq, add_ii, sub_ii, gt_ii, ge_ii, lt_ii, le_ii, eq_ii]
        refine ⟨_, _, rfl, p5, fun c' hc' => ?_⟩
        by_cases e' : c' = c
        · subst e'; exact .inr q2
        · exact hb c' (by omega)
      · have : (decide (x ++ { cps := #[((l + (c : Int)) % 26).toNat + 97] } ∈ ns) != true) = true := by
          rw [show decide (x ++ { cps := #[((l + (c : Int)) % 26).toNat + 97] } ∈ ns) = false from decide_eq_false q2]; rfl
        rw [this]
        simp only [W_bind, W_pure, W_bad, W_ite, w_nil, contW_nx, contW_rt, sAsg, sExpr, sRet, sIf, e2, e3, eVar, gN, gIx, eFn, aCons, aNil, eCall, eTup, eLst, eM1, eM0, eMS, W_asRef, eIsi, isi_bl, isi_int, isi_str, isi_tup, asB_bl, truD_bl, cVal, cNot, cAnd, cOr, eAnd, eOr, eNot, eIf, oSome, oNone, eSlice, List.getElem?_cons_succ, List.getElem?_cons_zero, List.set_cons_succ, List.set_cons_zero, List.length_cons, List.length_nil, Nat.reduceAdd, if_true, if_false, Bool.not_true, Bool.not_false, ite_true, ite_false, reduceIte, Bool.false_eq_true, reduceCtorEq, add_ii, sub_ii, gt_ii, ge_ii, lt_ii, le_ii, eq_ii]
        rw [w_cons]; simp only [W_bind, W_pure, W_bad, W_ite, w_nil, contW_nx, contW_rt, sAsg, sExpr, sRet, sIf, e2, e3, eVar, gN, gIx, eFn, aCons, aNil, eCall, eTup, eLst, eM1, eM0, eMS, W_asRef, eIsi, isi_bl, isi_int, isi_str, isi_tup, asB_bl, truD_bl, cVal, cNot, cAnd, cOr, eAnd, eOr, eNot, eIf, oSome, oNone, eSlice, List.getElem?_cons_succ, List.getElem?_cons_zero, List.set_cons_succ, List.set_cons_zero, List.length_cons, List.length_nil, Nat.reduceAdd, if_true, if_false, Bool.not_true, Bool.not_false, ite_true, ite_false, reduceIte, Bool.false_eq_true, reduceCtorEq, add_ii, sub_ii, gt_ii, ge_ii, lt_ii, le_ii, eq_ii]
        exact ⟨c, rfl, q1, q2, p5⟩
  · rintro γ h5 ⟨w, w', rfl, p5, hb⟩
    exact (pigeon l0 hn hb).elim
  · rintro d h5 ⟨c, rfl, q1, q2, p5⟩
    refine ⟨cand x l c, [.lst (words.map .str)], rfl, p5, ⟨?_, ?_, ?_, q1⟩, q2⟩
    · unfold cand; rw [len_app, one_len]; omega
    · unfold cand; rw [len_app, one_len]; omega
    · exact low_app lx (by omega) (by omega)
end FT
set_option Elab.async false
set_option linter.all false
set_option maxRecDepth 100000
set_option maxHeartbeats 2000000
namespace FT
open PySem PySem.Spec PyProof.Rows L2
theorem law_names {h : AH} {k : Int} {r : AH} {n : Nat} (p : PS h k r) (hk : k < 500) (hn : n ≤ 8) :
    W (m__law_names [.ref 2, .int n]) h (fun d h' => ∃ i ns r', d = .ref (i + 3) ∧ PS h' (k + 45) r' ∧ r'[i]? = some (.lst (ns.map .str)) ∧ ns.length = n ∧ NS ns) := by
  refine w_run ?_
  show W (b__law_names [some (.ref 2), some (.int n), none, none, none, none]) h _
  unfold b__law_names
  rw [show ("abcdefghijklmnopqrstuvwxyz" : Str) = abc from rfl]
  rw [w_cons]; simp only [W_bind, W_pure, W_bad, W_ite, w_nil, contW_nx, contW_rt, sAsg, sExpr, sRet, sIf, e2, e3, eVar, gN, gIx, eFn, aCons, aNil, eCall, eTup, eLst, eM1, eM0, eMS, W_asRef, eIsi, isi_bl, isi_int, isi_str, isi_tup, asB_bl, truD_bl, cVal, cNot, cAnd, cOr, eAnd, eOr, eNot, eIf, oSome, oNone, eSlice, List.getElem?_cons_succ, List.getElem?_cons_zero, List.set_cons_succ, List.set_cons_zero, List.length_cons, List.length_nil, Nat.reduceAdd, if_true, if_false, Bool.not_true, Bool.not_false, ite_true, ite_false, reduceIte, Bool.false_eq_true, reduceCtorEq, add_ii, sub_ii, gt_ii, ge_ii, lt_ii, le_ii, eq_ii]
  rw [w_cons]; simp only [W_bind, W_pure, W_bad, W_ite, w_nil, contW_nx, contW_rt, sAsg, sExpr, sRet, sIf, e2, e3, eVar, gN, gIx, eFn, aCons, aNil, eCall, eTup, eLst, eM1, eM0, eMS, W_asRef, eIsi, isi_bl, isi_int, isi_str, isi_tup, asB_bl, truD_bl, cVal, cNot, cAnd, cOr, eAnd, eOr, eNot, eIf, oSome, oNone, eSlice, List.getElem?_cons_succ, List.getElem?_cons_zero, List.set_cons_succ, List.set_cons_zero, List.length_cons, List.length_nil, Nat.reduceAdd, if_true, if_false, Bool.not_true, Bool.not_false, ite_true, ite_false, reduceIte, Bool.false_eq_true, reduceCtorEq, add_ii, sub_ii, gt_ii, ge_ii, lt_ii, le_ii, eq_ii]
  rw [w_cons]
  refine for_range (fun c γ h => ∃ x w, γ = [some (.ref 2), some (.int n), some (.str abc), some (.str x), w, none] ∧ PS h (k + 1 + c) (r ++ [.lst [.int 0, .int 0, .int 1, .int 4]]) ∧ low x ∧ x.length ≤ c) (fun _ _ => False) ?_
  simp only [W_bind, W_pure, W_bad, W_ite, w_nil, contW_nx, contW_rt, sAsg, sExpr, sRet, sIf, e2, e3, eVar, gN, gIx, eFn, aCons, aNil, eCall, eTup, eLst, eM1, eM0, eMS, W_asRef, eIsi, isi_bl, isi_int, isi_str, isi_tup, asB_bl, truD_bl, cVal, cNot, cAnd, cOr, eAnd, eOr, eNot, eIf, oSome, oNone, eSlice, List.getElem?_cons_succ, List.getElem?_cons_zero, List.set_cons_succ, List.set_cons_zero, List.length_cons, List.length_nil, Nat.reduceAdd, if_true, if_false, Bool.not_true, Bool.not_false, ite_true, ite_false, reduceIte, Bool.false_eq_true, reduceCtorEq, add_ii, sub_ii, gt_ii, ge_ii, lt_ii, le_ii, eq_ii]
  refine w_newL p (by decide) fun h1 p1 => ?_
  refine w_draw p1 (by omega) (by decide) (by decide) fun d h2 d0 d1 p2 => ?_
  obtain ⟨v, hv, ea⟩ : ∃ v : Nat, v ≤ 4 ∧ atI [D.int 0, D.int 0, D.int 1, D.int 4] d = some (.int v) := by
    have : d = 0 ∨ d = 1 ∨ d = 2 ∨ d = 3 := by omega
    rcases this with rfl | rfl | rfl | rfl
    · exact ⟨0, by decide, rfl⟩
    · exact ⟨0, by decide, rfl⟩
    · exact ⟨1, by decide, rfl⟩
    · exact ⟨4, by decide, rfl⟩
  refine w_ixr p2 at_new ea ?_
  refine ⟨v, rfl, by omega, ⟨_, none, rfl, by simpa using p2, low_nil, by rw [nil_len]; omega⟩, ?_, ?_, fun _ _ q => q.elim⟩
  · rintro c γ h3 hc ⟨x, w, rfl, p3, lx, hx⟩
    rw [w_cons]; simp only [W_bind, W_pure, W_bad, W_ite, w_nil, contW_nx, contW_rt, sAsg, sExpr, sRet, sIf, e2, e3, eVar, gN, gIx, eFn, aCons, aNil, eCall, eTup, eLst, eM1, eM0, eMS, W_asRef, eIsi, isi_bl, isi_int, isi_str, isi_tup, asB_bl, truD_bl, cVal, cNot, cAnd, cOr, eAnd, eOr, eNot, eIf, oSome, oNone, eSlice, List.getElem?_cons_succ, List.getElem?_cons_zero, List.set_cons_succ, List.set_cons_zero, List.length_cons, List.length_nil, Nat.reduceAdd, if_true, if_false, Bool.not_true, Bool.not_false, ite_true, ite_false, reduceIte, Bool.false_eq_true, reduceCtorEq, add_ii, sub_ii, gt_ii, ge_ii, lt_ii, le_ii, eq_ii]
    refine w_draw p3 (by omega) (by decide) (by decide) fun d h1 d0 d1 p1 => ?_
    refine w_letter (k := k) (r := r) d0 d1 (by omega) ?_
    refine ⟨_, _, rfl, p1.up (by omega), low_app lx (by omega) (by omega), by rw [len_app, one_len]; omega⟩
  rintro γ h3 ⟨x, w, rfl, p3, lx, hx⟩
  rw [w_cons]; simp only [W_bind, W_pure, W_bad, W_ite, w_nil, contW_nx, contW_rt, sAsg, sExpr, sRet, sIf, e2, e3, eVar, gN, gIx, eFn, aCons, aNil, eCall, eTup, eLst, eM1, eM0, eMS, W_asRef, eIsi, isi_bl, isi_int, isi_str, isi_tup, asB_bl, truD_bl, cVal, cNot, cAnd, cOr, eAnd, eOr, eNot, eIf, oSome, oNone, eSlice, List.getElem?_cons_succ, List.getElem?_cons_zero, List.set_cons_succ, List.set_cons_zero, List.length_cons, List.length_nil, Nat.reduceAdd, if_true, if_false, Bool.not_true, Bool.not_false, ite_true, ite_false, reduceIte, Bool.false_eq_true, reduceCtorEq, add_ii, sub_ii, gt_ii, ge_ii, lt_ii, le_ii, eq_ii]
  refine w_newL p3 (by decide) fun h4 p4 => ?_
  rw [w_cons]
  refine for_range (fun c γ h => ∃ ns w r', γ = [some (.ref 2), some (.int n), some (.str abc), some (.str x), w, some (.ref ((r ++ [O.lst [D.int 0, D.int 0, D.int 1, D.int 4]]).length + 3))] ∧ PS h (k + 5 + 5 * c) r' ∧ r'[(r ++ [O.lst [D.int 0, D.int 0, D.int 1, D.int 4]]).length]? = some (.lst (ns.map .str)) ∧ ns.length = c ∧ NS ns) (fun _ _ => False) ?_
  simp only [W_bind, W_pure, W_bad, W_ite, w_nil, contW_nx, contW_rt, sAsg, sExpr, sRet, sIf, e2, e3, eVar, gN, gIx, eFn, aCons, aNil, eCall, eTup, eLst, eM1, eM0, eMS, W_asRef, eIsi, isi_bl, isi_int, isi_str, isi_tup, asB_bl, truD_bl, cVal, cNot, cAnd, cOr, eAnd, eOr, eNot, eIf, oSome, oNone, eSlice, List.getElem?_cons_succ, List.getElem?_cons_zero, List.set_cons_succ, List.set_cons_zero, List.length_cons, List.length_nil, Nat.reduceAdd, if_true, if_false, Bool.not_true, Bool.not_false, ite_true, ite_false, reduceIte, Bool.false_eq_true, reduceCtorEq, add_ii, sub_ii, gt_ii, ge_ii, lt_ii, le_ii, eq_ii]
  refine ⟨n, rfl, by omega, ⟨[], _, _, rfl, p4.up (by omega), at_new, rfl, List.nodup_nil, by simp⟩, ?_, ?_, fun _ _ q => q.elim⟩
  · rintro c γ h5 hc ⟨ns, w, r', rfl, p5, e5, l5, n5⟩
    rw [w_cons]; simp only [W_bind, W_pure, W_bad, W_ite, w_nil, contW_nx, contW_rt, sAsg, sExpr, sRet, sIf, e2, e3, eVar, gN, gIx, eFn, aCons, aNil, eCall, eTup, eLst, eM1, eM0, eMS, W_asRef, eIsi, isi_bl, isi_int, isi_str, isi_tup, asB_bl, truD_bl, cVal, cNot, cAnd, cOr, eAnd, eOr, eNot, eIf, oSome, oNone, eSlice, List.getElem?_cons_succ, List.getElem?_cons_zero, List.set_cons_succ, List.set_cons_zero, List.length_cons, List.length_nil, Nat.reduceAdd, if_true, if_false, Bool.not_true, Bool.not_false, ite_true, ite_false, reduceIte, Bool.false_eq_true, reduceCtorEq, add_ii, sub_ii, gt_ii, ge_ii, lt_ii, le_ii, eq_ii]
    refine w_getL p5 e5 ?_
    refine (law_name p5 (by omega) lx (by omega) e5 (by omega)).mono fun y h6 ⟨z, j, ey, p6, gz, nz⟩ => ?_
    subst ey
    refine w_append p6 (at_app e5) (by simp; omega) fun h7 p7 => ?_
    refine ⟨ns ++ [z], _, _, rfl, p7.up (by omega), ?_, by simp [l5], ?_, ?_⟩
    · rw [List.getElem?_set_self (List.getElem?_eq_some_iff.mp (at_app e5)).1]
      simp
    · rw [List.nodup_append]
      refine ⟨n5.1, by simp, fun a ha b hb => ?_⟩
      simp at hb
      subst hb
      exact fun e => nz (e ▸ ha)
    · intro y hy
      rcases List.mem_append.mp hy with q | q
      · exact n5.2 y q
      · simp at q; subst q; exact gz
  · rintro γ h5 ⟨ns, w, r', rfl, p5, e5, l5, n5⟩
    rw [w_cons]; simp only [W_bind, W_pure, W_bad, W_ite, w_nil, contW_nx, contW_rt, sAsg, sExpr, sRet, sIf, e2, e3, eVar, gN, gIx, eFn, aCons, aNil, eCall, eTup, eLst, eM1, eM0, eMS, W_asRef, eIsi, isi_bl, isi_int, isi_str, isi_tup, asB_bl, truD_bl, cVal, cNot, cAnd, cOr, eAnd, eOr, eNot, eIf, oSome, oNone, eSlice, List.getElem?_cons_succ, List.getElem?_cons_zero, List.set_cons_succ, List.set_cons_zero, List.length_cons, List.length_nil, Nat.reduceAdd, if_true, if_false, Bool.not_true, Bool.not_false, ite_true, ite_false, reduceIte, Bool.false_eq_true, reduceCtorEq, add_ii, sub_ii, gt_ii, ge_ii, lt_ii, le_ii, eq_ii]
    exact ⟨_, ns, r', rfl, p5.up (by omega), e5, l5, n5⟩
end FT
set_option Elab.async false
set_option linter.all false
set_option maxRecDepth 100000
set_option maxHeartbeats 2000000
namespace FT
open PySem PySem.Spec PyProof.Rows L2
theorem law_machine {h : AH} {k : Int} {r : AH} {i : Nat} {ns : List Str} (p : PS h k r) (hk : k < 500) (e : r[i]? = some (.lst (ns.map .str))) (hn : ns.length ≤ 8) (hg : NS ns) :
    W (m__law_great_machine [.ref 2, .ref (i + 3)]) h (fun d h' => ∃ st mk r', d = maD st mk ∧ PS h' (k + 203) r' ∧ r'[i]? = some (.lst (ns.map .str)) ∧ MA st mk) := by
  refine w_run ?_
  show W (b__law_great_machine [some (.ref 2), some (.ref (i + 3)), none, none, none, none, none, none, none]) h _
  unfold b__law_great_machine
  rw [w_cons]; simp only [W_bind, W_pure, W_bad, W_ite, w_nil, contW_nx, contW_rt, sAsg, sExpr, sRet, sIf, e2, e3, eVar, gN, gIx, eFn, aCons, aNil, eCall, eTup, eLst, eM1, eM0, eMS, W_asRef, eIsi, isi_bl, isi_int, isi_str, isi_tup, asB_bl, truD_bl, cVal, cNot, cAnd, cOr, eAnd, eOr, eNot, eIf, oSome, oNone, eSlice, List.getElem?_cons_succ, List.getElem?_cons_zero, List.set_cons_succ, List.set_cons_zero, List.length_cons, List.length_nil, Nat.reduceAdd, if_true, if_false, Bool.not_true, Bool.not_false, ite_true, ite_false, reduceIte, Bool.false_eq_true, reduceCtorEq, add_ii, sub_ii, gt_ii, ge_ii, lt_ii, le_ii, eq_ii]
  refine w_draw p (by omega) (by decide) (by decide) fun d h1 d0 d1 p1 => ?_
  rw [add_ii, W_pure]
  refine w_seq (fun γ h => ∃ m : Nat, 1 ≤ m ∧ m ≤ 40 ∧ γ = [some (.ref 2), some (.ref (i + 3)), some (.int m), none, none, none, none, none, none] ∧ PS h (k + 2) r) ?_ ?_
  · simp only [W_bind, W_pure, W_bad, W_ite, w_nil, contW_nx, contW_rt, sAsg, sExpr, sRet, sIf, e2, e3, eVar, gN, gIx, eFn, aCons, aNil, eCall, eTup, eLst, eM1, eM0, eMS, W_asRef, eIsi, isi_bl, isi_int, isi_str, isi_tup, asB_bl, truD_bl, cVal, cNot, cAnd, cOr, eAnd, eOr, eNot, eIf, oSome, oNone, eSlice, List.getElem?_cons_succ, List.getElem?_cons_zero, List.set_cons_succ, List.set_cons_zero, List.length_cons, List.length_nil, Nat.reduceAdd, if_true, if_false, Bool.not_true, Bool.not_false, ite_true, ite_false, reduceIte, Bool.false_eq_true, reduceCtorEq, add_ii, sub_ii, gt_ii, ge_ii, lt_ii, le_ii, eq_ii]
    refine w_draw p1 (by omega) (by decide) (by decide) fun d' h2 d0' d1' p2 => ?_
    rw [eq_ii, W_pure, asB_bl, W_pure]
    split
    · rw [w_cons]; simp only [W_bind, W_pure, W_bad, W_ite, w_nil, contW_nx, contW_rt, sAsg, sExpr, sRet, sIf, e2, e3, eVar, gN, gIx, eFn, aCons, aNil, eCall, eTup, eLst, eM1, eM0, eMS, W_asRef, eIsi, isi_bl, isi_int, isi_str, isi_tup, asB_bl, truD_bl, cVal, cNot, cAnd, cOr, eAnd, eOr, eNot, eIf, oSome, oNone, eSlice, List.getElem?_cons_succ, List.getElem?_cons_zero, List.set_cons_succ, List.set_cons_zero, List.length_cons, List.length_nil, Nat.reduceAdd, if_true, if_false, Bool.not_true, Bool.not_false, ite_true, ite_false, reduceIte, Bool.false_eq_true, reduceCtorEq, add_ii, sub_ii, gt_ii, ge_ii, lt_ii, le_ii, eq_ii]
      exact ⟨40, by omega, by omega, rfl, p2.up (by omega)⟩
    · exact ⟨(1 + d).toNat, by omega, by omega, by rw [Int.toNat_of_nonneg (by omega)], p2.up (by omega)⟩
  rintro γ h2 ⟨m, m1, m2, rfl, p2⟩
  rw [w_cons]; simp only [W_bind, W_pure, W_bad, W_ite, w_nil, contW_nx, contW_rt, sAsg, sExpr, sRet, sIf, e2, e3, eVar, gN, gIx, eFn, aCons, aNil, eCall, eTup, eLst, eM1, eM0, eMS, W_asRef, eIsi, isi_bl, isi_int, isi_str, isi_tup, asB_bl, truD_bl, cVal, cNot, cAnd, cOr, eAnd, eOr, eNot, eIf, oSome, oNone, eSlice, List.getElem?_cons_succ, List.getElem?_cons_zero, List.set_cons_succ, List.set_cons_zero, List.length_cons, List.length_nil, Nat.reduceAdd, if_true, if_false, Bool.not_true, Bool.not_false, ite_true, ite_false, reduceIte, Bool.false_eq_true, reduceCtorEq, add_ii, sub_ii, gt_ii, ge_ii, lt_ii, le_ii, eq_ii]
  refine w_draw p2 (by omega) (by decide) (by decide) fun dn h3 dn0 dn1 p3 => ?_
  rw [w_cons]; simp only [W_bind, W_pure, W_bad, W_ite, w_nil, contW_nx, contW_rt, sAsg, sExpr, sRet, sIf, e2, e3, eVar, gN, gIx, eFn, aCons, aNil, eCall, eTup, eLst, eM1, eM0, eMS, W_asRef, eIsi, isi_bl, isi_int, isi_str, isi_tup, asB_bl, truD_bl, cVal, cNot, cAnd, cOr, eAnd, eOr, eNot, eIf, oSome, oNone, eSlice, List.getElem?_cons_succ, List.getElem?_cons_zero, List.set_cons_succ, List.set_cons_zero, List.length_cons, List.length_nil, Nat.reduceAdd, if_true, if_false, Bool.not_true, Bool.not_false, ite_true, ite_false, reduceIte, Bool.false_eq_true, reduceCtorEq, add_ii, sub_ii, gt_ii, ge_ii, lt_ii, le_ii, eq_ii]
  refine w_newL p3 (by decide) fun h4 p4 => ?_
  rw [w_cons]; simp only [W_bind, W_pure, W_bad, W_ite, w_nil, contW_nx, contW_rt, sAsg, sExpr, sRet, sIf, e2, e3, eVar, gN, gIx, eFn, aCons, aNil, eCall, eTup, eLst, eM1, eM0, eMS, W_asRef, eIsi, isi_bl, isi_int, isi_str, isi_tup, asB_bl, truD_bl, cVal, cNot, cAnd, cOr, eAnd, eOr, eNot, eIf, oSome, oNone, eSlice, List.getElem?_cons_succ, List.getElem?_cons_zero, List.set_cons_succ, List.set_cons_zero, List.length_cons, List.length_nil, Nat.reduceAdd, if_true, if_false, Bool.not_true, Bool.not_false, ite_true, ite_false, reduceIte, Bool.false_eq_true, reduceCtorEq, add_ii, sub_ii, gt_ii, ge_ii, lt_ii, le_ii, eq_ii]
  refine w_newL p4 (by decide) fun h5 p5 => ?_
  have i1 : r.length < (r ++ [O.lst []]).length := by simp
  generalize hr : (r ++ [O.lst []]) = r1 at p4 p5 i1 ⊢
  have E1 : (r1 ++ [O.lst []])[r.length]? = some (.lst (stsD [])) := by subst hr; exact at_app at_new
  have E2 : (r1 ++ [O.lst []])[r1.length]? = some (.lst (mksD [])) := at_new
  have E3 : (r1 ++ [O.lst []])[i]? = some (.lst (ns.map .str)) := by subst hr; exact at_app (at_app e)
  have i3 : i < r.length := lt_of_at e
  refine w_seq (fun γ h => ∃ st mk w w6 w7 w8 r', γ = [some (.ref 2), some (.ref (i + 3)), some (.int m), some (.int dn), some (.ref (r.length + 3)), some (.ref (r1.length + 3)), w, w7, w8] ∧ PS h (k + 203) r' ∧ r'[r.length]? = some (.lst (stsD st)) ∧ r'[r1.length]? = some (.lst (mksD mk)) ∧ r'[i]? = some (.lst (ns.map .str)) ∧ st.length = m ∧ mk.length = m ∧ AM st mk m ∧ w6 = true) ?_ ?_
  · refine for_range (fun c γ h => ∃ st mk w w7 w8 r', γ = [some (.ref 2), some (.ref (i + 3)), some (.int m), some (.int dn), some (.ref (r.length + 3)), some (.ref (r1.length + 3)), w, w7, w8] ∧ PS h (k + 3 + 5 * c) r' ∧ r'[r.length]? = some (.lst (stsD st)) ∧ r'[r1.length]? = some (.lst (mksD mk)) ∧ r'[i]? = some (.lst (ns.map .str)) ∧ st.length = c ∧ mk.length = c ∧ AM st mk m) (fun _ _ => False) ?_
    simp only [W_bind, W_pure, W_bad, W_ite, w_nil, contW_nx, contW_rt, sAsg, sExpr, sRet, sIf, e2, e3, eVar, gN, gIx, eFn, aCons, aNil, eCall, eTup, eLst, eM1, eM0, eMS, W_asRef, eIsi, isi_bl, isi_int, isi_str, isi_tup, asB_bl, truD_bl, cVal, cNot, cAnd, cOr, eAnd, eOr, eNot, eIf, oSome, oNone, eSlice, List.getElem?_cons_succ, List.getElem?_cons_zero, List.set_cons_succ, List.set_cons_zero, List.length_cons, List.length_nil, Nat.reduceAdd, if_true, if_false, Bool.not_true, Bool.not_false, ite_true, ite_false, reduceIte, Bool.false_eq_true, reduceCtorEq, add_ii, sub_ii, gt_ii, ge_ii, lt_ii, le_ii, eq_ii]
    refine ⟨m, rfl, by omega, ⟨[], [], _, _, _, _, rfl, p5.up (by omega), E1, E2, E3, rfl, rfl, by simp, by simp, by simp⟩, ?_, ?_, fun _ _ q => q.elim⟩
    · rintro c γ h6 hc ⟨st, mk, w, w7, w8, r', rfl, p6, f1, f2, f3, l1, l2, am⟩
      rw [w_cons]; simp only [W_bind, W_pure, W_bad, W_ite, w_nil, contW_nx, contW_rt, sAsg, sExpr, sRet, sIf, e2, e3, eVar, gN, gIx, eFn, aCons, aNil, eCall, eTup, eLst, eM1, eM0, eMS, W_asRef, eIsi, isi_bl, isi_int, isi_str, isi_tup, asB_bl, truD_bl, cVal, cNot, cAnd, cOr, eAnd, eOr, eNot, eIf, oSome, oNone, eSlice, List.getElem?_cons_succ, List.getElem?_cons_zero, List.set_cons_succ, List.set_cons_zero, List.length_cons, List.length_nil, Nat.reduceAdd, if_true, if_false, Bool.not_true, Bool.not_false, ite_true, ite_false, reduceIte, Bool.false_eq_true, reduceCtorEq, add_ii, sub_ii, gt_ii, ge_ii, lt_ii, le_ii, eq_ii]
      refine w_draw p6 (by omega) (by decide) (by decide) fun b0 h7 b00 b01 p7 => ?_
      refine w_draw p7 (by omega) (by decide) (by decide) fun b1 h8 b10 b11 p8 => ?_
      refine w_newL p8 (by simp) fun h9 p9 => ?_
      refine w_seq (fun γ h => ∃ b0 b1 z r'', γ = [some (.ref 2), some (.ref (i + 3)), some (.int m), some (.int dn), some (.ref (r.length + 3)), some (.ref (r1.length + 3)), some (.int c), some (.ref (z + 3)), w8] ∧ PS h (k + 3 + 5 * c + 4) r'' ∧ r''[r.length]? = some (.lst (stsD st)) ∧ r''[r1.length]? = some (.lst (mksD mk)) ∧ r''[i]? = some (.lst (ns.map .str)) ∧ r''[z]? = some (.lst [.int b0, .int b1])) ?_ ?_
      · simp only [W_bind, W_pure, W_bad, W_ite, w_nil, contW_nx, contW_rt, sAsg, sExpr, sRet, sIf, e2, e3, eVar, gN, gIx, eFn, aCons, aNil, eCall, eTup, eLst, eM1, eM0, eMS, W_asRef, eIsi, isi_bl, isi_int, isi_str, isi_tup, asB_bl, truD_bl, cVal, cNot, cAnd, cOr, eAnd, eOr, eNot, eIf, oSome, oNone, eSlice, List.getElem?_cons_succ, List.getElem?_cons_zero, List.set_cons_succ, List.set_cons_zero, List.length_cons, List.length_nil, Nat.reduceAdd, if_true, if_false, Bool.not_true, Bool.not_false, ite_true, ite_false, reduceIte, Bool.false_eq_true, reduceCtorEq, add_ii, sub_ii, gt_ii, ge_ii, lt_ii, le_ii, eq_ii]
        split
        · rw [w_cons]; simp only [W_bind, W_pure, W_bad, W_ite, w_nil, contW_nx, contW_rt, sAsg, sExpr, sRet, sIf, e2, e3, eVar, gN, gIx, eFn, aCons, aNil, eCall, eTup, eLst, eM1, eM0, eMS, W_asRef, eIsi, isi_bl, isi_int, isi_str, isi_tup, asB_bl, truD_bl, cVal, cNot, cAnd, cOr, eAnd, eOr, eNot, eIf, oSome, oNone, eSlice, List.getElem?_cons_succ, List.getElem?_cons_zero, List.set_cons_succ, List.set_cons_zero, List.length_cons, List.length_nil, Nat.reduceAdd, if_true, if_false, Bool.not_true, Bool.not_false, ite_true, ite_false, reduceIte, Bool.false_eq_true, reduceCtorEq, add_ii, sub_ii, gt_ii, ge_ii, lt_ii, le_ii, eq_ii]
          refine w_ixr p9 at_new (show atI [D.int b0, D.int b1] 0 = some (.int b0) from rfl) ?_
          refine w_draw p9 (by omega) (by decide) (by decide) fun b2 h10 _ _ p10 => ?_
          have an : ∀ x y : Int, fAnd (.int x) (.int y) = pure (.int (Builtin.bitAnd x y)) := fun _ _ => rfl
          rw [an, W_pure]
          refine w_ixr p10 at_new (show atI [D.int b0, D.int b1] 1 = some (.int b1) from rfl) ?_
          refine w_draw p10 (by omega) (by decide) (by decide) fun b3 h11 _ _ p11 => ?_
          rw [an, W_pure]
          refine w_newL p11 (by simp) fun h12 p12 => ?_
          exact ⟨_, _, _, _, rfl, p12.up (by omega), at_app (at_app f1), at_app (at_app f2), at_app (at_app f3), at_new⟩
        · exact ⟨_, _, _, _, rfl, p9.up (by omega), at_app f1, at_app f2, at_app f3, at_new⟩
      rintro γ h10 ⟨b0, b1, z, r2, rfl, p10, f1, f2, f3, f4⟩
      rw [w_cons]; simp only [W_bind, W_pure, W_bad, W_ite, w_nil, contW_nx, contW_rt, sAsg, sExpr, sRet, sIf, e2, e3, eVar, gN, gIx, eFn, aCons, aNil, eCall, eTup, eLst, eM1, eM0, eMS, W_asRef, eIsi, isi_bl, isi_int, isi_str, isi_tup, asB_bl, truD_bl, cVal, cNot, cAnd, cOr, eAnd, eOr, eNot, eIf, oSome, oNone, eSlice, List.getElem?_cons_succ, List.getElem?_cons_zero, List.set_cons_succ, List.set_cons_zero, List.length_cons, List.length_nil, Nat.reduceAdd, if_true, if_false, Bool.not_true, Bool.not_false, ite_true, ite_false, reduceIte, Bool.false_eq_true, reduceCtorEq, add_ii, sub_ii, gt_ii, ge_ii, lt_ii, le_ii, eq_ii]
      refine w_getL p10 f1 ?_
      have lx : h10.length = r2.length + 3 := p10.len
      refine W.of (comp_px (src := .con (intsD m)) (fun d => match d with | .int t => decide (Builtin.bitAnd ((if t / 20 = 0 then b0 else b1) / 2 ^ (t % 20).toNat) 1 = 1) | _ => false) (fun d => d) (range_src rfl (by omega)) (fun _ => trivial) (by simp [Src.items, intsD]; omega) fun d hd => ?_) ?_
      · obtain ⟨t, ht, et⟩ := List.getElem_of_mem hd
        obtain ⟨e5, e6⟩ := intsD_get (show (intsD m)[t]? = some d by rw [← et]; exact List.getElem?_eq_getElem ht)
        subst e5
        refine ⟨[some (.ref (z + 3)), some (.int t)], fun h => rfl, fun j => ?_, fun _ j => rfl⟩
        have pj := p10.app j
        have q1 : getL (z + 3) (h10 ++ j) = .ok [.int b0, .int b1] (h10 ++ j) := by unfold getL; rw [pj.get, at_app f4]
        have q2 : atI [D.int b0, D.int b1] ((t : Int) / 20) = some (.int (if (t : Int) / 20 = 0 then b0 else b1)) := by
          have : (t : Int) / 20 = 0 ∨ (t : Int) / 20 = 1 := by omega
          rcases this with q | q
          · rw [q]; rfl
          · rw [q]; rfl
        have q3 : fDiv (.int t) (.int 20) = pure (.int ((t : Int) / 20)) := rfl
        have q4 : fMod (.int t) (.int 20) = pure (.int ((t : Int) % 20)) := rfl
        have q5 : ∀ x : Int, fShr (.int x) (.int ((t : Int) % 20)) = pure (.int (x / 2 ^ ((t : Int) % 20).toNat)) := fun x => shr_ii (by omega)
        have an : ∀ x y : Int, fAnd (.int x) (.int y) = pure (.int (Builtin.bitAnd x y)) := fun _ _ => rfl
        have fx : ∀ x : Int, fIx (.ref (z + 3)) (.int x) = (do let xs ← getL (z + 3); match atI xs x with | some d => pure d | none => bad) := fun _ => rfl
        simp only [FT.e2, eVar, List.getElem?_cons_zero, List.getElem?_cons_succ, bindM, pureM, q3, fx, q1, q2, q4, q5, an, eq_ii, asB_bl]
        simp
      rw [show (Src.con (intsD m)).items = intsD m from rfl, ints_filter]
      have ft : ∀ i : Nat, fTuple [.ref i] = (do let x ← getL i; pure (.tup x)) := fun _ => rfl
      rw [ft, W_bind, lx]
      have p11 := p10.app [.lst (((List.range m).filter fun (i : Nat) => decide (Builtin.bitAnd ((if (i : Int) / 20 = 0 then b0 else b1) / 2 ^ ((i : Int) % 20).toNat) 1 = 1)).map fun (i : Nat) => D.int i)]
      refine w_getL p11 at_new ?_
      rw [W_pure]
      refine w_append p11 (at_app f1) (by simp [stsD]; omega) fun h11 p12 => ?_
      generalize hl : (List.range m).filter (fun (i : Nat) => decide (Builtin.bitAnd ((if (i : Int) / 20 = 0 then b0 else b1) / 2 ^ ((i : Int) % 20).toNat) 1 = 1)) = ll at p12 p11 ⊢
      have hl1 : ll.Pairwise (· < ·) := by rw [← hl]; exact List.Pairwise.filter _ List.pairwise_lt_range
      have hl2 : ∀ x ∈ ll, x < m := by
        intro x hx
        rw [← hl] at hx
        simpa using (List.mem_filter.mp hx).1
      have g1 := set_at (o' := .lst (stsD st ++ [D.tup (ll.map fun (i : Nat) => D.int i)])) (at_app (j := [.lst (ll.map fun (i : Nat) => D.int i)]) f1)
      have g2 := set_ne (i := r.length) (o' := .lst (stsD st ++ [D.tup (ll.map fun (i : Nat) => D.int i)])) (at_app (j := [.lst (ll.map fun (i : Nat) => D.int i)]) f2) (by omega)
      have g3 := set_ne (i := r.length) (o' := .lst (stsD st ++ [D.tup (ll.map fun (i : Nat) => D.int i)])) (at_app (j := [.lst (ll.map fun (i : Nat) => D.int i)]) f3) (by omega)
      rw [show stsD st ++ [D.tup (ll.map fun (i : Nat) => D.int i)] = stsD (st ++ [ll]) by simp [stsD, stD]] at p12 g1 g2 g3
      generalize List.set (r2 ++ [O.lst (ll.map fun (i : Nat) => D.int i)]) r.length (O.lst (stsD (st ++ [ll]))) = r3 at p12 g1 g2 g3
      rw [w_cons]; simp only [W_bind, W_pure, W_bad, W_ite, w_nil, contW_nx, contW_rt, sAsg, sExpr, sRet, sIf, e2, e3, eVar, gN, gIx, eFn, aCons, aNil, eCall, eTup, eLst, eM1, eM0, eMS, W_asRef, eIsi, isi_bl, isi_int, isi_str, isi_tup, asB_bl, truD_bl, cVal, cNot, cAnd, cOr, eAnd, eOr, eNot, eIf, oSome, oNone, eSlice, List.getElem?_cons_succ, List.getElem?_cons_zero, List.set_cons_succ, List.set_cons_zero, List.length_cons, List.length_nil, Nat.reduceAdd, if_true, if_false, Bool.not_true, Bool.not_false, ite_true, ite_false, reduceIte, Bool.false_eq_true, reduceCtorEq, add_ii, sub_ii, gt_ii, ge_ii, lt_ii, le_ii, eq_ii]
      refine w_draw p12 (by omega) (by decide) (by decide) fun wo h12 wo0 wo1 p13 => ?_
      rw [w_cons]; simp only [W_bind, W_pure, W_bad, W_ite, w_nil, contW_nx, contW_rt, sAsg, sExpr, sRet, sIf, e2, e3, eVar, gN, gIx, eFn, aCons, aNil, eCall, eTup, eLst, eM1, eM0, eMS, W_asRef, eIsi, isi_bl, isi_int, isi_str, isi_tup, asB_bl, truD_bl, cVal, cNot, cAnd, cOr, eAnd, eOr, eNot, eIf, oSome, oNone, eSlice, List.getElem?_cons_succ, List.getElem?_cons_zero, List.set_cons_succ, List.set_cons_zero, List.length_cons, List.length_nil, Nat.reduceAdd, if_true, if_false, Bool.not_true, Bool.not_false, ite_true, ite_false, reduceIte, Bool.false_eq_true, reduceCtorEq, add_ii, sub_ii, gt_ii, ge_ii, lt_ii, le_ii, eq_ii]
      refine w_getL p13 g2 ?_
      have ly : h12.length = r3.length + 3 := p13.len
      refine W.of (comp_px (src := .con (intsD ns.length)) (fun d => match d with | .int t => decide (Builtin.bitAnd (wo / 2 ^ t.toNat) 1 = 1) | _ => false) (fun d => match d with | .int t => .str ((ns[t.toNat]?).getD "") | _ => .non) (range_src ?_ (by omega)) (fun _ => trivial) (by simp [Src.items, intsD]; omega) fun d hd => ?_) ?_
      · have q1 : getL (i + 3) h12 = .ok (ns.map .str) h12 := by unfold getL; rw [p13.get, g3]
        have fl : ∀ i : Nat, fLen [.ref i] = (do let x ← getL i; pure (.int x.length)) := fun _ => rfl
        simp only [eCall, aCons, aNil, eVar, List.getElem?_cons_zero, List.getElem?_cons_succ, bindM, pureM, fl, q1, List.length_map]
      · obtain ⟨t, ht, et⟩ := List.getElem_of_mem hd
        obtain ⟨e5, e6⟩ := intsD_get (show (intsD ns.length)[t]? = some d by rw [← et]; exact List.getElem?_eq_getElem ht)
        subst e5
        refine ⟨[some (.ref (i + 3)), some (.int wo), some (.int t)], fun h => rfl, fun j => ?_, fun _ j => ?_⟩
        · have q5 : fShr (.int wo) (.int t) = pure (.int (wo / 2 ^ (t : Int).toNat)) := shr_ii (by omega)
          have an : ∀ x y : Int, fAnd (.int x) (.int y) = pure (.int (Builtin.bitAnd x y)) := fun _ _ => rfl
          simp only [FT.e2, eVar, List.getElem?_cons_zero, List.getElem?_cons_succ, bindM, pureM, q5, an, eq_ii, asB_bl]
          simp
        · have pj := p13.app j
          have q1 : getL (i + 3) (h12 ++ j) = .ok (ns.map .str) (h12 ++ j) := by unfold getL; rw [pj.get, at_app g3]
          have q2 : atI (ns.map D.str) (t : Int) = some (.str ((ns[t]?).getD "")) := by
            refine atI_nat ?_
            rw [List.getElem?_map, List.getElem?_eq_getElem e6]
            rfl
          have fx : ∀ x : Int, fIx (.ref (i + 3)) (.int x) = (do let xs ← getL (i + 3); match atI xs x with | some d => pure d | none => bad) := fun _ => rfl
          simp only [FT.e2, eVar, List.getElem?_cons_zero, List.getElem?_cons_succ, bindM, pureM, fx, q1, q2]
          simp
      have pe : (((intsD ns.length).filter fun d => match d with | .int t => decide (Builtin.bitAnd (wo / 2 ^ t.toNat) 1 = 1) | _ => false).map fun d => match d with | .int t => D.str ((ns[t.toNat]?).getD "") | _ => .non) = (pick ns fun t => decide (Builtin.bitAnd (wo / 2 ^ t) 1 = 1)).map .str := by
        rw [ints_filter]
        unfold pick
        rw [List.map_map]
        rfl
      rw [show (Src.con (intsD ns.length)).items = intsD ns.length from rfl, pe, ly]
      generalize hpk : pick ns (fun t => decide (Builtin.bitAnd (wo / 2 ^ t) 1 = 1)) = pk
      have p14 := p13.app [.lst (pk.map .str)]
      have fs : ∀ i : Nat, fSorted [.ref i] = (do
        let xs ← getL i
        if xs.length < 64 then (match strsD xs with
          | some ss => newL ((sortS ss).map .str)
          | none => (match numsD xs with
            | some ns => newL ((sortI ns).map .int)
            | none => bad)) else bad) := fun _ => rfl
      have lp : pk.length ≤ 8 := by rw [← hpk]; exact Nat.le_trans (pick_len _ _) hn
      have mp : MK (sortS pk) := by rw [← hpk]; exact pick_mk hg hn _
      rw [fs, W_bind]
      refine w_getL p14 at_new ?_
      rw [if_pos (by simp; omega), strs_map]
      refine w_newL p14 (by rw [List.length_map, sortS_len]; omega) fun h13 p15 => ?_
      rw [ft, W_bind]
      refine w_getL p15 at_new ?_
      rw [W_pure]
      refine w_append p15 (at_app (at_app g2)) (by simp [mksD]; omega) fun h14 p16 => ?_
      refine ⟨st ++ [ll], mk ++ [sortS pk], _, _, _, _, rfl, p16.up (by omega), set_ne (at_app (at_app g1)) (by omega), ?_, set_ne (at_app (at_app g3)) (by omega), by simp [l1], by simp [l2], ?_, ?_, ?_⟩
      · rw [set_at (at_app (at_app g2))]
        simp [mksD]
      · intro l hl
        rcases List.mem_append.mp hl with q | q
        · exact am.1 l q
        · simp at q; subst q; exact hl1
      · intro l hl
        rcases List.mem_append.mp hl with q | q
        · exact am.2.1 l q
        · simp at q; subst q; exact hl2
      · intro l hl
        rcases List.mem_append.mp hl with q | q
        · exact am.2.2 l q
        · simp at q; subst q; exact mp
    · rintro γ h6 ⟨st, mk, w, w7, w8, r', rfl, p6, f1, f2, f3, l1, l2, am⟩
      exact ⟨st, mk, w, true, w7, w8, r', rfl, p6.up (by omega), f1, f2, f3, l1, l2, am, rfl⟩
  · rintro γ h6 ⟨st, mk, w, w6, w7, w8, r', rfl, p6, f1, f2, f3, l1, l2, am, _⟩
    rw [w_cons]; simp only [W_bind, W_pure, W_bad, W_ite, w_nil, contW_nx, contW_rt, sAsg, sExpr, sRet, sIf, e2, e3, eVar, gN, gIx, eFn, aCons, aNil, eCall, eTup, eLst, eM1, eM0, eMS, W_asRef, eIsi, isi_bl, isi_int, isi_str, isi_tup, asB_bl, truD_bl, cVal, cNot, cAnd, cOr, eAnd, eOr, eNot, eIf, oSome, oNone, eSlice, List.getElem?_cons_succ, List.getElem?_cons_zero, List.set_cons_succ, List.set_cons_zero, List.length_cons, List.length_nil, Nat.reduceAdd, if_true, if_false, Bool.not_true, Bool.not_false, ite_true, ite_false, reduceIte, Bool.false_eq_true, reduceCtorEq, add_ii, sub_ii, gt_ii, ge_ii, lt_ii, le_ii, eq_ii]
    have ft : ∀ i : Nat, fTuple [.ref i] = (do let x ← getL i; pure (.tup x)) := fun _ => rfl
    rw [ft, W_bind]
    refine w_getL p6 f1 ?_
    rw [W_pure, ft, W_bind]
    refine w_getL p6 f2 ?_
    rw [W_pure, if_pos (by decide)]
    exact ⟨st, mk, r', rfl, p6, f3, ⟨by omega, by omega, by omega, am.1, by rw [l1]; exact am.2.1, am.2.2⟩⟩
end FT
set_option Elab.async false
set_option linter.all false
set_option maxRecDepth 100000
set_option maxHeartbeats 2000000
namespace FT
open PySem PySem.Spec PyProof.Rows L2
theorem law_pool {ns : List Int} (hn : ns.length ≤ 63) : W (m__law_pool [.fl (ns.map .int)]) [] (fun d h' => d = .ref 2 ∧ PS h' 0 []) := by
  refine w_run ?_
  show W (b__law_pool [some (.fl (ns.map .int)), none]) [] _
  unfold b__law_pool sComp'
  rw [w_cons]; simp only [W_bind, W_pure, W_bad, W_ite, w_nil, contW_nx, contW_rt, sAsg, sExpr, sRet, sIf, e2, e3, eVar, gN, gIx, eFn, aCons, aNil, eCall, eTup, eLst, eM1, eM0, eMS, W_asRef, eIsi, isi_bl, isi_int, isi_str, isi_tup, asB_bl, truD_bl, cVal, cNot, cAnd, cOr, eAnd, eOr, eNot, eIf, oSome, oNone, eSlice, List.getElem?_cons_succ, List.getElem?_cons_zero, List.set_cons_succ, List.set_cons_zero, List.length_cons, List.length_nil, Nat.reduceAdd, if_true, if_false, Bool.not_true, Bool.not_false, ite_true, ite_false, reduceIte, Bool.false_eq_true, reduceCtorEq, add_ii, sub_ii, gt_ii, ge_ii, lt_ii, le_ii, eq_ii]
  have src : ∀ (γ : G) (h : AH), γ[0]? = some (some (.fl (ns.map .int))) → iSeqL (eVar 0) γ h = .ok (.con (ns.map .int)) h := fun γ h e => by
    unfold iSeqL eVar
    rw [e]
    rfl
  refine W.of (comp_px (src := .con (ns.map .int)) (fun d => match d with | .int t => decide (1000000000000000000 ≤ t) | _ => false) (fun d => d) (src _ _ rfl) (fun _ => trivial) (by simp [Src.items]; omega) fun d hd => ?_) ?_
  · obtain ⟨t, ht, rfl⟩ := List.mem_map.mp hd
    refine ⟨[some (.int t)], fun h => rfl, fun j => ?_, fun _ j => rfl⟩
    simp only [List.getElem?_cons_zero, bindM, pureM, pow18, ge_ii, asB_bl]
  rw [show (Src.con (ns.map D.int)).items = ns.map D.int from rfl, map_filter_int]
  rw [w_cons]; simp only [W_bind, W_pure, W_bad, W_ite, w_nil, contW_nx, contW_rt, sAsg, sExpr, sRet, sIf, e2, e3, eVar, gN, gIx, eFn, aCons, aNil, eCall, eTup, eLst, eM1, eM0, eMS, W_asRef, eIsi, isi_bl, isi_int, isi_str, isi_tup, asB_bl, truD_bl, cVal, cNot, cAnd, cOr, eAnd, eOr, eNot, eIf, oSome, oNone, eSlice, List.getElem?_cons_succ, List.getElem?_cons_zero, List.set_cons_succ, List.set_cons_zero, List.length_cons, List.length_nil, Nat.reduceAdd, if_true, if_false, Bool.not_true, Bool.not_false, ite_true, ite_false, reduceIte, Bool.false_eq_true, reduceCtorEq, add_ii, sub_ii, gt_ii, ge_ii, lt_ii, le_ii, eq_ii]
  refine W.of (comp_px (src := .con (ns.map .int)) (fun d => match d with | .int t => decide (t < 1000000000000000000) | _ => false) (fun d => d) (src _ _ rfl) (fun _ => trivial) (by simp [Src.items]; omega) fun d hd => ?_) ?_
  · obtain ⟨t, ht, rfl⟩ := List.mem_map.mp hd
    refine ⟨[some (.int t)], fun h => rfl, fun j => ?_, fun _ j => rfl⟩
    simp only [List.getElem?_cons_zero, bindM, pureM, pow18, lt_ii, asB_bl]
  rw [show (Src.con (ns.map D.int)).items = ns.map D.int from rfl, map_filter_int]
  refine W.of (a := .ref 2) (h' := Pool (ns.filter fun i => decide (1000000000000000000 ≤ i)) (ns.filter fun i => decide (i < 1000000000000000000)) 5 0 []) ?_ ?_
  · unfold newL
    rw [if_pos (by simp; decide)]
    rfl
  · refine ⟨rfl, _, _, 5, 0, rfl, by decide, by decide, by decide, by decide, ?_, ?_⟩
    · exact Nat.le_trans (List.length_filter_le _ _) hn
    · exact Nat.le_trans (List.length_filter_le _ _) hn
end FT
set_option Elab.async false
set_option linter.all false
set_option maxRecDepth 100000
set_option maxHeartbeats 2000000
namespace FT
open PySem PySem.Spec PyProof.Rows L2

/-- steps between standings -/
structure SQ (st : List (List Nat)) : Prop where
  l1 : 1 ≤ st.length
  l2 : st.length ≤ 40
  s2 : ∀ l ∈ st, ∀ x ∈ l, x < st.length
def nx (st : List (List Nat)) (a : Nat) : List Nat := (st[a]?).getD []
inductive Rch (st : List (List Nat)) (x : Nat) : Nat → Prop
  | here : Rch st x x
  | step {a b : Nat} : Rch st x a → b ∈ nx st a → Rch st x b
theorem nx_lt {st : List (List Nat)} (q : SQ st) {a b : Nat} (h : b ∈ nx st a) : b < st.length := by
  unfold nx at h
  cases e : st[a]? with
  | none => rw [e] at h; cases h
  | some l =>
    rw [e] at h
    exact q.s2 l (List.mem_of_getElem? e) b h
theorem rch_lt {st : List (List Nat)} (q : SQ st) {x a : Nat} (hx : x < st.length) (h : Rch st x a) : a < st.length := by
  cases h with
  | here => exact hx
  | step _ h => exact nx_lt q h
theorem rch_in {st : List (List Nat)} {x : Nat} {S : List Nat} (hx : x ∈ S) (cl : ∀ a ∈ S, ∀ b ∈ nx st a, b ∈ S) {a : Nat} (h : Rch st x a) : a ∈ S := by
  induction h with
  | here => exact hx
  | step _ hb ih => exact cl _ ih _ hb
theorem sts_len (st : List (List Nat)) : (stsD st).length = st.length := by unfold stsD; simp
theorem st_row {st : List (List Nat)} {a : Nat} (ha : a < st.length) : atI (stsD st) (a : Int) = some (.tup (stD (nx st a))) := by
  refine atI_nat ?_
  unfold stsD nx
  rw [List.getElem?_map, List.getElem?_eq_getElem ha]
  rfl
theorem ix_ma0 {st : List (List Nat)} {mk : List (List Str)} : fIx (maD st mk) (.int 0) = pure (.tup (stsD st)) := ix_tup rfl
theorem ix_ma1 {st : List (List Nat)} {mk : List (List Str)} : fIx (maD st mk) (.int 1) = pure (.tup (mksD mk)) := ix_tup rfl
theorem ix_row {st : List (List Nat)} {a : Nat} (ha : a < st.length) : fIx (.tup (stsD st)) (.int a) = pure (.tup (stD (nx st a))) := ix_tup (st_row ha)
theorem flat_st : ∀ l : List Nat, (stD l).all flatD = true
  | [] => rfl
  | _ :: l => flat_st l
theorem any_st (x : Nat) : ∀ l : List Nat, ((stD l).any fun z => eqF z (.int x)) = decide (x ∈ l)
  | [] => by simp [stD]
  | b :: l => by
    rw [show stD (b :: l) = .int b :: stD l from rfl, List.any_cons, any_st x l]
    simp only [eqF]
    rw [Bool.eq_iff_iff]
    simp only [Bool.or_eq_true, beq_iff_eq, decide_eq_true_eq, List.mem_cons]
    constructor
    · rintro (h | h)
      · left; omega
      · exact .inr h
    · rintro (h | h)
      · left; omega
      · exact .inr h
theorem in_st {x : Nat} {l : List Nat} {neg : Bool} : fIn neg (.int x) (.tup (stD l)) = pure (.bl (decide (x ∈ l) != neg)) := by
  unfold fIn seqD
  show (if flatD (.int x) && (stD l).all flatD then _ else _) = _
  rw [flat_st, any_st]
  rfl
theorem in_ref {h : AH} {k : Int} {r : AH} {n : Nat} {l : List Nat} {x : Nat} {neg : Bool} (p : PS h k r) (e : r[n]? = some (.lst (stD l))) : fIn neg (.int x) (.ref (n + 3)) h = .ok (.bl (decide (x ∈ l) != neg)) h := by
  have g : getL (n + 3) h = .ok (stD l) h := by unfold getL; rw [p.get, e]
  unfold fIn seqD
  rw [M.bind_ok g, flat_st, any_st]
  rfl
/-- those from which a step leads there -/
def whoTo (st : List (List Nat)) (x : Nat) : List Nat := (List.range st.length).filter fun i => decide (x ∈ nx st i)
theorem who_rise (st : List (List Nat)) (x : Nat) : (whoTo st x).Pairwise (· < ·) := List.Pairwise.filter _ List.pairwise_lt_range
theorem who_lt (st : List (List Nat)) (x : Nat) : ∀ y ∈ whoTo st x, y < st.length := fun y hy => by simpa using (List.mem_filter.mp hy).1
theorem behind_w {st : List (List Nat)} {mk : List (List Str)} {h : AH} {k : Int} {r : AH} {x : Nat} (q : SQ st) (p : PS h k r) :
    W (m_behind [maD st mk, .int x]) h (fun d h' => d = .tup (stD (whoTo st x)) ∧ ∃ r', PS h' k r') := by
  refine w_run ?_
  show W (b_behind [some (maD st mk), some (.int x)]) h _
  unfold b_behind
  rw [w_cons]; simp only [W_bind, W_pure, W_bad, W_ite, w_nil, contW_nx, contW_rt, sAsg, sExpr, sRet, sIf, e2, e3, eVar, gN, gIx, eFn, aCons, aNil, eCall, eTup, eLst, eM1, eM0, eMS, W_asRef, eIsi, isi_bl, isi_int, isi_str, isi_tup, asB_bl, truD_bl, cVal, cNot, cAnd, cOr, eAnd, eOr, eNot, eIf, oSome, oNone, eSlice, List.getElem?_cons_succ, List.getElem?_cons_zero, List.set_cons_succ, List.set_cons_zero, List.length_cons, List.length_nil, Nat.reduceAdd, if_true, if_false, Bool.not_true, Bool.not_false, ite_true, ite_false, reduceIte, Bool.false_eq_true, reduceCtorEq, add_ii, sub_ii, gt_ii, ge_ii, lt_ii, le_ii, eq_ii]
  have lx : h.length = r.length + 3 := p.len
  have l2 := q.l2
  have le : (enumD (stsD st)).length = st.length := by unfold enumD; rw [List.length_map, List.length_range, sts_len]
  refine W.of (comp_px (src := .con (enumD (stsD st))) (fun d => match d with | .tup [.int t, _] => decide (x ∈ nx st t.toNat) | _ => false) (fun d => match d with | .tup [a, _] => a | _ => .non) ?_ (fun _ => trivial) (by simp only [Src.items]; omega) fun d hd => ?_) ?_
  · simp only [iEnum, aCons, aNil, e2, eVar, List.getElem?_cons_zero, bindM, pureM, ix_ma0]
  · obtain ⟨t, ht, et⟩ := List.getElem_of_mem hd
    obtain ⟨y, hy, rfl⟩ := enum_at (show (enumD (stsD st))[t]? = some d by rw [← et]; exact List.getElem?_eq_getElem ht)
    have ht' : t < st.length := by simp only [Src.items] at ht; omega
    have ey : y = .tup (stD (nx st t)) := by
      unfold stsD at hy
      rw [List.getElem?_map, List.getElem?_eq_getElem ht'] at hy
      unfold nx
      rw [List.getElem?_eq_getElem ht']
      exact (Option.some.inj hy).symm
    subst ey
    refine ⟨[some (.int x), some (.int t), some (.tup (stD (nx st t)))], fun h => rfl, fun j => ?_, fun _ j => rfl⟩
    simp only [List.getElem?_cons_zero, List.getElem?_cons_succ, bindM, pureM, in_st, asB_bl]
    simp
  have ee : ((Src.con (enumD (stsD st))).items.filter (fun d => match d with | .tup [.int t, _] => decide (x ∈ nx st t.toNat) | _ => false)).map (fun d => match d with | .tup [a, _] => a | _ => .non) = stD (whoTo st x) := by
    unfold whoTo enumD stD
    simp only [Src.items]
    rw [List.filter_map, List.map_map, sts_len]
    rfl
  rw [ee, lx]
  have p1 := p.app [.lst (stD (whoTo st x))]
  have ft : ∀ i : Nat, fTuple [.ref i] = (do let x ← getL i; pure (.tup x)) := fun _ => rfl
  rw [ft, W_bind]
  refine w_getL p1 at_new ?_
  rw [W_pure]
  exact ⟨rfl, _, p1⟩
theorem number_ok {i n : Int} (h1 : 0 ≤ i) (h2 : i < n) (h : AH) : m__law_number [.int i, .int 0, .int n] h = .ok (.bl true) h := by
  simp [m__law_number, runF, b__law_number, startG, bCons, bNil, sRet, eAnd, eNot, eIsi, fIsi, eVar, tyD, asB, subT, e3, fLe, fLt, h1, h2]
theorem tuple_ok {xs : List D} {n : Int} (h1 : (xs.length : Int) ≤ n) (h : AH) : m__law_tuple [.tup xs, .int 0, .int n] h = .ok (.bl true) h := by
  simp [m__law_tuple, runF, b__law_tuple, startG, bCons, bNil, sRet, eAnd, eNot, eIsi, fIsi, eVar, tyD, asB, subT, e3, fLe, fLt, eCall, aCons, aNil, fLen, seqD, h1]
theorem st_len (l : List Nat) : (stD l).length = l.length := by unfold stD; simp
theorem rise_len {l : List Nat} {n : Nat} (hl : l.Pairwise (· < ·)) (hm : ∀ x ∈ l, x < n) : l.length ≤ n := by
  have nd : l.Nodup := List.Pairwise.imp (fun h => Nat.ne_of_lt h) hl
  have := nd.length_le_of_subset (l₂ := List.range n) (fun x hx => List.mem_range.mpr (hm x hx))
  rwa [List.length_range] at this
theorem good_w {l : List Nat} {n : Nat} {h : AH} {k : Int} {r : AH} (hn : n ≤ 40) (hl : l.Pairwise (· < ·)) (hm : ∀ x ∈ l, x < n) (p : PS h k r) :
    W (m__law_good_set [.tup (stD l), .int n]) h (fun d h' => d = .bl true ∧ PS h' k r) := by
  have len := rise_len hl hm
  refine w_run ?_
  show W (b__law_good_set [some (.tup (stD l)), some (.int n), none]) h _
  unfold b__law_good_set
  rw [w_cons]; simp only [W_bind, W_pure, W_bad, W_ite, w_nil, contW_nx, contW_rt, sAsg, sExpr, sRet, sIf, e2, e3, eVar, gN, gIx, eFn, aCons, aNil, eCall, eTup, eLst, eM1, eM0, eMS, W_asRef, eIsi, isi_bl, isi_int, isi_str, isi_tup, asB_bl, truD_bl, cVal, cNot, cAnd, cOr, eAnd, eOr, eNot, eIf, oSome, oNone, eSlice, List.getElem?_cons_succ, List.getElem?_cons_zero, List.set_cons_succ, List.set_cons_zero, List.length_cons, List.length_nil, Nat.reduceAdd, if_true, if_false, Bool.not_true, Bool.not_false, ite_true, ite_false, reduceIte, Bool.false_eq_true, reduceCtorEq, add_ii, sub_ii, gt_ii, ge_ii, lt_ii, le_ii, eq_ii]
  refine W.of (tuple_ok (by rw [st_len]; omega) h) ?_
  simp only [W_bind, W_pure, W_bad, W_ite, w_nil, contW_nx, contW_rt, sAsg, sExpr, sRet, sIf, e2, e3, eVar, gN, gIx, eFn, aCons, aNil, eCall, eTup, eLst, eM1, eM0, eMS, W_asRef, eIsi, isi_bl, isi_int, isi_str, isi_tup, asB_bl, truD_bl, cVal, cNot, cAnd, cOr, eAnd, eOr, eNot, eIf, oSome, oNone, eSlice, List.getElem?_cons_succ, List.getElem?_cons_zero, List.set_cons_succ, List.set_cons_zero, List.length_cons, List.length_nil, Nat.reduceAdd, if_true, if_false, Bool.not_true, Bool.not_false, ite_true, ite_false, reduceIte, Bool.false_eq_true, reduceCtorEq, add_ii, sub_ii, gt_ii, ge_ii, lt_ii, le_ii, eq_ii]
  rw [w_cons]
  refine for_range (fun c γ h => ∃ w, γ = [some (.tup (stD l)), some (.int n), w] ∧ PS h k r) (fun _ _ => False) ?_
  simp only [W_bind, W_pure, W_bad, W_ite, w_nil, contW_nx, contW_rt, sAsg, sExpr, sRet, sIf, e2, e3, eVar, gN, gIx, eFn, aCons, aNil, eCall, eTup, eLst, eM1, eM0, eMS, W_asRef, eIsi, isi_bl, isi_int, isi_str, isi_tup, asB_bl, truD_bl, cVal, cNot, cAnd, cOr, eAnd, eOr, eNot, eIf, oSome, oNone, eSlice, List.getElem?_cons_succ, List.getElem?_cons_zero, List.set_cons_succ, List.set_cons_zero, List.length_cons, List.length_nil, Nat.reduceAdd, if_true, if_false, Bool.not_true, Bool.not_false, ite_true, ite_false, reduceIte, Bool.false_eq_true, reduceCtorEq, add_ii, sub_ii, gt_ii, ge_ii, lt_ii, le_ii, eq_ii, len_tup]
  refine ⟨l.length, by rw [st_len], by omega, ⟨_, rfl, p⟩, ?_, ?_, fun _ _ q => q.elim⟩
  · rintro c γ h2 hc ⟨w, rfl, p2⟩
    have mc : (l[c]?).getD 0 = l[c] := by rw [List.getElem?_eq_getElem hc]; rfl
    have lt := hm _ (List.getElem_mem hc)
    rw [w_cons]; simp only [W_bind, W_pure, W_bad, W_ite, w_nil, contW_nx, contW_rt, sAsg, sExpr, sRet, sIf, e2, e3, eVar, gN, gIx, eFn, aCons, aNil, eCall, eTup, eLst, eM1, eM0, eMS, W_asRef, eIsi, isi_bl, isi_int, isi_str, isi_tup, asB_bl, truD_bl, cVal, cNot, cAnd, cOr, eAnd, eOr, eNot, eIf, oSome, oNone, eSlice, List.getElem?_cons_succ, List.getElem?_cons_zero, List.set_cons_succ, List.set_cons_zero, List.length_cons, List.length_nil, Nat.reduceAdd, if_true, if_false, Bool.not_true, Bool.not_false, ite_true, ite_false, reduceIte, Bool.false_eq_true, reduceCtorEq, add_ii, sub_ii, gt_ii, ge_ii, lt_ii, le_ii, eq_ii, ix_tup (st_at hc)]
    refine W.of (number_ok (by omega) (by rw [mc]; omega) h2) ?_
    simp only [W_bind, W_pure, W_bad, W_ite, w_nil, contW_nx, contW_rt, sAsg, sExpr, sRet, sIf, e2, e3, eVar, gN, gIx, eFn, aCons, aNil, eCall, eTup, eLst, eM1, eM0, eMS, W_asRef, eIsi, isi_bl, isi_int, isi_str, isi_tup, asB_bl, truD_bl, cVal, cNot, cAnd, cOr, eAnd, eOr, eNot, eIf, oSome, oNone, eSlice, List.getElem?_cons_succ, List.getElem?_cons_zero, List.set_cons_succ, List.set_cons_zero, List.length_cons, List.length_nil, Nat.reduceAdd, if_true, if_false, Bool.not_true, Bool.not_false, ite_true, ite_false, reduceIte, Bool.false_eq_true, reduceCtorEq, add_ii, sub_ii, gt_ii, ge_ii, lt_ii, le_ii, eq_ii]
    by_cases c0 : (0 : Int) < c
    · rw [decide_eq_true c0]
      simp only [W_bind, W_pure, W_bad, W_ite, w_nil, contW_nx, contW_rt, sAsg, sExpr, sRet, sIf, e2, e3, eVar, gN, gIx, eFn, aCons, aNil, eCall, eTup, eLst, eM1, eM0, eMS, W_asRef, eIsi, isi_bl, isi_int, isi_str, isi_tup, asB_bl, truD_bl, cVal, cNot, cAnd, cOr, eAnd, eOr, eNot, eIf, oSome, oNone, eSlice, List.getElem?_cons_succ, List.getElem?_cons_zero, List.set_cons_succ, List.set_cons_zero, List.length_cons, List.length_nil, Nat.reduceAdd, if_true, if_false, Bool.not_true, Bool.not_false, ite_true, ite_false, reduceIte, Bool.false_eq_true, reduceCtorEq, add_ii, sub_ii, gt_ii, ge_ii, lt_ii, le_ii, eq_ii]
      have e1 : ((c : Int) - 1) = ((c - 1 : Nat) : Int) := by omega
      have hc1 : c - 1 < l.length := by omega
      have lt2 := List.pairwise_iff_getElem.mp hl (c - 1) c hc1 hc (by omega)
      have mc1 : (l[c - 1]?).getD 0 = l[c - 1] := by rw [List.getElem?_eq_getElem hc1]; rfl
      rw [e1, ix_tup (st_at hc1), W_pure, ge_ii, W_pure, asB_bl, W_pure, mc, mc1, decide_eq_false (by omega)]
      simp only [W_bind, W_pure, W_bad, W_ite, w_nil, contW_nx, contW_rt, sAsg, sExpr, sRet, sIf, e2, e3, eVar, gN, gIx, eFn, aCons, aNil, eCall, eTup, eLst, eM1, eM0, eMS, W_asRef, eIsi, isi_bl, isi_int, isi_str, isi_tup, asB_bl, truD_bl, cVal, cNot, cAnd, cOr, eAnd, eOr, eNot, eIf, oSome, oNone, eSlice, List.getElem?_cons_succ, List.getElem?_cons_zero, List.set_cons_succ, List.set_cons_zero, List.length_cons, List.length_nil, Nat.reduceAdd, if_true, if_false, Bool.not_true, Bool.not_false, ite_true, ite_false, reduceIte, Bool.false_eq_true, reduceCtorEq, add_ii, sub_ii, gt_ii, ge_ii, lt_ii, le_ii, eq_ii]
      exact ⟨_, rfl, p2⟩
    · rw [decide_eq_false c0]
      simp only [W_bind, W_pure, W_bad, W_ite, w_nil, contW_nx, contW_rt, sAsg, sExpr, sRet, sIf, e2, e3, eVar, gN, gIx, eFn, aCons, aNil, eCall, eTup, eLst, eM1, eM0, eMS, W_asRef, eIsi, isi_bl, isi_int, isi_str, isi_tup, asB_bl, truD_bl, cVal, cNot, cAnd, cOr, eAnd, eOr, eNot, eIf, oSome, oNone, eSlice, List.getElem?_cons_succ, List.getElem?_cons_zero, List.set_cons_succ, List.set_cons_zero, List.length_cons, List.length_nil, Nat.reduceAdd, if_true, if_false, Bool.not_true, Bool.not_false, ite_true, ite_false, reduceIte, Bool.false_eq_true, reduceCtorEq, add_ii, sub_ii, gt_ii, ge_ii, lt_ii, le_ii, eq_ii]
      exact ⟨_, rfl, p2⟩
  · rintro γ h2 ⟨w, rfl, p2⟩
    rw [w_cons]; simp only [W_bind, W_pure, W_bad, W_ite, w_nil, contW_nx, contW_rt, sAsg, sExpr, sRet, sIf, e2, e3, eVar, gN, gIx, eFn, aCons, aNil, eCall, eTup, eLst, eM1, eM0, eMS, W_asRef, eIsi, isi_bl, isi_int, isi_str, isi_tup, asB_bl, truD_bl, cVal, cNot, cAnd, cOr, eAnd, eOr, eNot, eIf, oSome, oNone, eSlice, List.getElem?_cons_succ, List.getElem?_cons_zero, List.set_cons_succ, List.set_cons_zero, List.length_cons, List.length_nil, Nat.reduceAdd, if_true, if_false, Bool.not_true, Bool.not_false, ite_true, ite_false, reduceIte, Bool.false_eq_true, reduceCtorEq, add_ii, sub_ii, gt_ii, ge_ii, lt_ii, le_ii, eq_ii]
    exact ⟨rfl, p2⟩
/-! ### sorted numbers -/
def zN (l : List Nat) : List Int := l.map fun (i : Nat) => (i : Int)
def kN (l : List Nat) : List Key := l.map fun (i : Nat) => .inl (i : Int)
def sortN (l : List Nat) : List Nat := (sortI (zN l)).map Int.toNat
theorem ints_kN : ∀ l : List Nat, intsK (kN l) = some (zN l)
  | [] => rfl
  | a :: l => by
    show (intsK (kN l)).map _ = _
    rw [ints_kN l]
    rfl
theorem nums_stD : ∀ l : List Nat, numsD (stD l) = some (zN l)
  | [] => rfl
  | a :: l => by
    show (numsD (stD l)).map _ = _
    rw [nums_stD l]
    rfl
theorem sortN_int (l : List Nat) : (sortI (zN l)).map D.int = stD (sortN l) := by
  unfold sortN stD
  rw [List.map_map]
  refine List.map_congr_left fun a ha => ?_
  have : a ∈ zN l := (sortI_perm _).mem_iff.mp ha
  obtain ⟨i, _, rfl⟩ := List.mem_map.mp this
  rfl
theorem sortN_perm (l : List Nat) : (sortN l).Perm l := by
  have := (sortI_perm (zN l)).map Int.toNat
  refine this.trans ?_
  unfold zN
  rw [List.map_map]
  rw [show (Int.toNat ∘ fun (i : Nat) => (i : Int)) = id from funext fun i => rfl, List.map_id]
theorem sortN_rise {l : List Nat} (nd : l.Nodup) : (sortN l).Pairwise (· < ·) := by
  have s : (sortN l).Pairwise (· ≤ ·) := by
    unfold sortN
    rw [List.pairwise_map]
    exact (sortI_pw _).imp fun {a b} h => by omega
  have n : (sortN l).Nodup := (sortN_perm l).nodup_iff.mpr nd
  exact (List.Pairwise.and s n).imp fun {a b} q => by omega
theorem sortN_mem {l : List Nat} {x : Nat} : x ∈ sortN l ↔ x ∈ l := (sortN_perm l).mem_iff
theorem sortN_len (l : List Nat) : (sortN l).length = l.length := (sortN_perm l).length_eq
theorem sortN_eq {l m : List Nat} (p : l.Perm m) : sortN l = sortN m := by
  unfold sortN
  rw [← sortI_eq (l := zN m) (l' := sortI (zN l)) ((sortI_perm _).trans (p.map _)) (sortI_pw _)]
theorem kN_mem {l : List Nat} {x : Nat} : (Sum.inl (x : Int) : Key) ∈ kN l ↔ x ∈ l := by
  unfold kN
  constructor
  · intro h
    obtain ⟨i, hi, e⟩ := List.mem_map.mp h
    have : i = x := by have := Sum.inl.inj e; omega
    exact this ▸ hi
  · exact fun h => List.mem_map.mpr ⟨x, h, rfl⟩
theorem kN_len (l : List Nat) : (kN l).length = l.length := by unfold kN; simp
theorem put_kN {l : List Nat} {x : Nat} (h : x ∉ l) : putK (kN l) (.inl (x : Int)) = kN (l ++ [x]) := by
  unfold putK
  rw [if_neg (fun q => h (kN_mem.mp q))]
  unfold kN
  simp
theorem inS_w {h : AH} {k : Int} {r : AH} {n : Nat} {S : List Nat} {x : Nat} {neg : Bool} {Q : D → AH → Prop} (p : PS h k r) (e : r[n]? = some (.set (kN S))) (q : Q (.bl (decide (x ∈ S) != neg)) h) : W (fInS neg (.int x) (.ref (n + 3))) h Q := by
  unfold fInS
  dsimp only
  rw [W_bind]
  refine w_getS p e ?_
  show W (pure (D.bl (decide ((Sum.inl (x : Int) : Key) ∈ kN S) != neg))) h Q
  rw [W_pure]
  have : decide ((Sum.inl (x : Int) : Key) ∈ kN S) = decide (x ∈ S) := by
    rw [Bool.eq_iff_iff, decide_eq_true_eq, decide_eq_true_eq]
    exact kN_mem
  rw [this]
  exact q
theorem eqDs_self {l : List Nat} : eqDs (stD l) (stD l) = true := by
  unfold eqDs
  rw [decide_eq_true rfl, Bool.true_and, List.all_eq_true]
  intro j hj
  have hj' : j < (stD l).length := by simpa using hj
  have hm := List.getElem_mem hj'
  rw [List.getD_eq_getElem?_getD, List.getElem?_eq_getElem hj']
  generalize (stD l)[j] = d at hm
  obtain ⟨i, _, rfl⟩ := List.mem_map.mp hm
  show (((i : Int) == (i : Int)) = true)
  simp
theorem eqL_w {h : AH} {k : Int} {r : AH} {a b : Nat} {l : List Nat} {neg : Bool} {Q : D → AH → Prop} (p : PS h k r) (ea : r[a]? = some (.lst (stD l))) (eb : r[b]? = some (.lst (stD l))) (q : Q (.bl (true != neg)) h) : W (fEqL neg (.ref (a + 3)) (.ref (b + 3))) h Q := by
  unfold fEqL lstD
  dsimp only
  rw [W_bind]
  refine w_getL p ea ?_
  rw [W_bind]
  refine w_getL p eb ?_
  rw [flat_st, if_pos (by decide), W_pure, eqDs_self]
  exact q
theorem flist_w {h : AH} {k : Int} {r : AH} {l : List Nat} {Q : D → AH → Prop} (hl : l.length ≤ 1000) (p : PS h k r) (z : ∀ h', PS h' k (r ++ [.lst (stD l)]) → Q (.ref (r.length + 3)) h') : W (fList [.tup (stD l)]) h Q := by
  show W (newL (stD l)) h Q
  exact w_newL p (by rw [st_len]; omega) z
end FT
set_option Elab.async false
set_option linter.all false
set_option maxRecDepth 100000
set_option maxHeartbeats 2000000
namespace FT
open PySem PySem.Spec PyProof.Rows L2

theorem nodup_len {S : List Nat} {n : Nat} (nd : S.Nodup) (hm : ∀ x ∈ S, x < n) : S.length ≤ n := by
  have := nd.length_le_of_subset (l₂ := List.range n) (fun x hx => List.mem_range.mpr (hm x hx))
  rwa [List.length_range] at this
theorem nodup_put {S : List Nat} {x : Nat} (nd : S.Nodup) (h : x ∉ S) : (S ++ [x]).Nodup := by
  rw [List.nodup_append]
  refine ⟨nd, by simp, fun a ha b hb => ?_⟩
  simp at hb
  subst hb
  exact fun e => h (e ▸ ha)
theorem st_snoc (l : List Nat) (x : Nat) : stD l ++ [.int x] = stD (l ++ [x]) := by unfold stD; simp
theorem st_get {l : List Nat} {i : Nat} {d : D} (h : (stD l)[i]? = some d) : ∃ b : Nat, d = .int b ∧ l[i]? = some b := by
  unfold stD at h
  rw [List.getElem?_map] at h
  obtain ⟨b, e1, e2⟩ := Option.map_eq_some_iff.mp h
  exact ⟨b, e2.symm, e1⟩
/-- what is found on the way -/
structure Fnd (st : List (List Nat)) (x : Nat) (S : List Nat) : Prop where
  nd : S.Nodup
  rc : ∀ a ∈ S, Rch st x a
  hx : x ∈ S
theorem Fnd.lt {st : List (List Nat)} {x : Nat} {S : List Nat} (f : Fnd st x S) (q : SQ st) (hx : x < st.length) : ∀ a ∈ S, a < st.length := fun a ha => rch_lt q hx (f.rc a ha)
theorem Fnd.put {st : List (List Nat)} {x a b : Nat} {S : List Nat} (f : Fnd st x S) (ha : a ∈ S) (hb : b ∈ nx st a) (nb : b ∉ S) : Fnd st x (S ++ [b]) :=
  ⟨nodup_put f.nd nb, fun c hc => by
    rcases List.mem_append.mp hc with q | q
    · exact f.rc c q
    · simp at q; subst q; exact .step (f.rc a ha) hb, List.mem_append_left _ f.hx⟩
theorem Fnd.one (st : List (List Nat)) (x : Nat) : Fnd st x [x] := ⟨by simp, fun a ha => by simp at ha; subst ha; exact .here, by simp⟩
theorem reached_w {st : List (List Nat)} {mk : List (List Str)} {h : AH} {k : Int} {r : AH} {x : Nat} (q : SQ st) (hx : x < st.length) (p : PS h k r) :
    W (m_reached [maD st mk, .int x]) h (fun d h' => ∃ S r', d = .tup (stD (sortN S)) ∧ PS h' k r' ∧ Fnd st x S ∧ ∀ a ∈ S, ∀ b ∈ nx st a, b ∈ S) := by
  have l2 := q.l2
  refine w_run ?_
  show W (b_reached [some (maD st mk), some (.int x), none, none, none, none]) h _
  unfold b_reached eSet1
  rw [w_cons]; simp only [W_bind, W_pure, W_bad, W_ite, w_nil, contW_nx, contW_rt, sAsg, sExpr, sRet, sIf, e2, e3, eVar, gN, gIx, eFn, aCons, aNil, eCall, eTup, eLst, eM1, eM0, eMS, W_asRef, eIsi, isi_bl, isi_int, isi_str, isi_tup, asB_bl, truD_bl, cVal, cNot, cAnd, cOr, eAnd, eOr, eNot, eIf, oSome, oNone, eSlice, List.getElem?_cons_succ, List.getElem?_cons_zero, List.set_cons_succ, List.set_cons_zero, List.length_cons, List.length_nil, Nat.reduceAdd, if_true, if_false, Bool.not_true, Bool.not_false, ite_true, ite_false, reduceIte, Bool.false_eq_true, reduceCtorEq, add_ii, sub_ii, gt_ii, ge_ii, lt_ii, le_ii, eq_ii]
  refine w_newSet p fun h1 p1 => ?_
  refine w_asSet p1 at_new ?_
  refine w_addS p1 at_new (show keyD (.int x) = some (.inl (x : Int)) from rfl) (by decide) fun h2 p2 => ?_
  rw [show putK [] (.inl (x : Int)) = kN [x] from rfl] at p2
  have E1 : ((r ++ [O.set []]).set r.length (.set (kN [x])))[r.length]? = some (.set (kN [x])) := set_at at_new
  have L1 : ((r ++ [O.set []]).set r.length (.set (kN [x]))).length = r.length + 1 := by simp
  generalize (r ++ [O.set []]).set r.length (.set (kN [x])) = r2 at p2 E1 L1
  rw [w_cons]; simp only [W_bind, W_pure, W_bad, W_ite, w_nil, contW_nx, contW_rt, sAsg, sExpr, sRet, sIf, e2, e3, eVar, gN, gIx, eFn, aCons, aNil, eCall, eTup, eLst, eM1, eM0, eMS, W_asRef, eIsi, isi_bl, isi_int, isi_str, isi_tup, asB_bl, truD_bl, cVal, cNot, cAnd, cOr, eAnd, eOr, eNot, eIf, oSome, oNone, eSlice, List.getElem?_cons_succ, List.getElem?_cons_zero, List.set_cons_succ, List.set_cons_zero, List.length_cons, List.length_nil, Nat.reduceAdd, if_true, if_false, Bool.not_true, Bool.not_false, ite_true, ite_false, reduceIte, Bool.false_eq_true, reduceCtorEq, add_ii, sub_ii, gt_ii, ge_ii, lt_ii, le_ii, eq_ii]
  refine w_newL p2 (by simp) fun h3 p3 => ?_
  rw [L1]
  have E2 := at_new (r := r2) (o := O.lst [.int x])
  rw [L1, show [D.int x] = stD [x] from rfl] at E2
  rw [show [D.int x] = stD [x] from rfl] at p3
  have E3 := at_app (j := [O.lst (stD [x])]) E1
  generalize r2 ++ [O.lst (stD [x])] = r3 at p3 E2 E3
  generalize hs : r.length = s at *
  refine w_seq (fun γ h => ∃ S a b r', γ = [some (maD st mk), some (.int x), some (.ref (s + 3)), some (.ref (s + 1 + 3)), a, b] ∧ PS h k r' ∧ r'[s]? = some (.set (kN S)) ∧ Fnd st x S ∧ ∀ a ∈ S, ∀ b ∈ nx st a, b ∈ S) ?_ ?_
  · refine while_inv (fun m γ h => ∃ S wt a b r', γ = [some (maD st mk), some (.int x), some (.ref (s + 3)), some (.ref (s + 1 + 3)), a, b] ∧ PS h k r' ∧ r'[s]? = some (.set (kN S)) ∧ r'[s + 1]? = some (.lst (stD wt)) ∧ Fnd st x S ∧ (∀ a ∈ wt, a ∈ S) ∧ (∀ a ∈ S, a ∈ wt ∨ ∀ b ∈ nx st a, b ∈ S) ∧ m + S.length = st.length + wt.length ∧ wt.length ≤ S.length) _ _ ?_ 1000000 (st.length + 0) _ _ (by omega) ⟨[x], [x], none, none, r3, rfl, p3, E3, E2, Fnd.one st x, by simp, by simp, by simp, by simp⟩
    rintro m γ h4 ⟨S, wt, a, b, r', rfl, p4, f1, f2, fn, ws, cl, me, ml⟩
    simp only [W_bind, W_pure, W_bad, W_ite, w_nil, contW_nx, contW_rt, sAsg, sExpr, sRet, sIf, e2, e3, eVar, gN, gIx, eFn, aCons, aNil, eCall, eTup, eLst, eM1, eM0, eMS, W_asRef, eIsi, isi_bl, isi_int, isi_str, isi_tup, asB_bl, truD_bl, cVal, cNot, cAnd, cOr, eAnd, eOr, eNot, eIf, oSome, oNone, eSlice, List.getElem?_cons_succ, List.getElem?_cons_zero, List.set_cons_succ, List.set_cons_zero, List.length_cons, List.length_nil, Nat.reduceAdd, if_true, if_false, Bool.not_true, Bool.not_false, ite_true, ite_false, reduceIte, Bool.false_eq_true, reduceCtorEq, add_ii, sub_ii, gt_ii, ge_ii, lt_ii, le_ii, eq_ii, truD]
    refine w_getL p4 f2 ?_
    cases hw : wt.reverse with
    | nil =>
      have : wt = [] := by simpa using hw
      subst this
      simp only [stD, List.map_nil, List.isEmpty_nil, W_bind, W_pure, W_bad, W_ite, w_nil, contW_nx, contW_rt, sAsg, sExpr, sRet, sIf, e2, e3, eVar, gN, gIx, eFn, aCons, aNil, eCall, eTup, eLst, eM1, eM0, eMS, W_asRef, eIsi, isi_bl, isi_int, isi_str, isi_tup, asB_bl, truD_bl, cVal, cNot, cAnd, cOr, eAnd, eOr, eNot, eIf, oSome, oNone, eSlice, List.getElem?_cons_succ, List.getElem?_cons_zero, List.set_cons_succ, List.set_cons_zero, List.length_cons, List.length_nil, Nat.reduceAdd, if_true, if_false, Bool.not_true, Bool.not_false, ite_true, ite_false, reduceIte, Bool.false_eq_true, reduceCtorEq, add_ii, sub_ii, gt_ii, ge_ii, lt_ii, le_ii, eq_ii]
      exact ⟨S, a, b, r', rfl, p4, f1, fn, fun a ha => by simpa using cl a ha⟩
    | cons y yr =>
      obtain ⟨wr, rfl⟩ : ∃ wr, wt = wr ++ [y] := ⟨yr.reverse, by rw [← List.reverse_reverse wt, hw]; simp⟩
      rw [show (!(stD (wr ++ [y])).isEmpty) = true by unfold stD; simp]
      simp only [W_bind, W_pure, W_bad, W_ite, w_nil, contW_nx, contW_rt, sAsg, sExpr, sRet, sIf, e2, e3, eVar, gN, gIx, eFn, aCons, aNil, eCall, eTup, eLst, eM1, eM0, eMS, W_asRef, eIsi, isi_bl, isi_int, isi_str, isi_tup, asB_bl, truD_bl, cVal, cNot, cAnd, cOr, eAnd, eOr, eNot, eIf, oSome, oNone, eSlice, List.getElem?_cons_succ, List.getElem?_cons_zero, List.set_cons_succ, List.set_cons_zero, List.length_cons, List.length_nil, Nat.reduceAdd, if_true, if_false, Bool.not_true, Bool.not_false, ite_true, ite_false, reduceIte, Bool.false_eq_true, reduceCtorEq, add_ii, sub_ii, gt_ii, ge_ii, lt_ii, le_ii, eq_ii]
      have sl := nodup_len fn.nd (fn.lt q hx)
      have yS : y ∈ S := ws y (by simp)
      have yl := fn.lt q hx y yS
      refine ⟨m - 1, by simp at me; omega, ?_⟩
      rw [w_cons]; simp only [W_bind, W_pure, W_bad, W_ite, w_nil, contW_nx, contW_rt, sAsg, sExpr, sRet, sIf, e2, e3, eVar, gN, gIx, eFn, aCons, aNil, eCall, eTup, eLst, eM1, eM0, eMS, W_asRef, eIsi, isi_bl, isi_int, isi_str, isi_tup, asB_bl, truD_bl, cVal, cNot, cAnd, cOr, eAnd, eOr, eNot, eIf, oSome, oNone, eSlice, List.getElem?_cons_succ, List.getElem?_cons_zero, List.set_cons_succ, List.set_cons_zero, List.length_cons, List.length_nil, Nat.reduceAdd, if_true, if_false, Bool.not_true, Bool.not_false, ite_true, ite_false, reduceIte, Bool.false_eq_true, reduceCtorEq, add_ii, sub_ii, gt_ii, ge_ii, lt_ii, le_ii, eq_ii]
      refine w_getL p4 f2 ?_
      rw [← st_snoc] at f2
      simp at me ml
      refine w_pop p4 f2 (by rw [st_len]; omega) fun h5 p5 => ?_
      have g1 := set_ne (i := s + 1) (o' := .lst (stD wr)) f1 (by omega)
      have g2 := set_at (o' := .lst (stD wr)) f2
      generalize r'.set (s + 1) (.lst (stD wr)) = r5 at p5 g1 g2
      rw [w_cons]
      refine for_src (fun c γ h => ∃ S wt b r', γ = [some (maD st mk), some (.int x), some (.ref (s + 3)), some (.ref (s + 1 + 3)), some (.int y), b] ∧ PS h k r' ∧ r'[s]? = some (.set (kN S)) ∧ r'[s + 1]? = some (.lst (stD wt)) ∧ Fnd st x S ∧ (∀ a ∈ wt, a ∈ S) ∧ y ∈ S ∧ (∀ a ∈ S, a ∈ wt ∨ a = y ∨ ∀ b ∈ nx st a, b ∈ S) ∧ (m - 1) + S.length = st.length + wt.length ∧ wt.length ≤ S.length ∧ ∀ i b, i < c → (nx st y)[i]? = some b → b ∈ S) (fun _ _ => False) ?_
      simp only [iSeqT, W_bind, W_pure, W_bad, W_ite, w_nil, contW_nx, contW_rt, sAsg, sExpr, sRet, sIf, e2, e3, eVar, gN, gIx, eFn, aCons, aNil, eCall, eTup, eLst, eM1, eM0, eMS, W_asRef, eIsi, isi_bl, isi_int, isi_str, isi_tup, asB_bl, truD_bl, cVal, cNot, cAnd, cOr, eAnd, eOr, eNot, eIf, oSome, oNone, eSlice, List.getElem?_cons_succ, List.getElem?_cons_zero, List.set_cons_succ, List.set_cons_zero, List.length_cons, List.length_nil, Nat.reduceAdd, if_true, if_false, Bool.not_true, Bool.not_false, ite_true, ite_false, reduceIte, Bool.false_eq_true, reduceCtorEq, add_ii, sub_ii, gt_ii, ge_ii, lt_ii, le_ii, eq_ii, ix_ma0, ix_row yl]
      refine ⟨⟨S, wr, b, r5, rfl, p5, g1, g2, fn, fun a ha => ws a (by simp [ha]), yS, fun a ha => ?_, by omega, by omega, fun i b hi => by omega⟩, fun _ _ _ _ => trivial, ?_, ?_, fun _ _ q => q.elim⟩
      · rcases cl a ha with q | q
        · rcases List.mem_append.mp q with q | q
          · exact .inl q
          · simp at q; exact .inr (.inl q)
        · exact .inr (.inr q)
      · rintro c d γ h6 hd ⟨S, wt, b, r', rfl, p6, f1, f2, fn, ws, yS, cl, me, ml, hc⟩
        obtain ⟨e, rfl, he⟩ := st_get hd
        simp only [W_bind, W_pure, W_bad, W_ite, w_nil, contW_nx, contW_rt, sAsg, sExpr, sRet, sIf, e2, e3, eVar, gN, gIx, eFn, aCons, aNil, eCall, eTup, eLst, eM1, eM0, eMS, W_asRef, eIsi, isi_bl, isi_int, isi_str, isi_tup, asB_bl, truD_bl, cVal, cNot, cAnd, cOr, eAnd, eOr, eNot, eIf, oSome, oNone, eSlice, List.getElem?_cons_succ, List.getElem?_cons_zero, List.set_cons_succ, List.set_cons_zero, List.length_cons, List.length_nil, Nat.reduceAdd, if_true, if_false, Bool.not_true, Bool.not_false, ite_true, ite_false, reduceIte, Bool.false_eq_true, reduceCtorEq, add_ii, sub_ii, gt_ii, ge_ii, lt_ii, le_ii, eq_ii]
        rw [w_cons]; simp only [W_bind, W_pure, W_bad, W_ite, w_nil, contW_nx, contW_rt, sAsg, sExpr, sRet, sIf, e2, e3, eVar, gN, gIx, eFn, aCons, aNil, eCall, eTup, eLst, eM1, eM0, eMS, W_asRef, eIsi, isi_bl, isi_int, isi_str, isi_tup, asB_bl, truD_bl, cVal, cNot, cAnd, cOr, eAnd, eOr, eNot, eIf, oSome, oNone, eSlice, List.getElem?_cons_succ, List.getElem?_cons_zero, List.set_cons_succ, List.set_cons_zero, List.length_cons, List.length_nil, Nat.reduceAdd, if_true, if_false, Bool.not_true, Bool.not_false, ite_true, ite_false, reduceIte, Bool.false_eq_true, reduceCtorEq, add_ii, sub_ii, gt_ii, ge_ii, lt_ii, le_ii, eq_ii]
        refine inS_w p6 f1 ?_
        have en : e ∈ nx st y := List.mem_of_getElem? he
        by_cases eS : e ∈ S
        · rw [decide_eq_true eS]
          simp only [W_bind, W_pure, W_bad, W_ite, w_nil, contW_nx, contW_rt, sAsg, sExpr, sRet, sIf, e2, e3, eVar, gN, gIx, eFn, aCons, aNil, eCall, eTup, eLst, eM1, eM0, eMS, W_asRef, eIsi, isi_bl, isi_int, isi_str, isi_tup, asB_bl, truD_bl, cVal, cNot, cAnd, cOr, eAnd, eOr, eNot, eIf, oSome, oNone, eSlice, List.getElem?_cons_succ, List.getElem?_cons_zero, List.set_cons_succ, List.set_cons_zero, List.length_cons, List.length_nil, Nat.reduceAdd, if_true, if_false, Bool.not_true, Bool.not_false, ite_true, ite_false, reduceIte, Bool.false_eq_true, reduceCtorEq, add_ii, sub_ii, gt_ii, ge_ii, lt_ii, le_ii, eq_ii, Bool.true_bne, asB_bl]
          refine ⟨S, wt, _, r', rfl, p6, f1, f2, fn, ws, yS, cl, me, ml, fun i b hi hb => ?_⟩
          by_cases ic : i = c
          · subst ic; rw [he] at hb; cases hb; exact eS
          · exact hc i b (by omega) hb
        · rw [decide_eq_false eS]
          simp only [W_bind, W_pure, W_bad, W_ite, w_nil, contW_nx, contW_rt, sAsg, sExpr, sRet, sIf, e2, e3, eVar, gN, gIx, eFn, aCons, aNil, eCall, eTup, eLst, eM1, eM0, eMS, W_asRef, eIsi, isi_bl, isi_int, isi_str, isi_tup, asB_bl, truD_bl, cVal, cNot, cAnd, cOr, eAnd, eOr, eNot, eIf, oSome, oNone, eSlice, List.getElem?_cons_succ, List.getElem?_cons_zero, List.set_cons_succ, List.set_cons_zero, List.length_cons, List.length_nil, Nat.reduceAdd, if_true, if_false, Bool.not_true, Bool.not_false, ite_true, ite_false, reduceIte, Bool.false_eq_true, reduceCtorEq, add_ii, sub_ii, gt_ii, ge_ii, lt_ii, le_ii, eq_ii, Bool.false_bne, asB_bl]
          rw [w_cons]; simp only [W_bind, W_pure, W_bad, W_ite, w_nil, contW_nx, contW_rt, sAsg, sExpr, sRet, sIf, e2, e3, eVar, gN, gIx, eFn, aCons, aNil, eCall, eTup, eLst, eM1, eM0, eMS, W_asRef, eIsi, isi_bl, isi_int, isi_str, isi_tup, asB_bl, truD_bl, cVal, cNot, cAnd, cOr, eAnd, eOr, eNot, eIf, oSome, oNone, eSlice, List.getElem?_cons_succ, List.getElem?_cons_zero, List.set_cons_succ, List.set_cons_zero, List.length_cons, List.length_nil, Nat.reduceAdd, if_true, if_false, Bool.not_true, Bool.not_false, ite_true, ite_false, reduceIte, Bool.false_eq_true, reduceCtorEq, add_ii, sub_ii, gt_ii, ge_ii, lt_ii, le_ii, eq_ii]
          refine w_asSet p6 f1 ?_
          have fn2 := fn.put yS en eS
          have sl2 := nodup_len fn2.nd (fn2.lt q hx)
          have sl := nodup_len fn.nd (fn.lt q hx)
          refine w_addS p6 f1 (show keyD (.int e) = some (.inl (e : Int)) from rfl) (by rw [kN_len]; omega) fun h7 p7 => ?_
          rw [put_kN eS] at p7
          rw [w_cons]; simp only [W_bind, W_pure, W_bad, W_ite, w_nil, contW_nx, contW_rt, sAsg, sExpr, sRet, sIf, e2, e3, eVar, gN, gIx, eFn, aCons, aNil, eCall, eTup, eLst, eM1, eM0, eMS, W_asRef, eIsi, isi_bl, isi_int, isi_str, isi_tup, asB_bl, truD_bl, cVal, cNot, cAnd, cOr, eAnd, eOr, eNot, eIf, oSome, oNone, eSlice, List.getElem?_cons_succ, List.getElem?_cons_zero, List.set_cons_succ, List.set_cons_zero, List.length_cons, List.length_nil, Nat.reduceAdd, if_true, if_false, Bool.not_true, Bool.not_false, ite_true, ite_false, reduceIte, Bool.false_eq_true, reduceCtorEq, add_ii, sub_ii, gt_ii, ge_ii, lt_ii, le_ii, eq_ii]
          refine w_getL p7 (set_ne f2 (by omega)) ?_
          refine w_append p7 (set_ne f2 (by omega)) (by rw [st_len]; omega) fun h8 p8 => ?_
          rw [st_snoc] at p8
          refine ⟨S ++ [e], wt ++ [e], _, _, rfl, p8, set_ne (set_at f1) (by omega), set_at (set_ne f2 (by omega)), fn2, ?_, List.mem_append_left _ yS, ?_, by simp; omega, by simp; omega, ?_⟩
          · intro a ha
            rcases List.mem_append.mp ha with q | q
            · exact List.mem_append_left _ (ws a q)
            · exact List.mem_append_right _ q
          · intro a ha
            rcases List.mem_append.mp ha with q | q
            · rcases cl a q with q | q | q
              · exact .inl (List.mem_append_left _ q)
              · exact .inr (.inl q)
              · exact .inr (.inr fun b hb => List.mem_append_left _ (q b hb))
            · exact .inl (List.mem_append_right _ q)
          · intro i b hi hb
            by_cases ic : i = c
            · subst ic; rw [he] at hb; cases hb; simp
            · exact List.mem_append_left _ (hc i b (by omega) hb)
      · rintro γ h6 ⟨S, wt, b, r', rfl, p6, f1, f2, fn, ws, yS, cl, me, ml, hc⟩
        have all : ∀ b ∈ nx st y, b ∈ S := fun b hb => by
          obtain ⟨i, hi, e⟩ := List.getElem_of_mem hb
          exact hc i b (by simpa [Src.items, st_len] using hi) (by rw [← e]; exact List.getElem?_eq_getElem hi)
        refine ⟨m - 1, Nat.le_refl _, S, wt, _, _, r', rfl, p6, f1, f2, fn, ws, fun a ha => ?_, me, ml⟩
        rcases cl a ha with q | q | q
        · exact .inl q
        · subst q; exact .inr all
        · exact .inr q
  · rintro γ h4 ⟨S, a, b, r', rfl, p4, f1, fn, cl⟩
    have sl := nodup_len fn.nd (fn.lt q hx)
    rw [w_cons]; simp only [W_bind, W_pure, W_bad, W_ite, w_nil, contW_nx, contW_rt, sAsg, sExpr, sRet, sIf, e2, e3, eVar, gN, gIx, eFn, aCons, aNil, eCall, eTup, eLst, eM1, eM0, eMS, W_asRef, eIsi, isi_bl, isi_int, isi_str, isi_tup, asB_bl, truD_bl, cVal, cNot, cAnd, cOr, eAnd, eOr, eNot, eIf, oSome, oNone, eSlice, List.getElem?_cons_succ, List.getElem?_cons_zero, List.set_cons_succ, List.set_cons_zero, List.length_cons, List.length_nil, Nat.reduceAdd, if_true, if_false, Bool.not_true, Bool.not_false, ite_true, ite_false, reduceIte, Bool.false_eq_true, reduceCtorEq, add_ii, sub_ii, gt_ii, ge_ii, lt_ii, le_ii, eq_ii]
    have fs : ∀ n : Nat, fSortedS [.ref n] = (do
      let ks ← getS n
      match intsK ks with
      | some ns => if ns.length < 64 then newL ((sortI ns).map .int) else bad
      | none => bad) := fun _ => rfl
    rw [fs, W_bind]
    refine w_getS p4 f1 ?_
    rw [ints_kN]
    dsimp only
    rw [if_pos (by unfold zN; simp; omega), sortN_int]
    refine w_newL p4 (by rw [st_len, sortN_len]; omega) fun h5 p5 => ?_
    have ft : ∀ i : Nat, fTuple [.ref i] = (do let x ← getL i; pure (.tup x)) := fun _ => rfl
    rw [ft, W_bind]
    refine w_getL p5 at_new ?_
    rw [W_pure]
    exact ⟨S, _, rfl, p5, fn, cl⟩
end FT
set_option Elab.async false
set_option linter.all false
set_option maxRecDepth 100000
set_option maxHeartbeats 2000000
namespace FT
open PySem PySem.Spec PyProof.Rows L2

theorem walk_w {st : List (List Nat)} {mk : List (List Str)} {h : AH} {k : Int} {r : AH} {x : Nat} (q : SQ st) (hx : x < st.length) (p : PS h k r) :
    W (m__law_walk [maD st mk, .int x]) h (fun d h' => ∃ S j i, d = .ref (i + 3) ∧ PS h' k (r ++ j) ∧ (r ++ j)[i]? = some (.lst (stD (sortN S))) ∧ Fnd st x S ∧ ∀ a ∈ S, ∀ b ∈ nx st a, b ∈ S) := by
  have l2 := q.l2
  refine w_run ?_
  show W (b__law_walk [some (maD st mk), some (.int x), none, none, none]) h _
  unfold b__law_walk
  rw [w_cons]; simp only [W_bind, W_pure, W_bad, W_ite, w_nil, contW_nx, contW_rt, sAsg, sExpr, sRet, sIf, e2, e3, eVar, gN, gIx, eFn, aCons, aNil, eCall, eTup, eLst, eM1, eM0, eMS, W_asRef, eIsi, isi_bl, isi_int, isi_str, isi_tup, asB_bl, truD_bl, cVal, cNot, cAnd, cOr, eAnd, eOr, eNot, eIf, oSome, oNone, eSlice, List.getElem?_cons_succ, List.getElem?_cons_zero, List.set_cons_succ, List.set_cons_zero, List.length_cons, List.length_nil, Nat.reduceAdd, if_true, if_false, Bool.not_true, Bool.not_false, ite_true, ite_false, reduceIte, Bool.false_eq_true, reduceCtorEq, add_ii, sub_ii, gt_ii, ge_ii, lt_ii, le_ii, eq_ii]
  refine w_newL p (by simp) fun h1 p1 => ?_
  rw [show [D.int x] = stD [x] from rfl] at p1
  rw [w_cons]; simp only [W_bind, W_pure, W_bad, W_ite, w_nil, contW_nx, contW_rt, sAsg, sExpr, sRet, sIf, e2, e3, eVar, gN, gIx, eFn, aCons, aNil, eCall, eTup, eLst, eM1, eM0, eMS, W_asRef, eIsi, isi_bl, isi_int, isi_str, isi_tup, asB_bl, truD_bl, cVal, cNot, cAnd, cOr, eAnd, eOr, eNot, eIf, oSome, oNone, eSlice, List.getElem?_cons_succ, List.getElem?_cons_zero, List.set_cons_succ, List.set_cons_zero, List.length_cons, List.length_nil, Nat.reduceAdd, if_true, if_false, Bool.not_true, Bool.not_false, ite_true, ite_false, reduceIte, Bool.false_eq_true, reduceCtorEq, add_ii, sub_ii, gt_ii, ge_ii, lt_ii, le_ii, eq_ii]
  refine w_seq (fun γ h => ∃ S at' b, γ = [some (maD st mk), some (.int x), some (.ref (r.length + 3)), at', b] ∧ PS h k (r ++ [.lst (stD S)]) ∧ Fnd st x S ∧ ∀ a ∈ S, ∀ b ∈ nx st a, b ∈ S) ?_ ?_
  · refine while_inv (fun m γ h => ∃ (S : List Nat) (c : Nat) (b : Option D), γ = [some (maD st mk), some (.int x), some (.ref (r.length + 3)), some (.int c), b] ∧ PS h k (r ++ [.lst (stD S)]) ∧ Fnd st x S ∧ c ≤ S.length ∧ (∀ i a, i < c → S[i]? = some a → ∀ b ∈ nx st a, b ∈ S) ∧ m + c = st.length) _ _ ?_ 1000000 st.length _ _ (by omega) ⟨[x], 0, none, rfl, p1, Fnd.one st x, by simp, fun i a hi => by omega, by omega⟩
    rintro m γ h2 ⟨S, c, b, rfl, p2, fn, cl, cd, me⟩
    have sl := nodup_len fn.nd (fn.lt q hx)
    simp only [W_bind, W_pure, W_bad, W_ite, w_nil, contW_nx, contW_rt, sAsg, sExpr, sRet, sIf, e2, e3, eVar, gN, gIx, eFn, aCons, aNil, eCall, eTup, eLst, eM1, eM0, eMS, W_asRef, eIsi, isi_bl, isi_int, isi_str, isi_tup, asB_bl, truD_bl, cVal, cNot, cAnd, cOr, eAnd, eOr, eNot, eIf, oSome, oNone, eSlice, List.getElem?_cons_succ, List.getElem?_cons_zero, List.set_cons_succ, List.set_cons_zero, List.length_cons, List.length_nil, Nat.reduceAdd, if_true, if_false, Bool.not_true, Bool.not_false, ite_true, ite_false, reduceIte, Bool.false_eq_true, reduceCtorEq, add_ii, sub_ii, gt_ii, ge_ii, lt_ii, le_ii, eq_ii]
    refine w_lenr p2 at_new ?_
    rw [lt_ii, W_pure, asB_bl, W_pure, st_len]
    by_cases hc : c < S.length
    · rw [decide_eq_true (show (c : Int) < S.length by omega)]
      simp only [W_bind, W_pure, W_bad, W_ite, w_nil, contW_nx, contW_rt, sAsg, sExpr, sRet, sIf, e2, e3, eVar, gN, gIx, eFn, aCons, aNil, eCall, eTup, eLst, eM1, eM0, eMS, W_asRef, eIsi, isi_bl, isi_int, isi_str, isi_tup, asB_bl, truD_bl, cVal, cNot, cAnd, cOr, eAnd, eOr, eNot, eIf, oSome, oNone, eSlice, List.getElem?_cons_succ, List.getElem?_cons_zero, List.set_cons_succ, List.set_cons_zero, List.length_cons, List.length_nil, Nat.reduceAdd, if_true, if_false, Bool.not_true, Bool.not_false, ite_true, ite_false, reduceIte, Bool.false_eq_true, reduceCtorEq, add_ii, sub_ii, gt_ii, ge_ii, lt_ii, le_ii, eq_ii]
      refine ⟨m - 1, by omega, ?_⟩
      have yS : S[c] ∈ S := List.getElem_mem hc
      have yl := fn.lt q hx _ yS
      have mc : (S[c]?).getD 0 = S[c] := by rw [List.getElem?_eq_getElem hc]; rfl
      refine w_seq (fun γ h => ∃ S' b, γ = [some (maD st mk), some (.int x), some (.ref (r.length + 3)), some (.int c), b] ∧ PS h k (r ++ [.lst (stD S')]) ∧ Fnd st x S' ∧ S.length ≤ S'.length ∧ (∀ i a, i < c + 1 → S'[i]? = some a → ∀ b ∈ nx st a, b ∈ S')) ?_ ?_
      · refine for_src (fun c' γ h => ∃ S' b, γ = [some (maD st mk), some (.int x), some (.ref (r.length + 3)), some (.int c), b] ∧ PS h k (r ++ [.lst (stD S')]) ∧ Fnd st x S' ∧ S.length ≤ S'.length ∧ S'[c]? = some S[c] ∧ (∀ i a, i < c → S'[i]? = some a → ∀ b ∈ nx st a, b ∈ S') ∧ ∀ i b, i < c' → (nx st S[c])[i]? = some b → b ∈ S') (fun _ _ => False) ?_
        unfold iSeqT
        simp only [W_bind, W_pure, W_bad, W_ite, w_nil, contW_nx, contW_rt, sAsg, sExpr, sRet, sIf, e2, e3, eVar, gN, gIx, eFn, aCons, aNil, eCall, eTup, eLst, eM1, eM0, eMS, W_asRef, eIsi, isi_bl, isi_int, isi_str, isi_tup, asB_bl, truD_bl, cVal, cNot, cAnd, cOr, eAnd, eOr, eNot, eIf, oSome, oNone, eSlice, List.getElem?_cons_succ, List.getElem?_cons_zero, List.set_cons_succ, List.set_cons_zero, List.length_cons, List.length_nil, Nat.reduceAdd, if_true, if_false, Bool.not_true, Bool.not_false, ite_true, ite_false, reduceIte, Bool.false_eq_true, reduceCtorEq, add_ii, sub_ii, gt_ii, ge_ii, lt_ii, le_ii, eq_ii, ix_ma0]
        refine w_ixr p2 at_new (st_at hc) ?_
        rw [mc]
        simp only [W_bind, W_pure, W_bad, W_ite, w_nil, contW_nx, contW_rt, sAsg, sExpr, sRet, sIf, e2, e3, eVar, gN, gIx, eFn, aCons, aNil, eCall, eTup, eLst, eM1, eM0, eMS, W_asRef, eIsi, isi_bl, isi_int, isi_str, isi_tup, asB_bl, truD_bl, cVal, cNot, cAnd, cOr, eAnd, eOr, eNot, eIf, oSome, oNone, eSlice, List.getElem?_cons_succ, List.getElem?_cons_zero, List.set_cons_succ, List.set_cons_zero, List.length_cons, List.length_nil, Nat.reduceAdd, if_true, if_false, Bool.not_true, Bool.not_false, ite_true, ite_false, reduceIte, Bool.false_eq_true, reduceCtorEq, add_ii, sub_ii, gt_ii, ge_ii, lt_ii, le_ii, eq_ii, ix_row yl]
        refine ⟨⟨S, b, rfl, p2, fn, Nat.le_refl _, List.getElem?_eq_getElem hc, cd, fun i b hi => by omega⟩, fun _ _ _ _ => trivial, ?_, ?_, fun _ _ q => q.elim⟩
        · rintro c' d γ h6 hd ⟨S', b, rfl, p6, fn', le', ec, cd', hc'⟩
          obtain ⟨e, rfl, he⟩ := st_get hd
          simp only [W_bind, W_pure, W_bad, W_ite, w_nil, contW_nx, contW_rt, sAsg, sExpr, sRet, sIf, e2, e3, eVar, gN, gIx, eFn, aCons, aNil, eCall, eTup, eLst, eM1, eM0, eMS, W_asRef, eIsi, isi_bl, isi_int, isi_str, isi_tup, asB_bl, truD_bl, cVal, cNot, cAnd, cOr, eAnd, eOr, eNot, eIf, oSome, oNone, eSlice, List.getElem?_cons_succ, List.getElem?_cons_zero, List.set_cons_succ, List.set_cons_zero, List.length_cons, List.length_nil, Nat.reduceAdd, if_true, if_false, Bool.not_true, Bool.not_false, ite_true, ite_false, reduceIte, Bool.false_eq_true, reduceCtorEq, add_ii, sub_ii, gt_ii, ge_ii, lt_ii, le_ii, eq_ii]
          rw [w_cons]; simp only [W_bind, W_pure, W_bad, W_ite, w_nil, contW_nx, contW_rt, sAsg, sExpr, sRet, sIf, e2, e3, eVar, gN, gIx, eFn, aCons, aNil, eCall, eTup, eLst, eM1, eM0, eMS, W_asRef, eIsi, isi_bl, isi_int, isi_str, isi_tup, asB_bl, truD_bl, cVal, cNot, cAnd, cOr, eAnd, eOr, eNot, eIf, oSome, oNone, eSlice, List.getElem?_cons_succ, List.getElem?_cons_zero, List.set_cons_succ, List.set_cons_zero, List.length_cons, List.length_nil, Nat.reduceAdd, if_true, if_false, Bool.not_true, Bool.not_false, ite_true, ite_false, reduceIte, Bool.false_eq_true, reduceCtorEq, add_ii, sub_ii, gt_ii, ge_ii, lt_ii, le_ii, eq_ii]
          refine W.of (in_ref p6 at_new) ?_
          have en : e ∈ nx st S[c] := List.mem_of_getElem? he
          by_cases eS : e ∈ S'
          · rw [decide_eq_true eS]
            simp only [W_bind, W_pure, W_bad, W_ite, w_nil, contW_nx, contW_rt, sAsg, sExpr, sRet, sIf, e2, e3, eVar, gN, gIx, eFn, aCons, aNil, eCall, eTup, eLst, eM1, eM0, eMS, W_asRef, eIsi, isi_bl, isi_int, isi_str, isi_tup, asB_bl, truD_bl, cVal, cNot, cAnd, cOr, eAnd, eOr, eNot, eIf, oSome, oNone, eSlice, List.getElem?_cons_succ, List.getElem?_cons_zero, List.set_cons_succ, List.set_cons_zero, List.length_cons, List.length_nil, Nat.reduceAdd, if_true, if_false, Bool.not_true, Bool.not_false, ite_true, ite_false, reduceIte, Bool.false_eq_true, reduceCtorEq, add_ii, sub_ii, gt_ii, ge_ii, lt_ii, le_ii, eq_ii, Bool.true_bne, asB_bl]
            refine ⟨S', _, rfl, p6, fn', le', ec, cd', fun i b hi hb => ?_⟩
            by_cases ic : i = c'
            · subst ic; rw [he] at hb; cases hb; exact eS
            · exact hc' i b (by omega) hb
          · rw [decide_eq_false eS]
            simp only [W_bind, W_pure, W_bad, W_ite, w_nil, contW_nx, contW_rt, sAsg, sExpr, sRet, sIf, e2, e3, eVar, gN, gIx, eFn, aCons, aNil, eCall, eTup, eLst, eM1, eM0, eMS, W_asRef, eIsi, isi_bl, isi_int, isi_str, isi_tup, asB_bl, truD_bl, cVal, cNot, cAnd, cOr, eAnd, eOr, eNot, eIf, oSome, oNone, eSlice, List.getElem?_cons_succ, List.getElem?_cons_zero, List.set_cons_succ, List.set_cons_zero, List.length_cons, List.length_nil, Nat.reduceAdd, if_true, if_false, Bool.not_true, Bool.not_false, ite_true, ite_false, reduceIte, Bool.false_eq_true, reduceCtorEq, add_ii, sub_ii, gt_ii, ge_ii, lt_ii, le_ii, eq_ii, Bool.false_bne, asB_bl]
            rw [w_cons]; simp only [W_bind, W_pure, W_bad, W_ite, w_nil, contW_nx, contW_rt, sAsg, sExpr, sRet, sIf, e2, e3, eVar, gN, gIx, eFn, aCons, aNil, eCall, eTup, eLst, eM1, eM0, eMS, W_asRef, eIsi, isi_bl, isi_int, isi_str, isi_tup, asB_bl, truD_bl, cVal, cNot, cAnd, cOr, eAnd, eOr, eNot, eIf, oSome, oNone, eSlice, List.getElem?_cons_succ, List.getElem?_cons_zero, List.set_cons_succ, List.set_cons_zero, List.length_cons, List.length_nil, Nat.reduceAdd, if_true, if_false, Bool.not_true, Bool.not_false, ite_true, ite_false, reduceIte, Bool.false_eq_true, reduceCtorEq, add_ii, sub_ii, gt_ii, ge_ii, lt_ii, le_ii, eq_ii]
            refine w_getL p6 at_new ?_
            have fn2 := fn'.put (List.mem_of_getElem? ec) en eS
            have sl' := nodup_len fn'.nd (fn'.lt q hx)
            refine w_append p6 at_new (by rw [st_len]; omega) fun h8 p8 => ?_
            rw [st_snoc, show (r ++ [O.lst (stD S')]).set r.length (.lst (stD (S' ++ [e]))) = r ++ [O.lst (stD (S' ++ [e]))] by simp] at p8
            refine ⟨S' ++ [e], _, rfl, p8, fn2, by simp; omega, ?_, ?_, ?_⟩
            · rw [List.getElem?_append_left (by omega)]; exact ec
            · intro i a hi ha b hb
              rw [List.getElem?_append_left (by omega)] at ha
              exact List.mem_append_left _ (cd' i a hi ha b hb)
            · intro i b hi hb
              by_cases ic : i = c'
              · subst ic; rw [he] at hb; cases hb; simp
              · exact List.mem_append_left _ (hc' i b (by omega) hb)
        · rintro γ h6 ⟨S', b, rfl, p6, fn', le', ec, cd', hc'⟩
          refine ⟨S', b, rfl, p6, fn', le', fun i a hi ha b hb => ?_⟩
          by_cases ic : i = c
          · subst ic
            rw [ec] at ha
            cases ha
            obtain ⟨i, hi, e⟩ := List.getElem_of_mem hb
            exact hc' i b (by simpa [Src.items, st_len] using hi) (by rw [← e]; exact List.getElem?_eq_getElem hi)
          · exact cd' i a (by omega) ha b hb
      · rintro γ h6 ⟨S', b, rfl, p6, fn', le', cd'⟩
        rw [w_cons]; simp only [W_bind, W_pure, W_bad, W_ite, w_nil, contW_nx, contW_rt, sAsg, sExpr, sRet, sIf, e2, e3, eVar, gN, gIx, eFn, aCons, aNil, eCall, eTup, eLst, eM1, eM0, eMS, W_asRef, eIsi, isi_bl, isi_int, isi_str, isi_tup, asB_bl, truD_bl, cVal, cNot, cAnd, cOr, eAnd, eOr, eNot, eIf, oSome, oNone, eSlice, List.getElem?_cons_succ, List.getElem?_cons_zero, List.set_cons_succ, List.set_cons_zero, List.length_cons, List.length_nil, Nat.reduceAdd, if_true, if_false, Bool.not_true, Bool.not_false, ite_true, ite_false, reduceIte, Bool.false_eq_true, reduceCtorEq, add_ii, sub_ii, gt_ii, ge_ii, lt_ii, le_ii, eq_ii]
        exact ⟨m - 1, Nat.le_refl _, S', c + 1, b, by simp, p6, fn', by omega, cd', by omega⟩
    · rw [decide_eq_false (show ¬ (c : Int) < S.length by omega)]
      simp only [W_bind, W_pure, W_bad, W_ite, w_nil, contW_nx, contW_rt, sAsg, sExpr, sRet, sIf, e2, e3, eVar, gN, gIx, eFn, aCons, aNil, eCall, eTup, eLst, eM1, eM0, eMS, W_asRef, eIsi, isi_bl, isi_int, isi_str, isi_tup, asB_bl, truD_bl, cVal, cNot, cAnd, cOr, eAnd, eOr, eNot, eIf, oSome, oNone, eSlice, List.getElem?_cons_succ, List.getElem?_cons_zero, List.set_cons_succ, List.set_cons_zero, List.length_cons, List.length_nil, Nat.reduceAdd, if_true, if_false, Bool.not_true, Bool.not_false, ite_true, ite_false, reduceIte, Bool.false_eq_true, reduceCtorEq, add_ii, sub_ii, gt_ii, ge_ii, lt_ii, le_ii, eq_ii]
      refine ⟨S, _, _, rfl, p2, fn, fun a ha b hb => ?_⟩
      obtain ⟨i, hi, e⟩ := List.getElem_of_mem ha
      exact cd i a (by omega) (by rw [← e]; exact List.getElem?_eq_getElem hi) b hb
  · rintro γ h2 ⟨S, a, b, rfl, p2, fn, cl⟩
    have sl := nodup_len fn.nd (fn.lt q hx)
    rw [w_cons]; simp only [W_bind, W_pure, W_bad, W_ite, w_nil, contW_nx, contW_rt, sAsg, sExpr, sRet, sIf, e2, e3, eVar, gN, gIx, eFn, aCons, aNil, eCall, eTup, eLst, eM1, eM0, eMS, W_asRef, eIsi, isi_bl, isi_int, isi_str, isi_tup, asB_bl, truD_bl, cVal, cNot, cAnd, cOr, eAnd, eOr, eNot, eIf, oSome, oNone, eSlice, List.getElem?_cons_succ, List.getElem?_cons_zero, List.set_cons_succ, List.set_cons_zero, List.length_cons, List.length_nil, Nat.reduceAdd, if_true, if_false, Bool.not_true, Bool.not_false, ite_true, ite_false, reduceIte, Bool.false_eq_true, reduceCtorEq, add_ii, sub_ii, gt_ii, ge_ii, lt_ii, le_ii, eq_ii]
    have fs : ∀ i : Nat, fSorted [.ref i] = (do
      let xs ← getL i
      if xs.length < 64 then (match strsD xs with
        | some ss => newL ((sortS ss).map .str)
        | none => (match numsD xs with
          | some ns => newL ((sortI ns).map .int)
          | none => bad)) else bad) := fun _ => rfl
    rw [fs, W_bind]
    refine w_getL p2 at_new ?_
    have sn : strsD (stD S) = none := by
      have := fn.hx
      cases S with
      | nil => cases this
      | cons a S => rfl
    rw [if_pos (by rw [st_len]; omega), sn, nums_stD]
    dsimp only
    rw [sortN_int]
    refine w_newL p2 (by rw [st_len, sortN_len]; omega) fun h5 p5 => ?_
    have e5 := at_new (r := r ++ [O.lst (stD S)]) (o := .lst (stD (sortN S)))
    rw [List.append_assoc] at p5
    refine ⟨S, _, _, rfl, p5, ?_, fn, cl⟩
    rw [← List.append_assoc]
    exact e5
theorem fnd_perm {st : List (List Nat)} {x : Nat} {S T : List Nat} (f : Fnd st x S) (g : Fnd st x T) (cf : ∀ a ∈ S, ∀ b ∈ nx st a, b ∈ S) (cg : ∀ a ∈ T, ∀ b ∈ nx st a, b ∈ T) : S.Perm T := by
  refine (List.perm_ext_iff_of_nodup f.nd g.nd).mpr fun a => ⟨fun h => ?_, fun h => ?_⟩
  · exact rch_in g.hx cg (f.rc a h)
  · exact rch_in f.hx cf (g.rc a h)
theorem right_w {st : List (List Nat)} {mk : List (List Str)} {h : AH} {k : Int} {r : AH} {x : Nat} (q : SQ st) (hx : x < st.length) (p : PS h k r) :
    W (m__law_right [maD st mk, .int x]) h (fun d h' => d = .bl true ∧ ∃ r', PS h' k r') := by
  have l2 := q.l2
  refine w_run ?_
  show W (b__law_right [some (maD st mk), some (.int x), none, none]) h _
  unfold b__law_right
  rw [w_cons]; simp only [W_bind, W_pure, W_bad, W_ite, w_nil, contW_nx, contW_rt, sAsg, sExpr, sRet, sIf, e2, e3, eVar, gN, gIx, eFn, aCons, aNil, eCall, eTup, eLst, eM1, eM0, eMS, W_asRef, eIsi, isi_bl, isi_int, isi_str, isi_tup, asB_bl, truD_bl, cVal, cNot, cAnd, cOr, eAnd, eOr, eNot, eIf, oSome, oNone, eSlice, List.getElem?_cons_succ, List.getElem?_cons_zero, List.set_cons_succ, List.set_cons_zero, List.length_cons, List.length_nil, Nat.reduceAdd, if_true, if_false, Bool.not_true, Bool.not_false, ite_true, ite_false, reduceIte, Bool.false_eq_true, reduceCtorEq, add_ii, sub_ii, gt_ii, ge_ii, lt_ii, le_ii, eq_ii, ix_ma0, len_tup, sts_len]
  rw [w_cons]; simp only [W_bind, W_pure, W_bad, W_ite, w_nil, contW_nx, contW_rt, sAsg, sExpr, sRet, sIf, e2, e3, eVar, gN, gIx, eFn, aCons, aNil, eCall, eTup, eLst, eM1, eM0, eMS, W_asRef, eIsi, isi_bl, isi_int, isi_str, isi_tup, asB_bl, truD_bl, cVal, cNot, cAnd, cOr, eAnd, eOr, eNot, eIf, oSome, oNone, eSlice, List.getElem?_cons_succ, List.getElem?_cons_zero, List.set_cons_succ, List.set_cons_zero, List.length_cons, List.length_nil, Nat.reduceAdd, if_true, if_false, Bool.not_true, Bool.not_false, ite_true, ite_false, reduceIte, Bool.false_eq_true, reduceCtorEq, add_ii, sub_ii, gt_ii, ge_ii, lt_ii, le_ii, eq_ii]
  refine (behind_w q p).mono fun d h1 ⟨ed, r1, p1⟩ => ?_
  subst ed
  rw [w_cons]; simp only [W_bind, W_pure, W_bad, W_ite, w_nil, contW_nx, contW_rt, sAsg, sExpr, sRet, sIf, e2, e3, eVar, gN, gIx, eFn, aCons, aNil, eCall, eTup, eLst, eM1, eM0, eMS, W_asRef, eIsi, isi_bl, isi_int, isi_str, isi_tup, asB_bl, truD_bl, cVal, cNot, cAnd, cOr, eAnd, eOr, eNot, eIf, oSome, oNone, eSlice, List.getElem?_cons_succ, List.getElem?_cons_zero, List.set_cons_succ, List.set_cons_zero, List.length_cons, List.length_nil, Nat.reduceAdd, if_true, if_false, Bool.not_true, Bool.not_false, ite_true, ite_false, reduceIte, Bool.false_eq_true, reduceCtorEq, add_ii, sub_ii, gt_ii, ge_ii, lt_ii, le_ii, eq_ii]
  refine (good_w l2 (who_rise st x) (who_lt st x) p1).mono fun d h2 ⟨ed, p2⟩ => ?_
  subst ed
  simp only [W_bind, W_pure, W_bad, W_ite, w_nil, contW_nx, contW_rt, sAsg, sExpr, sRet, sIf, e2, e3, eVar, gN, gIx, eFn, aCons, aNil, eCall, eTup, eLst, eM1, eM0, eMS, W_asRef, eIsi, isi_bl, isi_int, isi_str, isi_tup, asB_bl, truD_bl, cVal, cNot, cAnd, cOr, eAnd, eOr, eNot, eIf, oSome, oNone, eSlice, List.getElem?_cons_succ, List.getElem?_cons_zero, List.set_cons_succ, List.set_cons_zero, List.length_cons, List.length_nil, Nat.reduceAdd, if_true, if_false, Bool.not_true, Bool.not_false, ite_true, ite_false, reduceIte, Bool.false_eq_true, reduceCtorEq, add_ii, sub_ii, gt_ii, ge_ii, lt_ii, le_ii, eq_ii]
  rw [w_cons]; simp only [W_bind, W_pure, W_bad, W_ite, w_nil, contW_nx, contW_rt, sAsg, sExpr, sRet, sIf, e2, e3, eVar, gN, gIx, eFn, aCons, aNil, eCall, eTup, eLst, eM1, eM0, eMS, W_asRef, eIsi, isi_bl, isi_int, isi_str, isi_tup, asB_bl, truD_bl, cVal, cNot, cAnd, cOr, eAnd, eOr, eNot, eIf, oSome, oNone, eSlice, List.getElem?_cons_succ, List.getElem?_cons_zero, List.set_cons_succ, List.set_cons_zero, List.length_cons, List.length_nil, Nat.reduceAdd, if_true, if_false, Bool.not_true, Bool.not_false, ite_true, ite_false, reduceIte, Bool.false_eq_true, reduceCtorEq, add_ii, sub_ii, gt_ii, ge_ii, lt_ii, le_ii, eq_ii]
  have wl : (whoTo st x).length ≤ st.length := rise_len (who_rise st x) (who_lt st x)
  refine flist_w (by omega) p2 fun h3 p3 => ?_
  have lx := p3.len
  refine W.of (comp_px (src := .con (intsD st.length)) (fun d => match d with | .int t => decide (x ∈ nx st t.toNat) | _ => false) (fun d => d) (range_src rfl (by omega)) (fun _ => trivial) (by simp [Src.items, intsD]; omega) fun d hd => ?_) ?_
  · obtain ⟨t, ht, et⟩ := List.getElem_of_mem hd
    obtain ⟨e5, e6⟩ := intsD_get (show (intsD st.length)[t]? = some d by rw [← et]; exact List.getElem?_eq_getElem ht)
    subst e5
    refine ⟨[some (.int x), some (maD st mk), some (.int t)], fun h => rfl, fun j => ?_, fun _ j => rfl⟩
    simp only [List.getElem?_cons_zero, List.getElem?_cons_succ, bindM, pureM, ix_ma0, ix_row e6, in_st, asB_bl]
    simp
  rw [show (Src.con (intsD st.length)).items = intsD st.length from rfl, ints_filter, lx]
  have p4 := p3.app [.lst (((List.range st.length).filter fun (i : Nat) => decide (x ∈ nx st ((i : Nat) : Int).toNat)).map fun (i : Nat) => D.int i)]
  have e4 := at_new (r := r1 ++ [O.lst (stD (whoTo st x))]) (o := .lst (((List.range st.length).filter fun (i : Nat) => decide (x ∈ nx st ((i : Nat) : Int).toNat)).map fun (i : Nat) => D.int i))
  rw [show (((List.range st.length).filter fun (i : Nat) => decide (x ∈ nx st ((i : Nat) : Int).toNat)).map fun (i : Nat) => D.int i) = stD (whoTo st x) from rfl] at p4 e4 ⊢
  refine eqL_w p4 (at_app at_new) e4 ?_
  simp only [W_bind, W_pure, W_bad, W_ite, w_nil, contW_nx, contW_rt, sAsg, sExpr, sRet, sIf, e2, e3, eVar, gN, gIx, eFn, aCons, aNil, eCall, eTup, eLst, eM1, eM0, eMS, W_asRef, eIsi, isi_bl, isi_int, isi_str, isi_tup, asB_bl, truD_bl, cVal, cNot, cAnd, cOr, eAnd, eOr, eNot, eIf, oSome, oNone, eSlice, List.getElem?_cons_succ, List.getElem?_cons_zero, List.set_cons_succ, List.set_cons_zero, List.length_cons, List.length_nil, Nat.reduceAdd, if_true, if_false, Bool.not_true, Bool.not_false, ite_true, ite_false, reduceIte, Bool.false_eq_true, reduceCtorEq, add_ii, sub_ii, gt_ii, ge_ii, lt_ii, le_ii, eq_ii, bne_self_eq_false, asB_bl]
  generalize (r1 ++ [O.lst (stD (whoTo st x))] ++ [O.lst (stD (whoTo st x))]) = r4 at p4
  rw [w_cons]; simp only [W_bind, W_pure, W_bad, W_ite, w_nil, contW_nx, contW_rt, sAsg, sExpr, sRet, sIf, e2, e3, eVar, gN, gIx, eFn, aCons, aNil, eCall, eTup, eLst, eM1, eM0, eMS, W_asRef, eIsi, isi_bl, isi_int, isi_str, isi_tup, asB_bl, truD_bl, cVal, cNot, cAnd, cOr, eAnd, eOr, eNot, eIf, oSome, oNone, eSlice, List.getElem?_cons_succ, List.getElem?_cons_zero, List.set_cons_succ, List.set_cons_zero, List.length_cons, List.length_nil, Nat.reduceAdd, if_true, if_false, Bool.not_true, Bool.not_false, ite_true, ite_false, reduceIte, Bool.false_eq_true, reduceCtorEq, add_ii, sub_ii, gt_ii, ge_ii, lt_ii, le_ii, eq_ii]
  refine (reached_w q hx p4).mono fun d h5 ⟨S, r5, ed, p5, fn, cl⟩ => ?_
  subst ed
  have sl := nodup_len fn.nd (fn.lt q hx)
  rw [w_cons]; simp only [W_bind, W_pure, W_bad, W_ite, w_nil, contW_nx, contW_rt, sAsg, sExpr, sRet, sIf, e2, e3, eVar, gN, gIx, eFn, aCons, aNil, eCall, eTup, eLst, eM1, eM0, eMS, W_asRef, eIsi, isi_bl, isi_int, isi_str, isi_tup, asB_bl, truD_bl, cVal, cNot, cAnd, cOr, eAnd, eOr, eNot, eIf, oSome, oNone, eSlice, List.getElem?_cons_succ, List.getElem?_cons_zero, List.set_cons_succ, List.set_cons_zero, List.length_cons, List.length_nil, Nat.reduceAdd, if_true, if_false, Bool.not_true, Bool.not_false, ite_true, ite_false, reduceIte, Bool.false_eq_true, reduceCtorEq, add_ii, sub_ii, gt_ii, ge_ii, lt_ii, le_ii, eq_ii]
  refine (good_w l2 (sortN_rise fn.nd) (fun a ha => fn.lt q hx a (sortN_mem.mp ha)) p5).mono fun d h6 ⟨ed, p6⟩ => ?_
  subst ed
  simp only [W_bind, W_pure, W_bad, W_ite, w_nil, contW_nx, contW_rt, sAsg, sExpr, sRet, sIf, e2, e3, eVar, gN, gIx, eFn, aCons, aNil, eCall, eTup, eLst, eM1, eM0, eMS, W_asRef, eIsi, isi_bl, isi_int, isi_str, isi_tup, asB_bl, truD_bl, cVal, cNot, cAnd, cOr, eAnd, eOr, eNot, eIf, oSome, oNone, eSlice, List.getElem?_cons_succ, List.getElem?_cons_zero, List.set_cons_succ, List.set_cons_zero, List.length_cons, List.length_nil, Nat.reduceAdd, if_true, if_false, Bool.not_true, Bool.not_false, ite_true, ite_false, reduceIte, Bool.false_eq_true, reduceCtorEq, add_ii, sub_ii, gt_ii, ge_ii, lt_ii, le_ii, eq_ii]
  refine flist_w (by rw [sortN_len]; omega) p6 fun h7 p7 => ?_
  refine (walk_w q hx p7).mono fun d h8 ⟨T, j, i, ed, p8, e8, gn, cg⟩ => ?_
  subst ed
  rw [sortN_eq (fnd_perm gn fn cg cl)] at e8
  refine eqL_w p8 (at_app at_new) e8 ?_
  exact ⟨rfl, _, p8⟩
end FT
set_option Elab.async false
set_option linter.all false
set_option maxRecDepth 100000
set_option maxHeartbeats 2000000
namespace FT
open PySem PySem.Spec PyProof.Rows L2

theorem w_set {h : AH} {k : Int} {r : AH} {n i : Nat} {xs : List D} {v : D} {Q : Unit → AH → Prop} (p : PS h k r) (e : r[n]? = some (.lst xs)) (hi : i < xs.length) (z : ∀ h', PS h' k (r.set n (.lst (xs.set i v))) → Q () h') : W (fSet (.ref (n + 3)) (.int i) v) h Q :=
  ⟨(), h.set (n + 3) (.lst (xs.set i v)), by
    unfold fSet
    dsimp only
    rw [p.get, e]
    dsimp only
    have : ixN xs.length (i : Int) = some i := by
      unfold ixN
      simp [hi]
    rw [this], z _ (p.set _ _)⟩
theorem rep_sts : ∀ n : Nat, (List.replicate n [D.tup []]).flatten = stsD (List.replicate n [])
  | 0 => rfl
  | n + 1 => by
    rw [List.replicate_succ, List.flatten_cons, rep_sts n, List.replicate_succ]
    rfl
theorem sts_set (st : List (List Nat)) (i : Nat) (l : List Nat) : (stsD st).set i (.tup (stD l)) = stsD (st.set i l) := by
  unfold stsD
  rw [List.map_set]
theorem sq_set {st : List (List Nat)} {i x n : Nat} (h : ∀ l ∈ st, ∀ x ∈ l, x < n) (hx : x < n) : ∀ l ∈ st.set i [x], ∀ x ∈ l, x < n := by
  intro l hl y hy
  rcases List.mem_or_eq_of_mem_set hl with q | q
  · exact h l q y hy
  · subst q; simp at hy; omega
theorem chain_w {st : List (List Nat)} {mk : List (List Str)} {h : AH} {k : Int} {r : AH} (q : SQ st) (p : PS h k r) (hk : k < 900000) :
    W (m__law_chain [.ref 2, maD st mk]) h (fun d h' => ∃ st' r', d = maD st' mk ∧ PS h' (k + 3) r' ∧ SQ st') := by
  have l1 := q.l1
  have l2 := q.l2
  refine w_run ?_
  show W (b__law_chain [some (.ref 2), some (maD st mk), none, none, none, none]) h _
  unfold b__law_chain
  rw [w_cons]; simp only [W_bind, W_pure, W_bad, W_ite, w_nil, contW_nx, contW_rt, sAsg, sExpr, sRet, sIf, e2, e3, eVar, gN, gIx, eFn, aCons, aNil, eCall, eTup, eLst, eM1, eM0, eMS, W_asRef, eIsi, isi_bl, isi_int, isi_str, isi_tup, asB_bl, truD_bl, cVal, cNot, cAnd, cOr, eAnd, eOr, eNot, eIf, oSome, oNone, eSlice, List.getElem?_cons_succ, List.getElem?_cons_zero, List.set_cons_succ, List.set_cons_zero, List.length_cons, List.length_nil, Nat.reduceAdd, if_true, if_false, Bool.not_true, Bool.not_false, ite_true, ite_false, reduceIte, Bool.false_eq_true, reduceCtorEq, add_ii, sub_ii, gt_ii, ge_ii, lt_ii, le_ii, eq_ii, ix_ma0, len_tup, sts_len]
  rw [w_cons]; simp only [W_bind, W_pure, W_bad, W_ite, w_nil, contW_nx, contW_rt, sAsg, sExpr, sRet, sIf, e2, e3, eVar, gN, gIx, eFn, aCons, aNil, eCall, eTup, eLst, eM1, eM0, eMS, W_asRef, eIsi, isi_bl, isi_int, isi_str, isi_tup, asB_bl, truD_bl, cVal, cNot, cAnd, cOr, eAnd, eOr, eNot, eIf, oSome, oNone, eSlice, List.getElem?_cons_succ, List.getElem?_cons_zero, List.set_cons_succ, List.set_cons_zero, List.length_cons, List.length_nil, Nat.reduceAdd, if_true, if_false, Bool.not_true, Bool.not_false, ite_true, ite_false, reduceIte, Bool.false_eq_true, reduceCtorEq, add_ii, sub_ii, gt_ii, ge_ii, lt_ii, le_ii, eq_ii]
  rw [if_pos (by decide)]
  refine w_newL p (by simp) fun h1 p1 => ?_
  have fm : ∀ i : Nat, ∀ j : Int, fMul (.ref i) (.int j) = (do
    let x ← getL i
    if decide (-(2 ^ 63) ≤ j) && decide (j < 2 ^ 63) then newL (List.replicate j.toNat x).flatten else bad) := fun _ _ => rfl
  rw [fm, W_bind]
  refine w_getL p1 at_new ?_
  rw [if_pos (by rw [decide_eq_true (show -(2 ^ 63) ≤ (st.length : Int) by omega), decide_eq_true (show (st.length : Int) < 2 ^ 63 by omega)]; rfl), Int.toNat_natCast, rep_sts]
  refine w_newL p1 (by rw [sts_len]; simp; omega) fun h2 p2 => ?_
  have e2' := at_new (r := r ++ [O.lst [D.tup []]]) (o := .lst (stsD (List.replicate st.length [])))
  generalize hs : (r ++ [O.lst [D.tup []]]).length = s at p2 e2' ⊢
  generalize r ++ [O.lst [D.tup []]] ++ [O.lst (stsD (List.replicate st.length []))] = r2 at p2 e2'
  rw [w_cons]; simp only [W_bind, W_pure, W_bad, W_ite, w_nil, contW_nx, contW_rt, sAsg, sExpr, sRet, sIf, e2, e3, eVar, gN, gIx, eFn, aCons, aNil, eCall, eTup, eLst, eM1, eM0, eMS, W_asRef, eIsi, isi_bl, isi_int, isi_str, isi_tup, asB_bl, truD_bl, cVal, cNot, cAnd, cOr, eAnd, eOr, eNot, eIf, oSome, oNone, eSlice, List.getElem?_cons_succ, List.getElem?_cons_zero, List.set_cons_succ, List.set_cons_zero, List.length_cons, List.length_nil, Nat.reduceAdd, if_true, if_false, Bool.not_true, Bool.not_false, ite_true, ite_false, reduceIte, Bool.false_eq_true, reduceCtorEq, add_ii, sub_ii, gt_ii, ge_ii, lt_ii, le_ii, eq_ii]
  refine w_draw p2 (by omega) (by decide) (by decide) fun t h3 t0 t1 p3 => ?_
  rw [w_cons]
  refine for_range (fun c γ h => ∃ st' w r', γ = [some (.ref 2), some (maD st mk), some (.int st.length), some (.ref (s + 3)), some (.int t), w] ∧ PS h (k + 1) r' ∧ r'[s]? = some (.lst (stsD st')) ∧ st'.length = st.length ∧ ∀ l ∈ st', ∀ x ∈ l, x < st.length) (fun _ _ => False) ?_
  simp only [W_bind, W_pure, W_bad, W_ite, w_nil, contW_nx, contW_rt, sAsg, sExpr, sRet, sIf, e2, e3, eVar, gN, gIx, eFn, aCons, aNil, eCall, eTup, eLst, eM1, eM0, eMS, W_asRef, eIsi, isi_bl, isi_int, isi_str, isi_tup, asB_bl, truD_bl, cVal, cNot, cAnd, cOr, eAnd, eOr, eNot, eIf, oSome, oNone, eSlice, List.getElem?_cons_succ, List.getElem?_cons_zero, List.set_cons_succ, List.set_cons_zero, List.length_cons, List.length_nil, Nat.reduceAdd, if_true, if_false, Bool.not_true, Bool.not_false, ite_true, ite_false, reduceIte, Bool.false_eq_true, reduceCtorEq, add_ii, sub_ii, gt_ii, ge_ii, lt_ii, le_ii, eq_ii]
  refine ⟨st.length - 1, congrArg D.int (by omega), by omega, ⟨List.replicate st.length [], _, r2, rfl, p3, e2', by simp, fun l hl x hx => ?_⟩, ?_, ?_, fun _ _ q => q.elim⟩
  · have := (List.mem_replicate.mp hl).2
    subst this
    cases hx
  · rintro c γ h4 hc ⟨st', w, r', rfl, p4, e4, l4, s4⟩
    rw [w_cons]; simp only [W_bind, W_pure, W_bad, W_ite, w_nil, contW_nx, contW_rt, sAsg, sExpr, sRet, sIf, e2, e3, eVar, gN, gIx, eFn, aCons, aNil, eCall, eTup, eLst, eM1, eM0, eMS, W_asRef, eIsi, isi_bl, isi_int, isi_str, isi_tup, asB_bl, truD_bl, cVal, cNot, cAnd, cOr, eAnd, eOr, eNot, eIf, oSome, oNone, eSlice, List.getElem?_cons_succ, List.getElem?_cons_zero, List.set_cons_succ, List.set_cons_zero, List.length_cons, List.length_nil, Nat.reduceAdd, if_true, if_false, Bool.not_true, Bool.not_false, ite_true, ite_false, reduceIte, Bool.false_eq_true, reduceCtorEq, add_ii, sub_ii, gt_ii, ge_ii, lt_ii, le_ii, eq_ii]
    by_cases t0 : t = 0
    · rw [decide_eq_true t0]
      simp only [W_bind, W_pure, W_bad, W_ite, w_nil, contW_nx, contW_rt, sAsg, sExpr, sRet, sIf, e2, e3, eVar, gN, gIx, eFn, aCons, aNil, eCall, eTup, eLst, eM1, eM0, eMS, W_asRef, eIsi, isi_bl, isi_int, isi_str, isi_tup, asB_bl, truD_bl, cVal, cNot, cAnd, cOr, eAnd, eOr, eNot, eIf, oSome, oNone, eSlice, List.getElem?_cons_succ, List.getElem?_cons_zero, List.set_cons_succ, List.set_cons_zero, List.length_cons, List.length_nil, Nat.reduceAdd, if_true, if_false, Bool.not_true, Bool.not_false, ite_true, ite_false, reduceIte, Bool.false_eq_true, reduceCtorEq, add_ii, sub_ii, gt_ii, ge_ii, lt_ii, le_ii, eq_ii, Bool.true_bne]
      rw [w_cons]; simp only [W_bind, W_pure, W_bad, W_ite, w_nil, contW_nx, contW_rt, sAsg, sExpr, sRet, sIf, e2, e3, eVar, gN, gIx, eFn, aCons, aNil, eCall, eTup, eLst, eM1, eM0, eMS, W_asRef, eIsi, isi_bl, isi_int, isi_str, isi_tup, asB_bl, truD_bl, cVal, cNot, cAnd, cOr, eAnd, eOr, eNot, eIf, oSome, oNone, eSlice, List.getElem?_cons_succ, List.getElem?_cons_zero, List.set_cons_succ, List.set_cons_zero, List.length_cons, List.length_nil, Nat.reduceAdd, if_true, if_false, Bool.not_true, Bool.not_false, ite_true, ite_false, reduceIte, Bool.false_eq_true, reduceCtorEq, add_ii, sub_ii, gt_ii, ge_ii, lt_ii, le_ii, eq_ii]
      rw [if_pos (by decide)]
      refine w_set p4 e4 (by rw [sts_len]; omega) fun h5 p5 => ?_
      rw [show (c : Int) + 1 = ((c + 1 : Nat) : Int) by omega, show [D.int ((c + 1 : Nat) : Int)] = stD [c + 1] from rfl, sts_set] at p5
      exact ⟨_, _, _, rfl, p5, set_at e4, by simp [l4], sq_set s4 (by omega)⟩
    · rw [decide_eq_false t0]
      simp only [W_bind, W_pure, W_bad, W_ite, w_nil, contW_nx, contW_rt, sAsg, sExpr, sRet, sIf, e2, e3, eVar, gN, gIx, eFn, aCons, aNil, eCall, eTup, eLst, eM1, eM0, eMS, W_asRef, eIsi, isi_bl, isi_int, isi_str, isi_tup, asB_bl, truD_bl, cVal, cNot, cAnd, cOr, eAnd, eOr, eNot, eIf, oSome, oNone, eSlice, List.getElem?_cons_succ, List.getElem?_cons_zero, List.set_cons_succ, List.set_cons_zero, List.length_cons, List.length_nil, Nat.reduceAdd, if_true, if_false, Bool.not_true, Bool.not_false, ite_true, ite_false, reduceIte, Bool.false_eq_true, reduceCtorEq, add_ii, sub_ii, gt_ii, ge_ii, lt_ii, le_ii, eq_ii, Bool.false_bne]
      rw [w_cons]; simp only [W_bind, W_pure, W_bad, W_ite, w_nil, contW_nx, contW_rt, sAsg, sExpr, sRet, sIf, e2, e3, eVar, gN, gIx, eFn, aCons, aNil, eCall, eTup, eLst, eM1, eM0, eMS, W_asRef, eIsi, isi_bl, isi_int, isi_str, isi_tup, asB_bl, truD_bl, cVal, cNot, cAnd, cOr, eAnd, eOr, eNot, eIf, oSome, oNone, eSlice, List.getElem?_cons_succ, List.getElem?_cons_zero, List.set_cons_succ, List.set_cons_zero, List.length_cons, List.length_nil, Nat.reduceAdd, if_true, if_false, Bool.not_true, Bool.not_false, ite_true, ite_false, reduceIte, Bool.false_eq_true, reduceCtorEq, add_ii, sub_ii, gt_ii, ge_ii, lt_ii, le_ii, eq_ii]
      rw [if_pos (by decide)]
      rw [show (c : Int) + 1 = ((c + 1 : Nat) : Int) by omega]
      refine w_set p4 e4 (by rw [sts_len]; omega) fun h5 p5 => ?_
      rw [show [D.int ((c : Nat) : Int)] = stD [c] from rfl, sts_set] at p5
      exact ⟨_, _, _, rfl, p5, set_at e4, by simp [l4], sq_set s4 (by omega)⟩
  · rintro γ h4 ⟨st', w, r', rfl, p4, e4, l4, s4⟩
    rw [w_cons]; simp only [W_bind, W_pure, W_bad, W_ite, w_nil, contW_nx, contW_rt, sAsg, sExpr, sRet, sIf, e2, e3, eVar, gN, gIx, eFn, aCons, aNil, eCall, eTup, eLst, eM1, eM0, eMS, W_asRef, eIsi, isi_bl, isi_int, isi_str, isi_tup, asB_bl, truD_bl, cVal, cNot, cAnd, cOr, eAnd, eOr, eNot, eIf, oSome, oNone, eSlice, List.getElem?_cons_succ, List.getElem?_cons_zero, List.set_cons_succ, List.set_cons_zero, List.length_cons, List.length_nil, Nat.reduceAdd, if_true, if_false, Bool.not_true, Bool.not_false, ite_true, ite_false, reduceIte, Bool.false_eq_true, reduceCtorEq, add_ii, sub_ii, gt_ii, ge_ii, lt_ii, le_ii, eq_ii]
    refine w_draw p4 (by omega) (by omega) (by omega) fun u h5 u0 u1 p5 => ?_
    rw [if_pos (by decide)]
    refine w_draw p5 (by omega) (by omega) (by omega) fun v h6 v0 v1 p6 => ?_
    obtain ⟨u, rfl⟩ := Int.eq_ofNat_of_zero_le u0
    obtain ⟨v, rfl⟩ := Int.eq_ofNat_of_zero_le v0
    refine w_set p6 e4 (by rw [sts_len]; omega) fun h7 p7 => ?_
    rw [show [D.int ((u : Nat) : Int)] = stD [u] from rfl, sts_set] at p7
    have e7 := set_at (o' := .lst (stsD (st'.set v [u]))) e4
    rw [w_cons]; simp only [W_bind, W_pure, W_bad, W_ite, w_nil, contW_nx, contW_rt, sAsg, sExpr, sRet, sIf, e2, e3, eVar, gN, gIx, eFn, aCons, aNil, eCall, eTup, eLst, eM1, eM0, eMS, W_asRef, eIsi, isi_bl, isi_int, isi_str, isi_tup, asB_bl, truD_bl, cVal, cNot, cAnd, cOr, eAnd, eOr, eNot, eIf, oSome, oNone, eSlice, List.getElem?_cons_succ, List.getElem?_cons_zero, List.set_cons_succ, List.set_cons_zero, List.length_cons, List.length_nil, Nat.reduceAdd, if_true, if_false, Bool.not_true, Bool.not_false, ite_true, ite_false, reduceIte, Bool.false_eq_true, reduceCtorEq, add_ii, sub_ii, gt_ii, ge_ii, lt_ii, le_ii, eq_ii, ix_ma1]
    have ft : ∀ i : Nat, fTuple [.ref i] = (do let x ← getL i; pure (.tup x)) := fun _ => rfl
    rw [ft, W_bind]
    refine w_getL p7 e7 ?_
    rw [W_pure, if_pos (by decide)]
    refine ⟨st'.set v [u], _, rfl, p7.up (by omega), ⟨by simp; omega, by simp; omega, ?_⟩⟩
    rw [List.length_set, l4]
    exact sq_set s4 (by omega)
theorem math0 {ns : List Int} (hn : ns.length ≤ 63) : W (m_law [.fl (ns.map .int)]) [] (fun d _ => d = .bl true) := by
  refine w_run ?_
  show W (b_law [some (.fl (ns.map .int)), none, none, none, none, none]) [] _
  unfold b_law
  rw [w_cons]; simp only [W_bind, W_pure, W_bad, W_ite, w_nil, contW_nx, contW_rt, sAsg, sExpr, sRet, sIf, e2, e3, eVar, gN, gIx, eFn, aCons, aNil, eCall, eTup, eLst, eM1, eM0, eMS, W_asRef, eIsi, isi_bl, isi_int, isi_str, isi_tup, asB_bl, truD_bl, cVal, cNot, cAnd, cOr, eAnd, eOr, eNot, eIf, oSome, oNone, eSlice, List.getElem?_cons_succ, List.getElem?_cons_zero, List.set_cons_succ, List.set_cons_zero, List.length_cons, List.length_nil, Nat.reduceAdd, if_true, if_false, Bool.not_true, Bool.not_false, ite_true, ite_false, reduceIte, Bool.false_eq_true, reduceCtorEq, add_ii, sub_ii, gt_ii, ge_ii, lt_ii, le_ii, eq_ii]
  refine (law_pool hn).mono fun d h1 ⟨ed, p1⟩ => ?_
  subst ed
  rw [w_cons]; simp only [W_bind, W_pure, W_bad, W_ite, w_nil, contW_nx, contW_rt, sAsg, sExpr, sRet, sIf, e2, e3, eVar, gN, gIx, eFn, aCons, aNil, eCall, eTup, eLst, eM1, eM0, eMS, W_asRef, eIsi, isi_bl, isi_int, isi_str, isi_tup, asB_bl, truD_bl, cVal, cNot, cAnd, cOr, eAnd, eOr, eNot, eIf, oSome, oNone, eSlice, List.getElem?_cons_succ, List.getElem?_cons_zero, List.set_cons_succ, List.set_cons_zero, List.length_cons, List.length_nil, Nat.reduceAdd, if_true, if_false, Bool.not_true, Bool.not_false, ite_true, ite_false, reduceIte, Bool.false_eq_true, reduceCtorEq, add_ii, sub_ii, gt_ii, ge_ii, lt_ii, le_ii, eq_ii]
  refine w_draw p1 (by omega) (by decide) (by decide) fun t h2 t0 t1 p2 => ?_
  rw [eq_ii, W_pure]
  rw [w_cons]; simp only [W_bind, W_pure, W_bad, W_ite, w_nil, contW_nx, contW_rt, sAsg, sExpr, sRet, sIf, e2, e3, eVar, gN, gIx, eFn, aCons, aNil, eCall, eTup, eLst, eM1, eM0, eMS, W_asRef, eIsi, isi_bl, isi_int, isi_str, isi_tup, asB_bl, truD_bl, cVal, cNot, cAnd, cOr, eAnd, eOr, eNot, eIf, oSome, oNone, eSlice, List.getElem?_cons_succ, List.getElem?_cons_zero, List.set_cons_succ, List.set_cons_zero, List.length_cons, List.length_nil, Nat.reduceAdd, if_true, if_false, Bool.not_true, Bool.not_false, ite_true, ite_false, reduceIte, Bool.false_eq_true, reduceCtorEq, add_ii, sub_ii, gt_ii, ge_ii, lt_ii, le_ii, eq_ii]
  refine w_draw p2 (by omega) (by decide) (by decide) fun m h3 m0 m1 p3 => ?_
  obtain ⟨m, rfl⟩ := Int.eq_ofNat_of_zero_le m0
  refine (law_names p3 (by omega) (by omega)).mono fun d h4 ⟨i, xs, r4, ed, p4, e4, l4, n4⟩ => ?_
  subst ed
  refine (law_machine p4 (by omega) e4 (by omega) n4).mono fun d h5 ⟨st, mk, r5, ed, p5, e5, ma⟩ => ?_
  subst ed
  generalize (decide (t = 0) != false) = row
  refine w_seq (fun γ h => ∃ st r', γ = [some (.fl (ns.map .int)), some (.ref 2), some (.bl row), some (maD st mk), none, none] ∧ PS h 1000 r' ∧ SQ st) ?_ ?_
  · simp only [W_bind, W_pure, W_bad, W_ite, w_nil, contW_nx, contW_rt, sAsg, sExpr, sRet, sIf, e2, e3, eVar, gN, gIx, eFn, aCons, aNil, eCall, eTup, eLst, eM1, eM0, eMS, W_asRef, eIsi, isi_bl, isi_int, isi_str, isi_tup, asB_bl, truD_bl, cVal, cNot, cAnd, cOr, eAnd, eOr, eNot, eIf, oSome, oNone, eSlice, List.getElem?_cons_succ, List.getElem?_cons_zero, List.set_cons_succ, List.set_cons_zero, List.length_cons, List.length_nil, Nat.reduceAdd, if_true, if_false, Bool.not_true, Bool.not_false, ite_true, ite_false, reduceIte, Bool.false_eq_true, reduceCtorEq, add_ii, sub_ii, gt_ii, ge_ii, lt_ii, le_ii, eq_ii]
    cases row with
    | true =>
      simp only [W_bind, W_pure, W_bad, W_ite, w_nil, contW_nx, contW_rt, sAsg, sExpr, sRet, sIf, e2, e3, eVar, gN, gIx, eFn, aCons, aNil, eCall, eTup, eLst, eM1, eM0, eMS, W_asRef, eIsi, isi_bl, isi_int, isi_str, isi_tup, asB_bl, truD_bl, cVal, cNot, cAnd, cOr, eAnd, eOr, eNot, eIf, oSome, oNone, eSlice, List.getElem?_cons_succ, List.getElem?_cons_zero, List.set_cons_succ, List.set_cons_zero, List.length_cons, List.length_nil, Nat.reduceAdd, if_true, if_false, Bool.not_true, Bool.not_false, ite_true, ite_false, reduceIte, Bool.false_eq_true, reduceCtorEq, add_ii, sub_ii, gt_ii, ge_ii, lt_ii, le_ii, eq_ii]
      rw [w_cons]; simp only [W_bind, W_pure, W_bad, W_ite, w_nil, contW_nx, contW_rt, sAsg, sExpr, sRet, sIf, e2, e3, eVar, gN, gIx, eFn, aCons, aNil, eCall, eTup, eLst, eM1, eM0, eMS, W_asRef, eIsi, isi_bl, isi_int, isi_str, isi_tup, asB_bl, truD_bl, cVal, cNot, cAnd, cOr, eAnd, eOr, eNot, eIf, oSome, oNone, eSlice, List.getElem?_cons_succ, List.getElem?_cons_zero, List.set_cons_succ, List.set_cons_zero, List.length_cons, List.length_nil, Nat.reduceAdd, if_true, if_false, Bool.not_true, Bool.not_false, ite_true, ite_false, reduceIte, Bool.false_eq_true, reduceCtorEq, add_ii, sub_ii, gt_ii, ge_ii, lt_ii, le_ii, eq_ii]
      refine (chain_w ⟨ma.l1, ma.l2, ma.s2⟩ p5 (by omega)).mono fun d h6 ⟨st', r', ed, p6, sq⟩ => ?_
      subst ed
      exact ⟨st', r', rfl, p6.up (by omega), sq⟩
    | false =>
      simp only [W_bind, W_pure, W_bad, W_ite, w_nil, contW_nx, contW_rt, sAsg, sExpr, sRet, sIf, e2, e3, eVar, gN, gIx, eFn, aCons, aNil, eCall, eTup, eLst, eM1, eM0, eMS, W_asRef, eIsi, isi_bl, isi_int, isi_str, isi_tup, asB_bl, truD_bl, cVal, cNot, cAnd, cOr, eAnd, eOr, eNot, eIf, oSome, oNone, eSlice, List.getElem?_cons_succ, List.getElem?_cons_zero, List.set_cons_succ, List.set_cons_zero, List.length_cons, List.length_nil, Nat.reduceAdd, if_true, if_false, Bool.not_true, Bool.not_false, ite_true, ite_false, reduceIte, Bool.false_eq_true, reduceCtorEq, add_ii, sub_ii, gt_ii, ge_ii, lt_ii, le_ii, eq_ii]
      exact ⟨st, _, rfl, p5.up (by omega), ⟨ma.l1, ma.l2, ma.s2⟩⟩
  rintro γ h6 ⟨st, r', rfl, p6, sq⟩
  have l1 := sq.l1
  have l2 := sq.l2
  rw [w_cons]; simp only [W_bind, W_pure, W_bad, W_ite, w_nil, contW_nx, contW_rt, sAsg, sExpr, sRet, sIf, e2, e3, eVar, gN, gIx, eFn, aCons, aNil, eCall, eTup, eLst, eM1, eM0, eMS, W_asRef, eIsi, isi_bl, isi_int, isi_str, isi_tup, asB_bl, truD_bl, cVal, cNot, cAnd, cOr, eAnd, eOr, eNot, eIf, oSome, oNone, eSlice, List.getElem?_cons_succ, List.getElem?_cons_zero, List.set_cons_succ, List.set_cons_zero, List.length_cons, List.length_nil, Nat.reduceAdd, if_true, if_false, Bool.not_true, Bool.not_false, ite_true, ite_false, reduceIte, Bool.false_eq_true, reduceCtorEq, add_ii, sub_ii, gt_ii, ge_ii, lt_ii, le_ii, eq_ii, ix_ma0, len_tup, sts_len]
  refine w_draw p6 (by omega) (by omega) (by omega) fun u h7 u0 u1 p7 => ?_
  rw [w_cons]; simp only [W_bind, W_pure, W_bad, W_ite, w_nil, contW_nx, contW_rt, sAsg, sExpr, sRet, sIf, e2, e3, eVar, gN, gIx, eFn, aCons, aNil, eCall, eTup, eLst, eM1, eM0, eMS, W_asRef, eIsi, isi_bl, isi_int, isi_str, isi_tup, asB_bl, truD_bl, cVal, cNot, cAnd, cOr, eAnd, eOr, eNot, eIf, oSome, oNone, eSlice, List.getElem?_cons_succ, List.getElem?_cons_zero, List.set_cons_succ, List.set_cons_zero, List.length_cons, List.length_nil, Nat.reduceAdd, if_true, if_false, Bool.not_true, Bool.not_false, ite_true, ite_false, reduceIte, Bool.false_eq_true, reduceCtorEq, add_ii, sub_ii, gt_ii, ge_ii, lt_ii, le_ii, eq_ii, ix_ma0, len_tup, sts_len]
  refine w_draw p7 (by omega) (by omega) (by omega) fun v h8 v0 v1 p8 => ?_
  obtain ⟨u, rfl⟩ := Int.eq_ofNat_of_zero_le u0
  obtain ⟨v, rfl⟩ := Int.eq_ofNat_of_zero_le v0
  rw [w_cons]; simp only [W_bind, W_pure, W_bad, W_ite, w_nil, contW_nx, contW_rt, sAsg, sExpr, sRet, sIf, e2, e3, eVar, gN, gIx, eFn, aCons, aNil, eCall, eTup, eLst, eM1, eM0, eMS, W_asRef, eIsi, isi_bl, isi_int, isi_str, isi_tup, asB_bl, truD_bl, cVal, cNot, cAnd, cOr, eAnd, eOr, eNot, eIf, oSome, oNone, eSlice, List.getElem?_cons_succ, List.getElem?_cons_zero, List.set_cons_succ, List.set_cons_zero, List.length_cons, List.length_nil, Nat.reduceAdd, if_true, if_false, Bool.not_true, Bool.not_false, ite_true, ite_false, reduceIte, Bool.false_eq_true, reduceCtorEq, add_ii, sub_ii, gt_ii, ge_ii, lt_ii, le_ii, eq_ii]
  refine (right_w sq (by omega) p8).mono fun d h9 ⟨ed, r9, p9⟩ => ?_
  subst ed
  simp only [W_bind, W_pure, W_bad, W_ite, w_nil, contW_nx, contW_rt, sAsg, sExpr, sRet, sIf, e2, e3, eVar, gN, gIx, eFn, aCons, aNil, eCall, eTup, eLst, eM1, eM0, eMS, W_asRef, eIsi, isi_bl, isi_int, isi_str, isi_tup, asB_bl, truD_bl, cVal, cNot, cAnd, cOr, eAnd, eOr, eNot, eIf, oSome, oNone, eSlice, List.getElem?_cons_succ, List.getElem?_cons_zero, List.set_cons_succ, List.set_cons_zero, List.length_cons, List.length_nil, Nat.reduceAdd, if_true, if_false, Bool.not_true, Bool.not_false, ite_true, ite_false, reduceIte, Bool.false_eq_true, reduceCtorEq, add_ii, sub_ii, gt_ii, ge_ii, lt_ii, le_ii, eq_ii]
  refine (right_w sq (by omega) p9).mono fun d h10 ⟨ed, r10, p10⟩ => ?_
  subst ed
  simp only [W_bind, W_pure, W_bad, W_ite, w_nil, contW_nx, contW_rt, sAsg, sExpr, sRet, sIf, e2, e3, eVar, gN, gIx, eFn, aCons, aNil, eCall, eTup, eLst, eM1, eM0, eMS, W_asRef, eIsi, isi_bl, isi_int, isi_str, isi_tup, asB_bl, truD_bl, cVal, cNot, cAnd, cOr, eAnd, eOr, eNot, eIf, oSome, oNone, eSlice, List.getElem?_cons_succ, List.getElem?_cons_zero, List.set_cons_succ, List.set_cons_zero, List.length_cons, List.length_nil, Nat.reduceAdd, if_true, if_false, Bool.not_true, Bool.not_false, ite_true, ite_false, reduceIte, Bool.false_eq_true, reduceCtorEq, add_ii, sub_ii, gt_ii, ge_ii, lt_ii, le_ii, eq_ii]
  refine (right_w sq (by omega) p10).mono fun d h11 ⟨ed, r11, p11⟩ => ?_
  exact ed
theorem math : ∀ ns : List Int, ns.length ≤ 63 → ∃ h', m_law [.fl (ns.map .int)] [] = .ok (.bl true) h' := fun ns hn => by
  obtain ⟨d, h', e, ed⟩ := math0 hn
  exact ⟨h', by rw [e, ed]⟩
end FT
set_option Elab.async false
set_option linter.all false
set_option maxRecDepth 100000
set_option maxHeartbeats 4000000

namespace FT
open PySem PySem.Spec PyProof.Rows L2
theorem okL_law {P : Program} {w : World} {K : PySem.W.Frag} {mg : Str → Option Value} {base : Heap} {f : Addr} {fd : FuncData} (F : Fun K "law" "law" (top 15) f fd) (z_len : mg "len" = none) (F__law_chain : Fn P w K mg base 2 "_law_chain" 2 m__law_chain) (F__law_draw : Fn P w K mg base 1 "_law_draw" 2 m__law_draw) (F__law_great_machine : Fn P w K mg base 2 "_law_great_machine" 2 m__law_great_machine) (F__law_names : Fn P w K mg base 3 "_law_names" 2 m__law_names) (F__law_pool : Fn P w K mg base 1 "_law_pool" 1 m__law_pool) (F__law_right : Fn P w K mg base 3 "_law_right" 2 m__law_right) : FnOk P w K mg base CX0 4 f fd ["_law_script"] (spB K m_law 1) :=
  fn_ok F sc_law rfl fun cdv A outer s H E hr => (show SB (cxOf CX0 P w K mg base ["_law_script", "_law_pool_here", "_law_row", "_law_machine", "_law_one", "_law_other"] "law" (defScope (top 15)) f cdv A outer s H E).nox EX0 (defBody (top 15)) b_law from
    have nd : (["_law_script", "_law_pool_here", "_law_row", "_law_machine", "_law_one", "_law_other"] : List Str).Nodup := sc_law.nd
    (sb_cons (s_set 1 nd (se_call F__law_pool (hr.mono (by decide)) rfl (sa_cons (se_var 0) sa_nil))) (sb_cons (s_set 2 nd (se_c co_eq (se_call F__law_draw (hr.mono (by decide)) rfl (sa_cons (se_var 1) (sa_cons se_int sa_nil))) se_int)) (sb_cons (s_set 3 nd (se_call F__law_great_machine (hr.mono (by decide)) rfl (sa_cons (se_var 1) (sa_cons (se_call F__law_names (hr.mono (by decide)) rfl (sa_cons (se_var 1) (sa_cons (se_call F__law_draw (hr.mono (by decide)) rfl (sa_cons (se_var 1) (sa_cons se_int sa_nil))) sa_nil))) sa_nil)))) (sb_cons (s_if (sc_val (se_var 2)) (sb_cons (s_set 3 nd (se_call F__law_chain (hr.mono (by decide)) rfl (sa_cons (se_var 1) (sa_cons (se_var 3) sa_nil)))) sb_nil) sb_nil) (sb_cons (s_set 4 nd (se_call F__law_draw (hr.mono (by decide)) rfl (sa_cons (se_var 1) (sa_cons (se_len rfl z_len (sa_cons (se_ix (se_var 3) se_int) sa_nil)) sa_nil)))) (sb_cons (s_set 5 nd (se_call F__law_draw (hr.mono (by decide)) rfl (sa_cons (se_var 1) (sa_cons (se_len rfl z_len (sa_cons (se_ix (se_var 3) se_int) sa_nil)) sa_nil)))) (sb_cons (s_ret (se_band (se_call F__law_right (hr.mono (by decide)) rfl (sa_cons (se_var 3) (sa_cons (se_var 4) sa_nil))) (se_band (se_call F__law_right (hr.mono (by decide)) rfl (sa_cons (se_var 3) (sa_cons (se_var 5) sa_nil))) (se_one (se_call F__law_right (hr.mono (by decide)) rfl (sa_cons (se_var 3) (sa_cons (se_var 4) sa_nil))))))) sb_nil))))))))
end FT
open PySem PySem.W PyProof.Rows
set_option maxRecDepth 100000 in
set_option maxHeartbeats 0 in
theorem PySem.Challenge.cw_fairtrees_k04_whole_reached_and_behind_holds : PySem.Challenge.rw_fairtrees_k04_whole_reached_and_behind.Holds := by
  w_on; o_law; k_head; (case hw => w_witness2)
  k_fill
  refine FT.law_walk (l := PySem.Challenge.rw_fairtrees_k04_whole_reached_and_behind) (lev := 4) (p := "_law_script") (m := FT.m_law) rfl rfl ⟨rfl, by decide, by decide⟩ (fun w h Y => PySem.W.kIn_of Y) ?F FT.math
  case F =>
    intro w mg fa h KX G hmg
    have T_behind : FT.DefAt (L2.KOf KX) "behind" (FT.top 1) := by
      dsimp only [L2.KOf]
      refine' FT.defAt_mk ?a ?l ?c ?k
      (case a => k_is); (case l => k_is); (case c => k_is); (case k => k_is)
    have T_reached : FT.DefAt (L2.KOf KX) "reached" (FT.top 2) := by
      dsimp only [L2.KOf]
      refine' FT.defAt_mk ?a ?l ?c ?k
      (case a => k_is); (case l => k_is); (case c => k_is); (case k => k_is)
    have T__law_pool : FT.DefAt (L2.KOf KX) "_law_pool" (FT.top 4) := by
      dsimp only [L2.KOf]
      refine' FT.defAt_mk ?a ?l ?c ?k
      (case a => k_is); (case l => k_is); (case c => k_is); (case k => k_is)
    have T__law_draw : FT.DefAt (L2.KOf KX) "_law_draw" (FT.top 5) := by
      dsimp only [L2.KOf]
      refine' FT.defAt_mk ?a ?l ?c ?k
      (case a => k_is); (case l => k_is); (case c => k_is); (case k => k_is)
    have T__law_name : FT.DefAt (L2.KOf KX) "_law_name" (FT.top 6) := by
      dsimp only [L2.KOf]
      refine' FT.defAt_mk ?a ?l ?c ?k
      (case a => k_is); (case l => k_is); (case c => k_is); (case k => k_is)
    have T__law_names : FT.DefAt (L2.KOf KX) "_law_names" (FT.top 7) := by
      dsimp only [L2.KOf]
      refine' FT.defAt_mk ?a ?l ?c ?k
      (case a => k_is); (case l => k_is); (case c => k_is); (case k => k_is)
    have T__law_great_machine : FT.DefAt (L2.KOf KX) "_law_great_machine" (FT.top 8) := by
      dsimp only [L2.KOf]
      refine' FT.defAt_mk ?a ?l ?c ?k
      (case a => k_is); (case l => k_is); (case c => k_is); (case k => k_is)
    have T__law_number : FT.DefAt (L2.KOf KX) "_law_number" (FT.top 9) := by
      dsimp only [L2.KOf]
      refine' FT.defAt_mk ?a ?l ?c ?k
      (case a => k_is); (case l => k_is); (case c => k_is); (case k => k_is)
    have T__law_tuple : FT.DefAt (L2.KOf KX) "_law_tuple" (FT.top 10) := by
      dsimp only [L2.KOf]
      refine' FT.defAt_mk ?a ?l ?c ?k
      (case a => k_is); (case l => k_is); (case c => k_is); (case k => k_is)
    have T__law_good_set : FT.DefAt (L2.KOf KX) "_law_good_set" (FT.top 11) := by
      dsimp only [L2.KOf]
      refine' FT.defAt_mk ?a ?l ?c ?k
      (case a => k_is); (case l => k_is); (case c => k_is); (case k => k_is)
    have T__law_chain : FT.DefAt (L2.KOf KX) "_law_chain" (FT.top 12) := by
      dsimp only [L2.KOf]
      refine' FT.defAt_mk ?a ?l ?c ?k
      (case a => k_is); (case l => k_is); (case c => k_is); (case k => k_is)
    have T__law_walk : FT.DefAt (L2.KOf KX) "_law_walk" (FT.top 13) := by
      dsimp only [L2.KOf]
      refine' FT.defAt_mk ?a ?l ?c ?k
      (case a => k_is); (case l => k_is); (case c => k_is); (case k => k_is)
    have T__law_right : FT.DefAt (L2.KOf KX) "_law_right" (FT.top 14) := by
      dsimp only [L2.KOf]
      refine' FT.defAt_mk ?a ?l ?c ?k
      (case a => k_is); (case l => k_is); (case c => k_is); (case k => k_is)
    have T_law : FT.DefAt (L2.KOf KX) "law" (FT.top 15) := by
      dsimp only [L2.KOf]
      refine' FT.defAt_mk ?a ?l ?c ?k
      (case a => k_is); (case l => k_is); (case c => k_is); (case k => k_is)
    have z_enumerate : mg "enumerate" = none := PySem.W.mg_none_of KX G (by k_is)
    have z_tuple : mg "tuple" = none := PySem.W.mg_none_of KX G (by k_is)
    have z_sorted : mg "sorted" = none := PySem.W.mg_none_of KX G (by k_is)
    have z_len : mg "len" = none := PySem.W.mg_none_of KX G (by k_is)
    have z_range : mg "range" = none := PySem.W.mg_none_of KX G (by k_is)
    have z_bool : mg "bool" = none := PySem.W.mg_none_of KX G (by k_is)
    have z_int : mg "int" = none := PySem.W.mg_none_of KX G (by k_is)
    have z_isinstance : mg "isinstance" = none := PySem.W.mg_none_of KX G (by k_is)
    have z_list : mg "list" = none := PySem.W.mg_none_of KX G (by k_is)
    obtain ⟨f, fd, hf, F⟩ := T_law
    have e := hmg.symm.trans (PySem.W.mg_of KX G hf)
    cases e
    refine ⟨fd, FT.bindsTo1 F (fun _ _ _ _ _ _ _ => rfl), fun base _ _ => ?_⟩
    have F_behind := FT.ok_behind (P := PySem.Challenge.rw_fairtrees_k04_whole_reached_and_behind.prog) (w := w) (base := base) T_behind (fun v e => PySem.W.mg_of KX G e) z_enumerate z_tuple
    have F_reached := FT.ok_reached (P := PySem.Challenge.rw_fairtrees_k04_whole_reached_and_behind.prog) (w := w) (base := base) T_reached (fun v e => PySem.W.mg_of KX G e) z_sorted z_tuple
    have F__law_pool := FT.ok__law_pool (P := PySem.Challenge.rw_fairtrees_k04_whole_reached_and_behind.prog) (w := w) (base := base) T__law_pool (fun v e => PySem.W.mg_of KX G e)
    have F__law_draw := FT.ok__law_draw (P := PySem.Challenge.rw_fairtrees_k04_whole_reached_and_behind.prog) (w := w) (base := base) T__law_draw (fun v e => PySem.W.mg_of KX G e) z_len
    have F__law_name := FT.ok__law_name (P := PySem.Challenge.rw_fairtrees_k04_whole_reached_and_behind.prog) (w := w) (base := base) T__law_name (fun v e => PySem.W.mg_of KX G e) z_range F__law_draw
    have F__law_names := FT.ok__law_names (P := PySem.Challenge.rw_fairtrees_k04_whole_reached_and_behind.prog) (w := w) (base := base) T__law_names (fun v e => PySem.W.mg_of KX G e) z_range F__law_draw F__law_name
    have F__law_great_machine := FT.ok__law_great_machine (P := PySem.Challenge.rw_fairtrees_k04_whole_reached_and_behind.prog) (w := w) (base := base) T__law_great_machine (fun v e => PySem.W.mg_of KX G e) z_len z_range z_sorted z_tuple F__law_draw
    have F__law_number := FT.ok__law_number (P := PySem.Challenge.rw_fairtrees_k04_whole_reached_and_behind.prog) (w := w) (base := base) T__law_number (fun v e => PySem.W.mg_of KX G e) z_bool z_int z_isinstance
    have F__law_tuple := FT.ok__law_tuple (P := PySem.Challenge.rw_fairtrees_k04_whole_reached_and_behind.prog) (w := w) (base := base) T__law_tuple (fun v e => PySem.W.mg_of KX G e) z_isinstance z_len z_tuple
    have F__law_good_set := FT.ok__law_good_set (P := PySem.Challenge.rw_fairtrees_k04_whole_reached_and_behind.prog) (w := w) (base := base) T__law_good_set (fun v e => PySem.W.mg_of KX G e) z_len z_range F__law_number F__law_tuple
    have F__law_chain := FT.ok__law_chain (P := PySem.Challenge.rw_fairtrees_k04_whole_reached_and_behind.prog) (w := w) (base := base) T__law_chain (fun v e => PySem.W.mg_of KX G e) z_len z_range z_tuple F__law_draw
    have F__law_walk := FT.ok__law_walk (P := PySem.Challenge.rw_fairtrees_k04_whole_reached_and_behind.prog) (w := w) (base := base) T__law_walk (fun v e => PySem.W.mg_of KX G e) z_len z_sorted
    have F__law_right := FT.ok__law_right (P := PySem.Challenge.rw_fairtrees_k04_whole_reached_and_behind.prog) (w := w) (base := base) T__law_right (fun v e => PySem.W.mg_of KX G e) z_len z_list z_range F__law_good_set F__law_walk F_behind F_reached
    exact FT.okL_law F z_len F__law_chain F__law_draw F__law_great_machine F__law_names F__law_pool F__law_right
