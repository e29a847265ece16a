import PyProof.Rows.All
import Wide.All
import OpenK.AllK
import Wide.FinOn
import Lean
import PyProof.EqAt
import PyProof.EqKinds
import PyProof.TupleCall
import KE.KTryMore
import PyProof.NsDelKeeps
import PyProof.NeKinds
import PyProof.AutoListH
import PyProof.WalkInts
import PyProof.ListRange
import PyProof.EnumFor
import PyProof.EnumMake
import PyProof.EnumStmt
import KE.KSortKey
import KE.KLam
import KE.KNestM
import PyProof.InstStoreFacts
import PySem.Challenge.RW_pursewise_k07_whole_a_way_or_a_gap

set_option Elab.async false
set_option linter.all false
set_option maxRecDepth 100000
/-! THE HAND LAYER, for ints, bools, texts, own classes, LISTS and tuples (index, slices, in, append, pop ..), calls, loops. Paste it whole ahead of your own text; what your proof does not reach may be deleted. -/
namespace L2
open PySem PySem.Spec PyProof.Rows

/-- a key: an int or a str -/
abbrev Key := Sum Int Str
def keyIs : Key → Value → Bool
  | .inl k, v => Value.isInt k v
  | .inr x, v => Value.isStrOf x v
def keyH (w : World) : Key → Int
  | .inl k => hashInt k
  | .inr x => hashStr w x
theorem keyIs_shape : ∀ {k : Key} {v : Value}, keyIs k v = true → (∃ i t, k = Sum.inl i ∧ v = Value.int i t) ∨ (∃ x t, k = Sum.inr x ∧ v = Value.str x t)
  | .inl i, v, h => by
    obtain ⟨t, e⟩ := Value.isInt_shape (k := i) (v := v) h
    exact .inl ⟨i, t, rfl, e⟩
  | .inr x, v, h => by
    obtain ⟨t, e⟩ := Value.isStrOf_shape (x := x) (v := v) h
    exact .inr ⟨x, t, rfl, e⟩
theorem keyIs_int (i : Int) (t : Tok) : keyIs (.inl i) (.int i t) = true := by simp [keyIs, Value.isInt]
theorem keyIs_str (x : Str) (t : Tok) : keyIs (.inr x) (.str x t) = true := by simp [keyIs, Value.isStrOf]
theorem key_ll (a b : Int) : decide ((Sum.inl a : Key) = Sum.inl b) = (a == b) := by
  by_cases e : a = b
  · subst e; simp
  · have h : ¬ (Sum.inl a : Key) = Sum.inl b := fun q => e (Sum.inl.inj q)
    rw [decide_eq_false h]
    exact (beq_eq_false_iff_ne.mpr e).symm
theorem key_rr (a b : Str) : decide ((Sum.inr a : Key) = Sum.inr b) = decide (a = b) := by
  by_cases e : a = b
  · subst e; simp
  · have h : ¬ (Sum.inr a : Key) = Sum.inr b := fun q => e (Sum.inr.inj q)
    rw [decide_eq_false h, decide_eq_false e]
theorem key_lr (a : Int) (b : Str) : decide ((Sum.inl a : Key) = Sum.inr b) = false := decide_eq_false (fun q => nomatch q)
theorem key_rl (a : Str) (b : Int) : decide ((Sum.inr a : Key) = Sum.inl b) = false := decide_eq_false (fun q => nomatch q)

def mixKind (prog : Program) (w : World) : PySem.KeyKind prog w Key where
  is := keyIs
  hash := keyH w
  inj := fun v a b ha hb => by
    rcases keyIs_shape ha with ⟨i, t, rfl, rfl⟩ | ⟨x, t, rfl, rfl⟩
    · rcases keyIs_shape hb with ⟨j, u, rfl, e⟩ | ⟨y, u, rfl, e⟩
      · injection e with e1 _; rw [e1]
      · exact nomatch e
    · rcases keyIs_shape hb with ⟨j, u, rfl, e⟩ | ⟨y, u, rfl, e⟩
      · exact nomatch e
      · injection e with e1 _; rw [e1]
  byValue := fun k v h => by
    rcases keyIs_shape h with ⟨i, t, rfl, rfl⟩ | ⟨x, t, rfl, rfl⟩ <;> rfl
  pyHash := fun hv h => by
    rcases keyIs_shape hv with ⟨i, t, rfl, rfl⟩ | ⟨x, t, rfl, rfl⟩
    · exact wpAny_pyHash_int h
    · exact wpAny_pyHash_str h
  eqBool := fun hu hv h => by
    rcases keyIs_shape hu with ⟨i, t, rfl, rfl⟩ | ⟨x, t, rfl, rfl⟩
    · rcases keyIs_shape hv with ⟨j, u, rfl, rfl⟩ | ⟨y, u, rfl, rfl⟩
      · rw [key_ll] at h; exact wpAny_eqBool_int h
      · rw [key_lr] at h; exact SeqAt.EqAt.int_str i t y u _ _ _ _ h
    · rcases keyIs_shape hv with ⟨j, u, rfl, rfl⟩ | ⟨y, u, rfl, rfl⟩
      · rw [key_rl] at h; exact SeqAt.EqAt.str_int x t j u _ _ _ _ h
      · rw [key_rr] at h; exact wpAny_eqBool_str h
  «strs» := fun k x t v h => by
    rcases keyIs_shape h with ⟨i, u, rfl, e⟩ | ⟨y, u, rfl, e⟩
    · exact nomatch e
    · injection e with e1 _
      subst e1
      cases v <;> rfl

theorem mixKind_is (prog : Program) (w : World) (k : Key) (v : Value) : (mixKind prog w).is k v = keyIs k v := rfl
theorem mixKind_int (prog : Program) (w : World) (i : Int) (t : Tok) : (mixKind prog w).is (.inl i) (.int i t) = true := keyIs_int i t
theorem mixKind_str (prog : Program) (w : World) (x : Str) (t : Tok) : (mixKind prog w).is (.inr x) (.str x t) = true := keyIs_str x t
end L2

namespace L2
open PySem PySem.Spec PyProof.Rows

/-- a value, without the heap -/
inductive V where
  | non | bl (b : Bool) | int (i : Int) | str (x : Str) | byt (b : Array UInt8) | flt (b : UInt64) | ref (a : Addr) | ty (n : String)
  deriving DecidableEq

def RelV : V → Value → Prop
  | .non, u => u = Value.none
  | .bl b, u => u = Value.bool b
  | .int i, u => ∃ t, u = Value.int i t
  | .str x, u => ∃ t, u = Value.str x t
  | .byt b, u => ∃ t, u = Value.bytes b t
  | .flt b, u => ∃ t, u = Value.float b t
  | .ref a, u => u = Value.ref a
  | .ty n, u => u = Value.type n

abbrev Vals : List V → List Value → Prop := Paired RelV
theorem Vals.length {xs : List V} {us : List Value} (r : Vals xs us) : xs.length = us.length := Paired.length r
theorem Vals.get : ∀ {xs : List V} {us : List Value} {i : Nat} {x : V}, Vals xs us → xs[i]? = some x → ∃ u, us[i]? = some u ∧ RelV x u
  | _, _, _, _, .nil, e => by simp at e
  | _, _, 0, _, .cons r _, e => by simp at e; subst e; exact ⟨_, rfl, r⟩
  | _, _, i + 1, x, .cons _ t, e => by
    obtain ⟨u, h1, h2⟩ := Vals.get (i := i) (x := x) t (by simpa using e)
    exact ⟨u, by simpa using h1, h2⟩
theorem Vals.set {x : V} {u : Value} (r : RelV x u) : ∀ {xs : List V} {us : List Value} (i : Nat), Vals xs us → Vals (xs.set i x) (us.set i u)
  | _, _, _, .nil => .nil
  | _, _, 0, .cons _ t => .cons r t
  | _, _, i + 1, .cons q t => .cons q (Vals.set r i t)
theorem Vals.append : ∀ {xs ys : List V} {us ws : List Value}, Vals xs us → Vals ys ws → Vals (xs ++ ys) (us ++ ws)
  | _, _, _, _, .nil, s => s
  | _, _, _, _, .cons r t, s => .cons r (Vals.append t s)
theorem Vals.take : ∀ {xs : List V} {us : List Value} (n : Nat), Vals xs us → Vals (xs.take n) (us.take n)
  | _, _, 0, _ => .nil
  | _, _, _ + 1, .nil => .nil
  | _, _, n + 1, .cons r t => .cons r (Vals.take n t)
theorem Vals.drop : ∀ {xs : List V} {us : List Value} (n : Nat), Vals xs us → Vals (xs.drop n) (us.drop n)
  | _, _, 0, r => r
  | _, _, _ + 1, .nil => .nil
  | _, _, n + 1, .cons _ t => Vals.drop n t
theorem Vals.none_of : ∀ {xs : List V} {us : List Value} {i : Nat}, Vals xs us → xs[i]? = none → us[i]? = none := fun {xs us i} r e => by
  have h1 := r.length
  have h2 : xs.length ≤ i := List.getElem?_eq_none_iff.mp e
  exact List.getElem?_eq_none_iff.mpr (by omega)

def RelO : Option V → Option Value → Prop
  | some v, some u => RelV v u
  | none, none => True
  | _, _ => False
def KV {κ : Type} : List (κ × V) → List (κ × Value) → Prop := Paired fun (p : κ × V) (q : κ × Value) => p.1 = q.1 ∧ RelV p.2 q.2

/-- a key of a dict (00_mix): an int or a text -/
def kV : Key → V
  | .inl i => .int i
  | .inr x => .str x

/-- what stands at a tracked address -/
inductive HO where
  /-- a list -/
  | lst (xs : List V)
  /-- a tuple (never changes) -/
  | tup (xs : List V)
  /-- a dict whose keys are ints and texts; one whose keys are tuples of ints and texts (the empty one is both) -/
  | dK (kvs : List (Key × V)) | dT (kvs : List (List Key × V))
  /-- a set of ints: its members, its size -/
  | set (S : Int → Bool) (n : Nat)
  /-- an instance of the class at C, its dict at dx, its attributes -/
  | ins (C dx : Addr) (fs : List (Str × V))
  /-- the dict of the instance at x -/
  | own (x : Addr)
  /-- the dict of an exception -/
  | xd (fs : List (Str × V))
  /-- a bound method, f of x -/
  | met (f x : Addr)
  /-- a range object lo, lo + 1, .. below hi -/
  | rng (lo hi : Int)
  /-- a thing that is known to the object (the script; a dict while a loop walks it): read, never written while it is so -/
  | frz (o : Obj) (u : HO)
  /-- a code object's table -/
  | tbl (ps : Array Value)
  /-- any other thing, by what is true of its one object (a def of one's own: SetO a S n := HO.ext fun h => ..) -/
  | ext (φ : Heap → Prop)

abbrev Hp := Addr → Option HO
def upd (H : Hp) (a : Addr) (o : HO) : Hp := fun b => if b = a then some o else H b
theorem upd_same {H : Hp} {a : Addr} {o : HO} : upd H a o a = some o := by unfold upd; rw [if_pos rfl]
theorem upd_ne {H : Hp} {a b : Addr} {o : HO} (h : b ≠ a) : upd H a o b = H b := by unfold upd; rw [if_neg h]
theorem upd_upd {H : Hp} {a : Addr} {o u : HO} : upd (upd H a o) a u = upd H a u := by
  funext b; unfold upd; split <;> rfl
/-- two objects of different content stand apart -/
theorem ne_of {H : Hp} {a b : Addr} {o u : HO} (h : H a = some o) (h' : H b = some u) (d : o ≠ u) : a ≠ b := by
  intro e; subst e; rw [h] at h'; exact d (Option.some.inj h')
theorem ne_of_none {H : Hp} {a b : Addr} {o : HO} (h : H a = some o) (h' : H b = none) : a ≠ b := by
  intro e; subst e; rw [h] at h'; cases h'

section
variable (P : Program) (w : World)
def ObjOk (H : Hp) (h : Heap) (a : Addr) : HO → Prop
  | .lst xs => xs.length ≤ sizeLine ∧ ∃ (its : List Value) (n : Nat), Vals xs its ∧ h.get? a = some { cls := .type "list", data := .seq its.toArray n }
  | .tup xs => xs.length ≤ sizeLine ∧ ∃ its : List Value, Vals xs its ∧ IsTup h a its.toArray
  | .dK kvs => kvs.length ≤ sizeLine ∧ (a == sysModules) = false ∧ ∃ vs, KV kvs vs ∧ h.DictOf (mixKind P w) a vs
  | .dT kvs => kvs.length ≤ sizeLine ∧ (a == sysModules) = false ∧ ∃ xs : List (List Key × Addr × Value),
      Paired (fun (p : List Key × V) (q : List Key × Addr × Value) => p.1 = q.1 ∧ H q.2.1 = some (.tup (p.1.map kV)) ∧ RelV p.2 q.2.2) kvs xs ∧
      ∃ o es ep, h.get? a = some o ∧ o.ExactDict ∧ o.data = .dict es ep ∧ es.toList = xs.map (entryOfKey (tupleKind (mixKind P w))) ∧ (xs.map (·.1)).Nodup
  | .set S n => h.SetOf (intKind P w) a S n
  | .ins C dx fs => H dx = some (.own a) ∧ fs.length ≤ 1000 ∧ dx ≠ a ∧ h.get? a = some (PySem.W.instObj C dx) ∧
      ∃ mA, h.Ns1 dx mA ∧ (∀ f, RelO (fs.lookup f) (mA f)) ∧ PySem.Within mA (fs.map (·.1))
  | .own _ => ∃ o, h.get? a = some o
  | .xd fs => ∃ mA, h.Ns1 a mA ∧ ∀ f, RelO (fs.lookup f) (mA f)
  | .rng lo hi => ∃ t u v, h.get? a = some { cls := .type "range", data := .fields #[.int lo t, .int hi u, .int 1 v] }
  | .frz o u => h.get? a = some o ∧ ObjOk H h a u
  | .tbl ps => h.get? a = some { cls := .none, data := .fields ps }
  | .met f x => h.get? a = some (PySem.W.methodObj (.ref f) (.ref x))
  | .ext φ => φ h ∧ (∃ o, h.get? a = some o) ∧ ∀ h1 h2 : Heap, φ h1 → (∀ o, h1.get? a = some o → h2.get? a = some o) → φ h2
/-- the abstract heap is held -/
def HOk (H : Hp) (h : Heap) : Prop := ∀ a o, H a = some o → ObjOk P w H h a o
end

section
variable {P : Program} {w : World} {H H' : Hp} {h h' : Heap} {a : Addr} {o : HO}
theorem ObjOk.lt (x : ObjOk P w H h a o) : a < h.objs.size := by
  cases o with
  | lst xs => obtain ⟨_, _, _, _, e⟩ := x; exact Heap.lt_size e
  | tup xs => obtain ⟨_, _, _, p⟩ := x; exact p.lt
  | dK kvs => obtain ⟨_, _, _, _, o, _, _, e, _⟩ := x; exact Heap.lt_size e
  | dT kvs => obtain ⟨_, _, _, _, o, _, _, e, _⟩ := x; exact Heap.lt_size e
  | set S n => obtain ⟨o, _, _, _, e, _⟩ := x; exact Heap.lt_size e
  | ins C dx fs => obtain ⟨_, _, _, e, _⟩ := x; exact Heap.lt_size e
  | own y => obtain ⟨_, e⟩ := x; exact Heap.lt_size e
  | xd fs => obtain ⟨_, ⟨_, _, _, e, _⟩, _⟩ := x; exact Heap.lt_size e
  | rng lo hi => obtain ⟨_, _, _, e⟩ := x; exact Heap.lt_size e
  | frz ob u => obtain ⟨e, _⟩ := x; exact Heap.lt_size e
  | tbl ps => exact Heap.lt_size (show h.get? a = some _ from x)
  | met f y => exact Heap.lt_size (show h.get? a = some _ from x)
  | ext φ => obtain ⟨_, ⟨_, e⟩, _⟩ := x; exact Heap.lt_size e
theorem Paired.mapP {α β : Type} {F G : α → β → Prop} : ∀ {l₁ : List α} {l₂ : List β}, Paired F l₁ l₂ → (∀ a b, F a b → G a b) → Paired G l₁ l₂
  | _, _, .nil, _ => .nil
  | _, _, .cons r t, f => .cons (f _ _ r) (Paired.mapP t f)
theorem Paired.imp' {α β : Type} {F G : α → β → Prop} (f : ∀ a b, F a b → G a b) {l₁ : List α} {l₂ : List β} (r : Paired F l₁ l₂) : Paired G l₁ l₂ := Paired.mapP r f
/-- what an object's description leans on: its own object, its own dict, the tuples -/
theorem ObjOk.stay (x : ObjOk P w H h a o) (k : ∀ b u, (b = a ∨ H b = some (.own a)) → h.get? b = some u → h'.get? b = some u)
    (ho : ∀ b, H b = some (.own a) → H' b = some (.own a)) (ht : ∀ b xs, H b = some (.tup xs) → H' b = some (.tup xs)) : ObjOk P w H' h' a o := by
  induction o with
  | lst xs => obtain ⟨z, its, n, r, e⟩ := x; exact ⟨z, its, n, r, k _ _ (.inl rfl) e⟩
  | tup xs => obtain ⟨z, its, r, ob, e, c⟩ := x; exact ⟨z, its, r, ob, k _ _ (.inl rfl) e, c⟩
  | dK kvs => obtain ⟨z, y, vs, r, ob, es, ep, e, c⟩ := x; exact ⟨z, y, vs, r, ob, es, ep, k _ _ (.inl rfl) e, c⟩
  | dT kvs =>
    obtain ⟨z, y, xs, r, ob, es, ep, e, c⟩ := x
    exact ⟨z, y, xs, Paired.mapP r fun p q z => ⟨z.1, ht _ _ z.2.1, z.2.2⟩, ob, es, ep, k _ _ (.inl rfl) e, c⟩
  | set S n => obtain ⟨ob, es, ep, t, e, c⟩ := x; exact ⟨ob, es, ep, t, k _ _ (.inl rfl) e, c⟩
  | ins C dx fs =>
    obtain ⟨d, z, ne, e, mA, ⟨od, es, ep, e2, c⟩, r⟩ := x
    exact ⟨ho _ d, z, ne, k _ _ (.inl rfl) e, mA, ⟨od, es, ep, k _ _ (.inr d) e2, c⟩, r⟩
  | own y => obtain ⟨ob, e⟩ := x; exact ⟨ob, k _ _ (.inl rfl) e⟩
  | xd fs => obtain ⟨mA, ⟨od, es, ep, e, c⟩, r⟩ := x; exact ⟨mA, ⟨od, es, ep, k _ _ (.inl rfl) e, c⟩, r⟩
  | rng lo hi => obtain ⟨t, u, v, e⟩ := x; exact ⟨t, u, v, k _ _ (.inl rfl) e⟩
  | frz ob u ih => obtain ⟨e, q⟩ := x; exact ⟨k _ _ (.inl rfl) e, ih q⟩
  | tbl ps =>
    have e : h.get? a = some { cls := .none, data := .fields ps } := x
    show h'.get? a = some { cls := .none, data := .fields ps }
    exact k a _ (.inl rfl) e
  | met f y =>
    have e : h.get? a = some (PySem.W.methodObj (.ref f) (.ref y)) := x
    show h'.get? a = some (PySem.W.methodObj (.ref f) (.ref y))
    exact k a _ (.inl rfl) e
  | ext φ => obtain ⟨p, ⟨o, e⟩, st⟩ := x; exact ⟨st _ _ p fun o q => k _ _ (.inl rfl) q, ⟨o, k _ _ (.inl rfl) e⟩, st⟩
theorem HOk.lt (x : HOk P w H h) (e : H a = some o) : a < h.objs.size := (x a o e).lt
theorem HOk.fresh (x : HOk P w H h) (e : h.objs.size ≤ a) : H a = none := by
  cases q : H a with
  | none => rfl
  | some u => exact absurd (Nat.lt_of_lt_of_le (x.lt q) e) (Nat.lt_irrefl _)
/-- every object of the heap is kept -/
theorem HOk.kept (x : HOk P w H h) (k : ∀ b u, h.get? b = some u → h'.get? b = some u) : HOk P w H h' := fun a o e =>
  (x a o e).stay (fun b u _ q => k b u q) (fun _ q => q) fun _ _ q => q
/-- a new object is laid and tracked -/
theorem HOk.laid (x : HOk P w H h) (k : ∀ b u, h.get? b = some u → h'.get? b = some u) (hp : h.objs.size ≤ a) (new : ObjOk P w (upd H a o) h' a o) : HOk P w (upd H a o) h' := fun b u e => by
  have hn := x.fresh hp
  by_cases hb : b = a
  · subst hb; rw [upd_same] at e; cases e; exact new
  · rw [upd_ne hb] at e
    exact (x b u e).stay (fun c v _ q => k c v q) (fun c q => by rw [upd_ne (ne_of_none q hn)]; exact q) fun c xs q => by rw [upd_ne (ne_of_none q hn)]; exact q
end

/-- what may be read as u: it is u, or a known u -/
def Rd (H : Hp) (a : Addr) (u : HO) : Prop := H a = some u ∨ ∃ o, H a = some (.frz o u)
theorem Rd.of {H : Hp} {a : Addr} {u : HO} (h : H a = some u) : Rd H a u := .inl h
theorem Rd.ok {P : Program} {w : World} {H : Hp} {h : Heap} {a : Addr} {u : HO} (r : Rd H a u) (x : HOk P w H h) : ObjOk P w H h a u := by
  rcases r with r | ⟨o, r⟩
  · exact x a u r
  · obtain ⟨_, q⟩ := x a _ r
    exact q
/-- what may be written -/
def Mut : Option HO → Prop
  | some (.lst _) => True
  | some (.dK _) => True
  | some (.dT _) => True
  | some (.set _ _) => True
  | some (.ins _ _ _) => True
  | some (.ext _) => True
  | _ => False
section
variable {P : Program} {w : World} {H : Hp} {h h' : Heap} {x e : Addr} {o' : HO}
/-- the object at e is changed: x itself, or the dict of the instance x -/
theorem HOk.write (ok : HOk P w H h) (mu : Mut (H x)) (he : e = x ∨ H e = some (.own x)) (k : ∀ b u, b ≠ e → h.get? b = some u → h'.get? b = some u) (heo : ∃ u, h'.get? e = some u)
    (new : ObjOk P w (upd H x o') h' x o') : HOk P w (upd H x o') h' := fun b u q => by
  have nown : ∀ c y, H c = some (.own y) → c ≠ x := fun c y r z => by subst z; rw [r] at mu; exact mu
  have ntup : ∀ c xs, H c = some (.tup xs) → c ≠ x := fun c xs r z => by subst z; rw [r] at mu; exact mu
  by_cases hb : b = x
  · subst hb; rw [upd_same] at q; cases q; exact new
  · rw [upd_ne hb] at q
    by_cases hbe : b = e
    · have q' : H b = some (.own x) := by
        rcases he with z | z
        · exact absurd (hbe.trans z) hb
        · rw [hbe]; exact z
      rw [q] at q'; cases q'
      obtain ⟨v, hv⟩ := heo
      exact ⟨v, by rw [hbe]; exact hv⟩
    · refine (ok b u q).stay (fun c v hc r => k c v ?_ r) (fun c r => by rw [upd_ne (nown c b r)]; exact r) fun c xs r => by rw [upd_ne (ntup c xs r)]; exact r
      rcases hc with rfl | hc
      · exact hbe
      · rintro rfl
        rcases he with z | z
        · exact nown c b hc z
        · rw [hc] at z; cases z; exact hb rfl
end

/-! ### kept unless tracked; of the frames at fs (the callers') the slots may change (an exception that passes writes there); of the records at ex (iterators) nothing is said -/
structure Un (fs ex : List Addr) (H H' : Hp) (h h' : Heap) : Prop where
  keep : ∀ b o, h.get? b = some o → H b = none → b ∉ fs → b ∉ ex → h'.get? b = some o
  slot : ∀ b o, h.get? b = some o → H b = none → b ∈ fs → b ∉ ex → ∃ sl, h'.get? b = some { o with slots := sl }
  free : ∀ b o, h.get? b = some o → H b = none → b ∉ ex → H' b = none
  there : ∀ b o, h.get? b = some o → b ∉ ex → ∃ o', h'.get? b = some o'
  tups : ∀ b xs, H b = some (.tup xs) → H' b = some (.tup xs)
  frzs : ∀ b o u, H b = some (.frz o u) → H' b = some (.frz o u)
  tbls : ∀ b ps, H b = some (.tbl ps) → ∃ more, H' b = some (.tbl (ps ++ more))
section
variable {fs fs' ex ex' : List Addr} {H H1 H2 : Hp} {h h1 h2 h' : Heap} {a x e : Addr} {o : HO}
theorem Un.any (u : Un fs ex H H1 h h1) {b : Addr} {ob : Obj} (q : h.get? b = some ob) (n : H b = none) (hx : b ∉ ex) : ∃ sl, h1.get? b = some { ob with slots := sl } := by
  by_cases hb : b ∈ fs
  · exact u.slot b ob q n hb hx
  · exact ⟨ob.slots, u.keep b ob q n hb hx⟩
theorem Un.trans (a : Un fs ex H H1 h h1) (b : Un fs ex H1 H2 h1 h2) : Un fs ex H H2 h h2 where
  keep := fun c ob q n hc hx => b.keep c ob (a.keep c ob q n hc hx) (a.free c ob q n hx) hc hx
  slot := fun c ob q n hc hx => by
    obtain ⟨sl, e1⟩ := a.slot c ob q n hc hx
    obtain ⟨sl', e2⟩ := b.slot c _ e1 (a.free c ob q n hx) hc hx
    exact ⟨sl', e2⟩
  free := fun c ob q n hx => by
    obtain ⟨o', e1⟩ := a.there c ob q hx
    exact b.free c o' e1 (a.free c ob q n hx) hx
  there := fun c ob q hx => by
    obtain ⟨o', e1⟩ := a.there c ob q hx
    exact b.there c o' e1 hx
  tups := fun c xs q => b.tups c xs (a.tups c xs q)
  frzs := fun c ob xs q => b.frzs c ob xs (a.frzs c ob xs q)
  tbls := fun c ps q => by
    obtain ⟨m1, e1⟩ := a.tbls c ps q
    obtain ⟨m2, e2⟩ := b.tbls c _ e1
    exact ⟨m1 ++ m2, by rw [e2, Array.append_assoc]⟩
theorem Un.kept (k : ∀ b u, h.get? b = some u → h'.get? b = some u) : Un fs ex H H h h' :=
  ⟨fun b ob q _ _ _ => k b ob q, fun b ob q _ _ _ => ⟨ob.slots, k b ob q⟩, fun _ _ _ n _ => n, fun b ob q _ => ⟨ob, k b ob q⟩, fun _ _ q => q, fun _ _ _ q => q, fun _ ps q => ⟨#[], by rw [q]; simp⟩⟩
theorem Un.refl : Un fs ex H H h h := Un.kept fun _ _ q => q
theorem Un.laid (k : ∀ b u, h.get? b = some u → h'.get? b = some u) (hp : h.objs.size ≤ a) (hn : H a = none) : Un fs ex H (upd H a o) h h' where
  keep := fun b u q _ _ _ => k b u q
  slot := fun b u q _ _ _ => ⟨u.slots, k b u q⟩
  free := fun b u q n _ => by rw [upd_ne (Nat.ne_of_lt (Nat.lt_of_lt_of_le (Heap.lt_size q) hp))]; exact n
  there := fun b u q _ => ⟨u, k b u q⟩
  tups := fun b xs q => by rw [upd_ne (ne_of_none q hn)]; exact q
  frzs := fun b u xs q => by rw [upd_ne (ne_of_none q hn)]; exact q
  tbls := fun b ps q => ⟨#[], by rw [upd_ne (ne_of_none q hn), q]; simp⟩
theorem Un.write (mu : Mut (H x)) (he : e = x ∨ H e = some (.own x)) (k : ∀ b u, b ≠ e → h.get? b = some u → h'.get? b = some u) (heo : ∃ u, h'.get? e = some u) : Un fs ex H (upd H x o) h h' := by
  have hx : ∀ b, H b = none → b ≠ x := fun b n z => by subst z; rw [n] at mu; exact mu
  have hb : ∀ b, H b = none → b ≠ e := fun b n z => by
    subst z
    rcases he with r | r
    · exact hx b n r
    · rw [n] at r; cases r
  have hm : ∀ b u, H b = some u → ¬ Mut (some u) → b ≠ x := fun b u q nm z => by subst z; rw [q] at mu; exact nm mu
  refine ⟨fun b u q n _ _ => k b u (hb b n) q, fun b u q n _ _ => ⟨u.slots, k b u (hb b n) q⟩, fun b u q n _ => by rw [upd_ne (hx b n)]; exact n, fun b u q _ => ?_,
    fun b xs q => by rw [upd_ne (hm b _ q fun z => z)]; exact q, fun b u xs q => by rw [upd_ne (hm b _ q fun z => z)]; exact q, fun b ps q => ⟨#[], by rw [upd_ne (hm b _ q fun z => z), q]; simp⟩⟩
  by_cases hbe : b = e
  · subst hbe; exact heo
  · exact ⟨u, k b u hbe q⟩
theorem Un.mono (u : Un fs ex H H1 h h1) (hs : ∀ b ∈ fs, b ∈ fs') (hx : ∀ b ∈ ex, b ∈ ex') : Un fs' ex' H H1 h h1 :=
  ⟨fun b ob q n hb he => u.keep b ob q n (fun z => hb (hs b z)) fun z => he (hx b z), fun _ _ q n _ he => u.any q n fun z => he (hx _ z), fun b ob q n he => u.free b ob q n fun z => he (hx b z), fun b ob q he => u.there b ob q fun z => he (hx b z), u.tups, u.frzs, u.tbls⟩
end

/-! ### the heap without what is tracked -/
def trk (h : Heap) (H : Hp) : List Addr := (List.range h.objs.size).filter fun a => (H a).isSome
def hidT (h : Heap) (H : Hp) : Heap := PySem.W.hideAll h (trk h H)
theorem hidT_size (h : Heap) (H : Hp) : (hidT h H).objs.size = h.objs.size := PySem.W.hideAll_size _ _
theorem hidT_get {h : Heap} {H : Hp} {b : Addr} {o : Obj} (e : h.get? b = some o) (n : H b = none) : (hidT h H).get? b = some o :=
  PySem.W.hideAll_get _ e fun hm => by
    have q : (H b).isSome = true := (List.mem_filter.mp hm).2
    rw [n] at q; simp at q
theorem of_hidT {h : Heap} {H : Hp} {b : Addr} {o : Obj} (e : (hidT h H).get? b = some o) : h.get? b = some o ∧ H b = none := by
  have e' : h.get? b = some o := PySem.W.of_hideAll (trk h H) e
  refine ⟨e', ?_⟩
  cases q : H b with
  | none => rfl
  | some x =>
    have hm : b ∈ trk h H := List.mem_filter.mpr ⟨List.mem_range.mpr (Heap.lt_size e'), by simp [q]⟩
    have z : (hidT h H).get? b = none := PySem.W.hideAll_none (trk h H) hm
    rw [z] at e; cases e

/-! ### OpenK's ledger, filled with every new object but one -/
def allNews (g h : Heap) (L : Addr) : List (Addr × Obj) := (List.range h.objs.size).filterMap fun a => if a = L ∨ (g.get? a).isSome = true then none else (h.get? a).map fun o => (a, o)
theorem mem_allNews {g h : Heap} {L a : Addr} {o : Obj} (h1 : a ≠ L) (h2 : g.get? a = none) (h3 : h.get? a = some o) : (a, o) ∈ allNews g h L :=
  List.mem_filterMap.mpr ⟨a, List.mem_range.mpr (Heap.lt_size h3), by simp [h1, h2, h3]⟩
theorem of_mem_allNews {g h : Heap} {L : Addr} {p : Addr × Obj} (hp : p ∈ allNews g h L) : p.1 ≠ L ∧ g.get? p.1 = none ∧ h.get? p.1 = some p.2 := by
  obtain ⟨b, _, e⟩ := List.mem_filterMap.mp hp
  split at e
  · cases e
  · rename_i hn
    cases q : h.get? b with
    | none => rw [q] at e; simp at e
    | some u =>
      rw [q] at e
      simp only [Option.map_some, Option.some.injEq] at e
      subst e
      refine ⟨fun z => hn (.inl z), ?_, q⟩
      show g.get? b = none
      cases r : g.get? b with
      | none => rfl
      | some v => exact (hn (.inr (by simp [r]))).elim
def rest (g h : Heap) (L d : Addr) : List (Addr × Obj) := (allNews g h L).filter fun p => decide (p.1 ≠ d)
theorem rest_ne {g h : Heap} {L d : Addr} : ∀ p ∈ rest g h L d, p.1 ≠ d := fun p hp => of_decide_eq_true (List.mem_filter.mp hp).2
theorem mem_rest {g h : Heap} {L d a : Addr} {o : Obj} (h1 : a ≠ L) (h2 : g.get? a = none) (h3 : h.get? a = some o) (h4 : a ≠ d) : (a, o) ∈ rest g h L d :=
  List.mem_filter.mpr ⟨mem_allNews h1 h2 h3, decide_eq_true h4⟩
theorem news_all {g h : Heap} {L : Addr} : News g L h (allNews g h L) := fun p hp => let ⟨a, b, c⟩ := of_mem_allNews hp; ⟨c, a, b⟩
theorem news_at {g h : Heap} {L d : Addr} {o : Obj} (h1 : d ≠ L) (h2 : g.get? d = none) (h3 : h.get? d = some o) : News g L h ((d, o) :: rest g h L d) := fun p hp => by
  rcases List.mem_cons.mp hp with rfl | hp
  · exact ⟨h3, h1, h2⟩
  · exact news_all p (List.mem_filter.mp hp).1
/-- behind a rule that changed d alone: all else but the frame is kept -/
theorem kept_of_news {g h h' : Heap} {L d : Addr} {m : Str → Option Value} (k : ∀ b o, g.get? b = some o → h.get? b = some o) (F : Fr g L h' m) (N : News g L h' (rest g h L d)) :
    ∀ b o, b ≠ L → b ≠ d → h.get? b = some o → h'.get? b = some o := fun b o h1 h2 e => by
  cases q : g.get? b with
  | some u =>
    have := k b u q
    rw [e] at this; cases this
    exact F.keep b _ q
  | none => exact (N (b, o) (mem_rest h1 q e h2)).1
end L2

namespace L2
open PySem PySem.Spec PyProof.Rows

/-- the module's facts, over the base: the heap at the law's entry without what is tracked there -/
structure Mod (K : PySem.W.Frag) (mg : Str → Option Value) (base : Heap) : Prop where
  kin : K.In base
  glob : base.Ns mainGlobals mg
  blt : ∃ mb, base.Ns builtinsNs mb ∧ ∀ x : Str, x ≠ "__name__" → mb x = bootBuiltins x
  nolimit : base.NoLimit

/-- the context: a def's body (or a comprehension's block) running. base: fixed through the whole law; s₀, H₀: the entry; outer: the frames whose slots others may change (a def's callers); stack: all frames that run;
   ex: iterators that were made ahead of the entry and are walked here (a comprehension's); fn: the names whose cells were made at the entry (a def: all; a comprehension's block: its own); calm: not within an except suite; pn: pins that every state bears; xe: what is wanted of an exception that leaves the code -/
structure Cx where
  prog : Program
  w : World
  K : PySem.W.Frag
  mg : Str → Option Value
  base : Heap
  A : Around
  N : List Str
  s₀ : Shared
  H₀ : Hp
  env : Env
  outer : List Env
  stack : List Env
  ex : List Addr
  fn : Str → Bool
  calm : Bool
  pn : List (Addr × Obj)
  xe : Value → Shared → Prop
/-- the callers' frames -/
def frs (l : List Env) : List Addr := l.filterMap (·.frame)
abbrev Cx.fs (X : Cx) : List Addr := frs X.outer

def Vis (sc : Scope) (x : Str) : Prop := sc.names.lookup x = some .local ∨ sc.names.lookup x = some .cell ∨ sc.names.lookup x = some .free
def Loc (sc : Scope) (x : Str) : Prop := sc.names.lookup x = some .local ∨ sc.names.lookup x = some .cell
def Look (env : Env) (h : Heap) (m : Str → Option Value) (x : Str) (u : Value) : Prop :=
  (env.kindOf x = some .local ∧ m x = some u) ∨ ((env.kindOf x = some .cell ∨ env.kindOf x = some .free) ∧ ∃ c, env.cells.lookup x = some c ∧ h.IsCell c (some u))

structure Cx.Ok (X : Cx) : Prop where
  mod : Mod X.K X.mg X.base
  kind : X.env.scope.kind = .function
  glob : X.env.globals = mainGlobals
  blt : X.env.builtins = builtinsNs
  above : X.s₀.heap.objs.size ≤ X.env.locals
  inj : ∀ x y c, X.env.cells.lookup x = some c → X.env.cells.lookup y = some c → x = y
  has : ∀ x, (X.env.kindOf x = some .cell ∨ X.env.kindOf x = some .free) → ∃ c, X.env.cells.lookup x = some c
  cab : ∀ x c, X.fn x = true → X.env.cells.lookup x = some c → X.s₀.heap.objs.size ≤ c
  hd : X.calm = true → X.A.handled = none
  frames : X.A.frames = some X.stack
  stk : X.stack = X.outer ∨ (X.stack = X.env :: X.outer ∧ X.env.frame = some X.env.locals)
  exf : ∀ b ∈ X.ex, b ≠ X.env.locals ∧ ∀ x c, X.env.cells.lookup x = some c → c ≠ b
  bs : ∀ b o, X.base.get? b = some o → X.s₀.heap.get? b = some o ∧ X.H₀ b = none
  bsz : X.base.objs.size ≤ X.s₀.heap.objs.size
  noex : ∀ b o, X.base.get? b = some o → b ∉ X.ex
  exfs : ∀ b ∈ X.ex, b ∉ X.fs
  funs : X.s₀.heap.FunFrames X.base X.outer
  frf : ∀ b ∈ X.fs, X.H₀ b = none

structure Inv (X : Cx) (pins : List (Addr × Obj)) (σ : List (Option V)) (H : Hp) (s : Shared) : Prop where
  ok : X.Ok
  os : s.os = X.s₀.os
  bare : AllBare s.gens
  base : Un X.fs X.ex X.H₀ H X.s₀.heap s.heap
  loc : ∃ m, s.heap.Ns X.env.locals m ∧ ∀ (i : Nat) (x : Str) (v : V), X.N[i]? = some x → σ[i]? = some (some v) → Vis X.env.scope x → ∃ u, RelV v u ∧ Look X.env s.heap m x u
  cell : ∀ x c, X.env.cells.lookup x = some c → ∃ v, s.heap.IsCell c v
  free : H X.env.locals = none
  freeC : ∀ x c, X.env.cells.lookup x = some c → H c = none
  pin : ∀ p ∈ X.pn ++ pins, s.heap.get? p.1 = some p.2 ∧ H p.1 = none ∧ p.1 ≠ X.env.locals ∧ p.1 ∉ X.fs ∧ ∀ v, p.2.data ≠ .cell v
  hok : HOk X.prog X.w H s.heap
  len : σ.length = X.N.length

section
variable {X : Cx} {pins : List (Addr × Obj)} {σ : List (Option V)} {H H' : Hp} {s : Shared} {h' : Heap}

theorem Cx.Ok.nofr (ok : X.Ok) {b : Addr} {o : Obj} (e : X.base.get? b = some o) : b ∉ X.fs := fun hb => by
  have := (ok.funs.mem hb).1
  rw [e] at this; cases this
theorem Inv.bs (I : Inv X pins σ H s) : ∀ b o, X.base.get? b = some o → s.heap.get? b = some o ∧ H b = none := fun b o e =>
  ⟨I.base.keep b o (I.ok.bs b o e).1 (I.ok.bs b o e).2 (I.ok.nofr e) (I.ok.noex b o e), I.base.free b o (I.ok.bs b o e).1 (I.ok.bs b o e).2 (I.ok.noex b o e)⟩
theorem Inv.bk (I : Inv X pins σ H s) : ∀ b o, X.base.get? b = some o → s.heap.get? b = some o := fun b o e => (I.bs b o e).1
theorem Inv.mod (I : Inv X pins σ H s) : Mod X.K X.mg X.base := I.ok.mod
theorem Inv.kIn (I : Inv X pins σ H s) : X.K.In s.heap := I.ok.mod.kin.keeps I.bk
theorem Inv.nolimit (I : Inv X pins σ H s) : s.heap.NoLimit := I.ok.mod.nolimit.keeps I.bk
/-- the frame over the base: for OpenK's rules (K.In X.base is I.mod.kin) -/
theorem Inv.fr (I : Inv X pins σ H s) : ∃ m, Fr X.base X.env.locals s.heap m :=
  let ⟨m, hn, _⟩ := I.loc
  ⟨m, hn, I.bk, Nat.le_trans I.ok.bsz I.ok.above⟩
theorem Inv.lt (I : Inv X pins σ H s) : X.env.locals < s.heap.objs.size := let ⟨_, hn, _⟩ := I.loc; hn.lt
theorem Inv.sz (I : Inv X pins σ H s) : X.s₀.heap.objs.size ≤ s.heap.objs.size := Nat.le_trans I.ok.above (Nat.le_of_lt I.lt)
theorem Inv.nofs (I : Inv X pins σ H s) {a : Addr} (h : s.heap.objs.size ≤ a) : a ∉ X.fs := fun hb => by
  obtain ⟨_, o, ho, _⟩ := I.ok.funs.mem hb
  exact absurd (Nat.lt_of_lt_of_le (Heap.lt_size ho) (Nat.le_trans I.sz h)) (Nat.lt_irrefl _)
theorem Inv.cne (I : Inv X pins σ H s) : ∀ x c, X.env.cells.lookup x = some c → c ≠ X.env.locals := fun x c e z => by
  obtain ⟨v, o, ho, hd⟩ := I.cell x c e
  obtain ⟨m, ⟨o', es, ep, ho', hd', _⟩, _⟩ := I.loc
  rw [z, ho'] at ho; cases ho; rw [hd'] at hd; cases hd
theorem Inv.funs (I : Inv X pins σ H s) : s.heap.FunFrames X.base X.outer := by
  have all : ∀ (l : List Env), (∀ b ∈ frs l, b ∈ X.fs) → X.s₀.heap.FunFrames X.base l → s.heap.FunFrames X.base l := by
    intro l
    induction l with
    | nil => intro _ _; trivial
    | cons env r ih =>
      intro hs hl
      obtain ⟨hk, ⟨L, o, hf, hn, ho, hd⟩, hr⟩ := hl
      have hL : L ∈ X.fs := hs L (by unfold frs; rw [List.filterMap_cons, hf]; exact List.mem_cons_self)
      obtain ⟨sl, e⟩ := I.base.slot L o ho (I.ok.frf L hL) hL fun z => I.ok.exfs L z hL
      exact ⟨hk, ⟨L, _, hf, hn, e, hd⟩, ih (fun b hb => hs b (by unfold frs; rw [List.filterMap_cons, hf]; exact List.mem_cons_of_mem _ hb)) hr⟩
  exact all X.outer (fun _ hb => hb) I.ok.funs

/-- the frames that run, for a call -/
theorem Inv.stack (I : Inv X pins σ H s) : s.heap.FunFrames X.base X.stack := by
  rcases I.ok.stk with e | ⟨e, hf⟩
  · rw [e]; exact I.funs
  · rw [e]
    obtain ⟨m, hn, _⟩ := I.loc
    refine .cons (by rw [I.ok.kind]; decide) hf hn ?_ I.funs
    exact Heap.get?_none_of_le (Nat.le_trans I.ok.bsz I.ok.above)
theorem Inv.stkSub (I : Inv X pins σ H s) : ∀ b ∈ frs X.stack, b ∈ X.env.locals :: X.fs := fun b hb => by
  rcases I.ok.stk with e | ⟨e, hf⟩
  · rw [e] at hb; exact List.mem_cons_of_mem _ hb
  · rw [e] at hb
    unfold frs at hb
    rw [List.filterMap_cons, hf] at hb
    exact hb
theorem Inv.stkFree (I : Inv X pins σ H s) : ∀ b ∈ frs X.stack, H b = none := fun b hb => by
  rcases List.mem_cons.mp (I.stkSub b hb) with e | hb
  · rw [e]; exact I.free
  · obtain ⟨_, o, ho, _⟩ := I.ok.funs.mem hb
    exact I.base.free b o ho (I.ok.frf b hb) fun z => I.ok.exfs b z hb

/-- THE STEP: the untracked objects but the frame and the records at ch are kept (the callers' frames up to slots), the frame's map is kept, the new abstract heap is held -/
theorem Inv.step {g' : Array GenState} {t' : Nat} {d' : Drawn} {ch : List Addr} (I : Inv X pins σ H s)
    (hch : ∀ b ∈ ch, (b ∈ X.ex ∨ X.s₀.heap.objs.size ≤ b) ∧ b ≠ X.env.locals ∧ (∀ x c, X.env.cells.lookup x = some c → c ≠ b) ∧ ∀ p ∈ X.pn ++ pins, p.1 ≠ b)
    (keep : ∀ b o, b ≠ X.env.locals → b ∉ X.fs → b ∉ ch → s.heap.get? b = some o → H b = none → h'.get? b = some o)
    (slot : ∀ b o, b ≠ X.env.locals → b ∈ X.fs → b ∉ ch → s.heap.get? b = some o → H b = none → ∃ sl, h'.get? b = some { o with slots := sl }) (free : ∀ b o, b ∉ ch → s.heap.get? b = some o → H b = none → H' b = none)
    (there : ∀ b o, b ∉ ch → s.heap.get? b = some o → ∃ o', h'.get? b = some o')
    (tups : ∀ b xs, H b = some (.tup xs) → H' b = some (.tup xs)) (frzs : ∀ b o u, H b = some (.frz o u) → H' b = some (.frz o u)) (tbls : ∀ b ps, H b = some (.tbl ps) → ∃ more, H' b = some (.tbl (ps ++ more)))
    (ns : ∀ m, s.heap.Ns X.env.locals m → h'.Ns X.env.locals m) (hok : HOk X.prog X.w H' h') (hg : AllBare g') :
    Inv X pins σ H' { s with heap := h', gens := g', drawn := d', toks := t' } := by
  have neL : ∀ b o, X.s₀.heap.get? b = some o → b ≠ X.env.locals := fun b o e => Nat.ne_of_lt (Nat.lt_of_lt_of_le (Heap.lt_size e) I.ok.above)
  have neC : ∀ b o, X.s₀.heap.get? b = some o → b ∉ X.ex → b ∉ ch := fun b o e hx hb => by
    rcases (hch b hb).1 with z | z
    · exact hx z
    · exact absurd (Nat.lt_of_lt_of_le (Heap.lt_size e) z) (Nat.lt_irrefl _)
  have cellK : ∀ x c, X.env.cells.lookup x = some c → ∀ v, s.heap.IsCell c v → h'.IsCell c v := fun x c e v ⟨o, ho, hd⟩ => by
    have nch : c ∉ ch := fun z => (hch c z).2.2.1 x c e rfl
    by_cases hc : c ∈ X.fs
    · obtain ⟨sl, q⟩ := slot c o (I.cne x c e) hc nch ho (I.freeC x c e)
      exact ⟨_, q, hd⟩
    · exact ⟨o, keep c o (I.cne x c e) hc nch ho (I.freeC x c e), hd⟩
  refine ⟨I.ok, I.os, hg, ⟨fun b o e n hb hx => ?_, fun b o e n hb hx => ?_, fun b o e n hx => ?_, fun b o e hx => ?_, fun b xs e => tups b xs (I.base.tups b xs e), fun b o xs e => frzs b o xs (I.base.frzs b o xs e), fun b ps e => ?_⟩, ?_, fun x c e => ?_, ?_, fun x c e => ?_, fun p hp => ?_, hok, I.len⟩
  · exact keep b o (neL b o e) hb (neC b o e hx) (I.base.keep b o e n hb hx) (I.base.free b o e n hx)
  · obtain ⟨sl, e1⟩ := I.base.slot b o e n hb hx
    obtain ⟨sl', e2⟩ := slot b _ (neL b o e) hb (neC b o e hx) e1 (I.base.free b o e n hx)
    exact ⟨sl', e2⟩
  · obtain ⟨o', e1⟩ := I.base.there b o e hx
    exact free b o' (neC b o e hx) e1 (I.base.free b o e n hx)
  · obtain ⟨o', e1⟩ := I.base.there b o e hx
    exact there b o' (neC b o e hx) e1
  · obtain ⟨m1, e1⟩ := I.base.tbls b ps e
    obtain ⟨m2, e2⟩ := tbls b _ e1
    exact ⟨m1 ++ m2, by rw [e2, Array.append_assoc]⟩
  · obtain ⟨m, hn, hl⟩ := I.loc
    refine ⟨m, ns m hn, fun i x v e1 e2 e3 => ?_⟩
    obtain ⟨u, r, l⟩ := hl i x v e1 e2 e3
    refine ⟨u, r, ?_⟩
    rcases l with l | ⟨k, c, e, z⟩
    · exact .inl l
    · exact .inr ⟨k, c, e, cellK x c e _ z⟩
  · obtain ⟨v, z⟩ := I.cell x c e
    exact ⟨v, cellK x c e v z⟩
  · obtain ⟨m, ⟨o, _, _, ho, _⟩, _⟩ := I.loc
    exact free _ o (fun z => (hch _ z).2.1 rfl) ho I.free
  · obtain ⟨v, o, ho, hd⟩ := I.cell x c e
    exact free c o (fun z => (hch c z).2.2.1 x c e rfl) ho (I.freeC x c e)
  · obtain ⟨e, n, ne, nf, d⟩ := I.pin p hp
    have nch : p.1 ∉ ch := fun z => (hch p.1 z).2.2.2 p hp rfl
    exact ⟨keep p.1 p.2 ne nf nch e n, free p.1 p.2 nch e n, ne, nf, d⟩
/-- .. where the frame's own object is kept too -/
theorem Inv.un {t' : Nat} (I : Inv X pins σ H s) (u : Un X.fs [] H H' s.heap h') (hok : HOk X.prog X.w H' h') : Inv X pins σ H' { s with heap := h', toks := t' } := by
  obtain ⟨m, ⟨o, es, ep, ho, r⟩, _⟩ := id I.loc
  obtain ⟨sl, hL⟩ := u.any ho I.free (by simp)
  exact I.step (g' := s.gens) (d' := s.drawn) (ch := []) (fun _ z => nomatch z) (fun b o _ hb _ e n => u.keep b o e n hb (by simp)) (fun b o _ hb _ e n => u.slot b o e n hb (by simp)) (fun b o _ e n => u.free b o e n (by simp)) (fun b o _ e => u.there b o e (by simp)) u.tups u.frzs u.tbls (fun m' hm => by
    obtain ⟨o', es', ep', ho', r'⟩ := hm
    rw [ho] at ho'; cases ho'
    exact ⟨_, es', ep', hL, r'⟩) hok I.bare
/-- behind a call (or a comprehension's block): the slots of this frame may have changed too, the records at ch may have turned -/
theorem Inv.call {g' : Array GenState} {t' : Nat} {d' : Drawn} {ch : List Addr} (I : Inv X pins σ H s) (u : Un (frs X.stack) ch H H' s.heap h') (hok : HOk X.prog X.w H' h') (hg : AllBare g')
    (hch : ∀ b ∈ ch, (b ∈ X.ex ∨ X.s₀.heap.objs.size ≤ b) ∧ b ≠ X.env.locals ∧ (∀ x c, X.env.cells.lookup x = some c → c ≠ b) ∧ ∀ p ∈ X.pn ++ pins, p.1 ≠ b) :
    Inv X pins σ H' { s with heap := h', gens := g', drawn := d', toks := t' } := by
  obtain ⟨m, ⟨o, es, ep, ho, r⟩, _⟩ := id I.loc
  obtain ⟨sl, hL⟩ := u.any ho I.free fun z => (hch _ z).2.1 rfl
  exact I.step (ch := ch) hch (fun b o hL hb hc e n => u.keep b o e n (fun z => (List.mem_cons.mp (I.stkSub b z)).elim hL hb) hc) (fun b o _ _ hc e n => u.any e n hc) (fun b o hc e n => u.free b o e n hc) (fun b o hc e => u.there b o e hc) u.tups u.frzs u.tbls (fun m' hm => by
    obtain ⟨o', es', ep', ho', r'⟩ := hm
    rw [ho] at ho'; cases ho'
    exact ⟨_, es', ep', hL, r'⟩) hok hg
/-- an untracked record of ours (an iterator) has turned -/
theorem Inv.turned {t' : Nat} {it : Addr} (I : Inv X pins σ H s) (k : ∀ b o, b ≠ it → s.heap.get? b = some o → h'.get? b = some o) (hn : H it = none) (hL : it ≠ X.env.locals)
    (h1 : it ∈ X.ex ∨ X.s₀.heap.objs.size ≤ it) (h2 : ∀ x c, X.env.cells.lookup x = some c → c ≠ it) (h3 : ∀ p ∈ X.pn ++ pins, p.1 ≠ it) : Inv X pins σ H { s with heap := h', toks := t' } := by
  have nit : ∀ b u, H b = some u → b ≠ it := fun b u e z => by rw [z, hn] at e; cases e
  refine I.step (g' := s.gens) (d' := s.drawn) (ch := [it]) (fun b hb => ?_) (fun b o _ _ hc e _ => k b o (fun z => hc (by simp [z])) e) (fun b o _ _ hc e _ => ⟨o.slots, k b o (fun z => hc (by simp [z])) e⟩) (fun _ _ _ _ n => n)
    (fun b o hc e => ⟨o, k b o (fun z => hc (by simp [z])) e⟩) (fun _ _ e => e) (fun _ _ _ e => e) (fun b ps e => ⟨#[], by rw [e]; simp⟩) (fun m hm => ?_) (fun b u e => ?_) I.bare
  · have e : b = it := by simpa using hb
    subst e
    exact ⟨h1, hL, h2, h3⟩
  · obtain ⟨o, es, ep, ho, r⟩ := hm
    exact ⟨o, es, ep, k _ o (Ne.symm hL) ho, r⟩
  · refine (I.hok b u e).stay (fun c v hc q => k c v ?_ q) (fun _ q => q) fun _ _ q => q
    rcases hc with z | z
    · rw [z]; exact nit b u e
    · exact nit c _ z
theorem Inv.tok (I : Inv X pins σ H s) (t : Nat) : Inv X pins σ H { s with toks := t } := I.un (h' := s.heap) (t' := t) Un.refl I.hok
/-- all objects kept -/
theorem Inv.kept {t' : Nat} (I : Inv X pins σ H s) (k : ∀ b u, s.heap.get? b = some u → h'.get? b = some u) : Inv X pins σ H { s with heap := h', toks := t' } := I.un (Un.kept k) (I.hok.kept k)
/-- a new object laid and tracked -/
theorem Inv.laid {a : Addr} {o : HO} {t' : Nat} (I : Inv X pins σ H s) (k : ∀ b u, s.heap.get? b = some u → h'.get? b = some u) (hp : s.heap.objs.size ≤ a) (new : ObjOk X.prog X.w (upd H a o) h' a o) :
    Inv X pins σ (upd H a o) { s with heap := h', toks := t' } := I.un (Un.laid k hp (I.hok.fresh hp)) (I.hok.laid k hp new)
/-- an object written -/
theorem Inv.write {x e : Addr} {o : HO} {t' : Nat} (I : Inv X pins σ H s) (mu : Mut (H x)) (he : e = x ∨ H e = some (.own x)) (k : ∀ b u, b ≠ e → s.heap.get? b = some u → h'.get? b = some u) (heo : ∃ u, h'.get? e = some u)
    (new : ObjOk X.prog X.w (upd H x o) h' x o) : Inv X pins σ (upd H x o) { s with heap := h', toks := t' } := I.un (Un.write mu he k heo) (I.hok.write mu he k heo new)
/-- forgetting slots, pins -/
theorem Inv.weak {σ' : List (Option V)} (I : Inv X pins σ H s) (hl : σ'.length = σ.length) (w : ∀ (i : Nat) v, σ'[i]? = some (some v) → σ[i]? = some (some v)) : Inv X pins σ' H s :=
  ⟨I.ok, I.os, I.bare, I.base, let ⟨m, hn, hl'⟩ := I.loc; ⟨m, hn, fun i x v e1 e2 e3 => hl' i x v e1 (w i v e2) e3⟩, I.cell, I.free, I.freeC, I.pin, I.hok, hl.trans I.len⟩
theorem Inv.pins_of {pins' : List (Addr × Obj)} (I : Inv X pins σ H s) (h : ∀ p ∈ pins', s.heap.get? p.1 = some p.2 ∧ H p.1 = none ∧ p.1 ≠ X.env.locals ∧ p.1 ∉ X.fs ∧ ∀ v, p.2.data ≠ .cell v) : Inv X pins' σ H s :=
  ⟨I.ok, I.os, I.bare, I.base, I.loc, I.cell, I.free, I.freeC, fun p hp => (List.mem_append.mp hp).elim (fun z => I.pin p (List.mem_append_left _ z)) (h p), I.hok, I.len⟩

theorem nodup_ix {N : List Str} (hN : N.Nodup) {i j : Nat} {x : Str} (a : N[i]? = some x) (b : N[j]? = some x) : i = j := by
  obtain ⟨h1, e1⟩ := List.getElem?_eq_some_iff.mp a
  obtain ⟨h2, e2⟩ := List.getElem?_eq_some_iff.mp b
  exact (List.getElem_inj hN).mp (e1.trans e2.symm)

/-- a name is stored; what changed -/
theorem store_ok2 {M : Model} {A : Around} {E : Value → Shared → Prop} {i : Nat} {x : Str} {v : V} {u : Value} {Q : Unit → Shared → Prop} (I : Inv X pins σ H s) (hN : X.N.Nodup) (hi : X.N[i]? = some x) (hx : Loc X.env.scope x) (r : RelV v u)
    (h : ∀ s', Inv X pins (σ.set i (some v)) H s' → (∃ a, Heap.SameBut a s.heap s'.heap ∧ (a = X.env.locals ∨ X.env.cells.lookup x = some a)) → Q () s') (hf : X.fn x = true ∨ X.env.scope.names.lookup x = some .local := by first | exact .inl rfl | exact .inr rfl | assumption) : wpAny M A (storeName X.env x u) Q E s := by
  obtain ⟨m, hn, hl⟩ := id I.loc
  have hcls : (X.env.scope.kind == .class || (X.env.scope.kind == .module && X.env.locals != X.env.globals)) = false := by rw [I.ok.kind]; rfl
  have hiσ : i < σ.length := by rw [I.len]; exact (List.getElem?_eq_some_iff.mp hi).1
  have cne := I.cne
  have tracked : ∀ {a : Addr} {h' : Heap}, (∃ o, s.heap.get? a = some o ∧ H a = none) → Heap.SameBut a s.heap h' → HOk X.prog X.w H h' := fun {a h'} ha hs b ob e => by
    obtain ⟨_, _, hfree⟩ := ha
    refine (I.hok b ob e).stay (fun c w' hc q => (hs.2 c ?_).trans q) (fun _ q => q) fun _ _ q => q
    rintro rfl
    rcases hc with rfl | hc
    · rw [hfree] at e; cases e
    · rw [hfree] at hc; cases hc
  rcases hx with hk | hk
  · refine wpAny_storeName_local hk hn (fun h' hn' hs => ?_) hcls
    obtain ⟨oL, _, _, hoL, _⟩ := id hn
    refine h _ ⟨I.ok, I.os, I.bare, ⟨fun b o e n hb hx => ?_, fun b o e n hb hx => ?_, I.base.free, fun b o e hx => ?_, I.base.tups, I.base.frzs, I.base.tbls⟩, ⟨_, hn', fun j y v' e1 e2 e3 => ?_⟩, fun y c e => ?_, I.free, I.freeC, fun p hp => ?_, tracked ⟨oL, hoL, I.free⟩ hs, by simpa using I.len⟩ ⟨_, hs, .inl rfl⟩
    · exact (hs.2 b (Nat.ne_of_lt (Nat.lt_of_lt_of_le (Heap.lt_size e) I.ok.above))).trans (I.base.keep b o e n hb hx)
    · obtain ⟨sl, e1⟩ := I.base.slot b o e n hb hx
      exact ⟨sl, (hs.2 b (Nat.ne_of_lt (Nat.lt_of_lt_of_le (Heap.lt_size e) I.ok.above))).trans e1⟩
    · obtain ⟨o', e1⟩ := I.base.there b o e hx
      exact ⟨o', (hs.2 b (Nat.ne_of_lt (Nat.lt_of_lt_of_le (Heap.lt_size e) I.ok.above))).trans e1⟩
    · by_cases hj : j = i
      · subst hj
        rw [hi] at e1; cases e1
        rw [List.getElem?_set_self hiσ] at e2
        cases e2
        exact ⟨u, r, .inl ⟨hk, by simp⟩⟩
      · rw [List.getElem?_set_ne (Ne.symm hj)] at e2
        obtain ⟨u', r', q⟩ := hl j y v' e1 e2 e3
        refine ⟨u', r', ?_⟩
        rcases q with ⟨k, e⟩ | ⟨k, c, e, z⟩
        · refine .inl ⟨k, ?_⟩
          have : y ≠ x := fun e => hj (nodup_ix hN e1 (e ▸ hi))
          simp [this, e]
        · exact .inr ⟨k, c, e, z.sameBut hs (cne y c e)⟩
    · obtain ⟨w', z⟩ := I.cell y c e
      exact ⟨w', z.sameBut hs (cne y c e)⟩
    · obtain ⟨e, n, ne, nf, d⟩ := I.pin p hp
      exact ⟨(hs.2 p.1 ne).trans e, n, ne, nf, d⟩
  · have hfn : X.fn x = true := by
      rcases hf with z | z
      · exact z
      · rw [z] at hk; cases hk
    obtain ⟨c, hc⟩ := I.ok.has x (.inl hk)
    obtain ⟨w', z⟩ := I.cell x c hc
    refine wpAny_storeName_cell I.ok.kind hk hc z (fun h' hc' hs => ?_)
    obtain ⟨oc, hoc, hocd⟩ := id z
    refine h { s with heap := h' } ⟨I.ok, I.os, I.bare, ⟨fun b o e n hb hx => ?_, fun b o e n hb hx => ?_, I.base.free, fun b o e hx => ?_, I.base.tups, I.base.frzs, I.base.tbls⟩, ⟨m, hn.sameBut hs (Ne.symm (cne x c hc)), fun j y v' e1 e2 e3 => ?_⟩, fun y c' e => ?_, I.free, I.freeC, fun p hp => ?_, tracked ⟨oc, hoc, I.freeC x c hc⟩ hs, by simpa using I.len⟩ ⟨c, hs, .inr hc⟩
    · exact (hs.2 b (Nat.ne_of_lt (Nat.lt_of_lt_of_le (Heap.lt_size e) (I.ok.cab x c hfn hc)))).trans (I.base.keep b o e n hb hx)
    · obtain ⟨sl, e1⟩ := I.base.slot b o e n hb hx
      exact ⟨sl, (hs.2 b (Nat.ne_of_lt (Nat.lt_of_lt_of_le (Heap.lt_size e) (I.ok.cab x c hfn hc)))).trans e1⟩
    · obtain ⟨o', e1⟩ := I.base.there b o e hx
      exact ⟨o', (hs.2 b (Nat.ne_of_lt (Nat.lt_of_lt_of_le (Heap.lt_size e) (I.ok.cab x c hfn hc)))).trans e1⟩
    · by_cases hj : j = i
      · subst hj
        rw [hi] at e1; cases e1
        rw [List.getElem?_set_self hiσ] at e2
        cases e2
        exact ⟨u, r, .inr ⟨.inl hk, c, hc, hc'⟩⟩
      · rw [List.getElem?_set_ne (Ne.symm hj)] at e2
        obtain ⟨u', r', q⟩ := hl j y v' e1 e2 e3
        refine ⟨u', r', ?_⟩
        rcases q with q | ⟨k, c', e, z'⟩
        · exact .inl q
        · refine .inr ⟨k, c', e, z'.sameBut hs ?_⟩
          rintro rfl
          exact hj (nodup_ix hN e1 (I.ok.inj _ _ _ e hc ▸ hi))
    · by_cases hcc : c' = c
      · subst hcc; exact ⟨_, hc'⟩
      · obtain ⟨w2, z2⟩ := I.cell y c' e
        exact ⟨w2, z2.sameBut hs hcc⟩
    · obtain ⟨e, n, ne, nf, d⟩ := I.pin p hp
      refine ⟨(hs.2 p.1 ?_).trans e, n, ne, nf, d⟩
      intro q
      rw [q, hoc] at e
      have q' : oc = p.2 := Option.some.inj e
      exact d w' (by rw [← q']; exact hocd)
theorem store_ok {M : Model} {A : Around} {E : Value → Shared → Prop} {i : Nat} {x : Str} {v : V} {u : Value} {Q : Unit → Shared → Prop} (I : Inv X pins σ H s) (hN : X.N.Nodup) (hi : X.N[i]? = some x) (hx : Loc X.env.scope x) (r : RelV v u)
    (h : ∀ s', Inv X pins (σ.set i (some v)) H s' → Q () s') (hf : X.fn x = true ∨ X.env.scope.names.lookup x = some .local := by first | exact .inl rfl | exact .inr rfl | assumption) : wpAny M A (storeName X.env x u) Q E s :=
  store_ok2 I hN hi hx r (fun s' I' _ => h s' I') hf
/-- behind a call or a block, the state as it is -/
theorem Inv.call' {s' : Shared} {ch : List Addr} (I : Inv X pins σ H s) (ho : s'.os = s.os) (u : Un (frs X.stack) ch H H' s.heap s'.heap) (hok : HOk X.prog X.w H' s'.heap) (hg : AllBare s'.gens)
    (hch : ∀ b ∈ ch, (b ∈ X.ex ∨ X.s₀.heap.objs.size ≤ b) ∧ b ≠ X.env.locals ∧ (∀ x c, X.env.cells.lookup x = some c → c ≠ b) ∧ ∀ p ∈ X.pn ++ pins, p.1 ≠ b) : Inv X pins σ H' s' := by
  obtain ⟨h', g', d', t', o'⟩ := s'
  have e : o' = s.os := ho
  subst e
  exact I.call (g' := g') (t' := t') (d' := d') u hok hg hch
end

/-! ### the judgements -/
/-- an exception: its class, its own dict's address (where it has one), the abstract heap behind it -/
abbrev XK := Value → Option Addr → Hp → Prop
abbrev St := List (Option V)
abbrev VK := V → Hp → Prop
/-- an expression's reading; a test's; an argument list's -/
abbrev TE := St → Hp → VK → Prop
abbrev TT := St → Hp → (Bool → Hp → Prop) → Prop
abbrev TA := St → Hp → (List V → Hp → Prop) → Prop
/-- what is wanted behind a statement -/
structure Ends where
  nx : St → Hp → Prop
  rt : VK
  bk : St → Hp → Prop := fun _ _ => False
  ct : St → Hp → Prop := fun _ _ => False
abbrev TS := Ends → St → Hp → Prop

def EP (X : Cx) (pins : List (Addr × Obj)) (σ : St) (Q : VK) (u : Value) (s' : Shared) : Prop := ∃ v H', Inv X pins σ H' s' ∧ RelV v u ∧ Q v H'
def TP (X : Cx) (pins : List (Addr × Obj)) (σ : St) (Q : Bool → Hp → Prop) (b : Bool) (s' : Shared) : Prop := ∃ H', Inv X pins σ H' s' ∧ Q b H'
def AP (X : Cx) (pins : List (Addr × Obj)) (σ : St) (Q : List V → Hp → Prop) (us : List Value) (s' : Shared) : Prop := ∃ vs H', Inv X pins σ H' s' ∧ Vals vs us ∧ Q vs H'
def SP (X : Cx) (pins : List (Addr × Obj)) (D : Ends) (f : Flow) (s' : Shared) : Prop :=
  match f with
  | .next => ∃ σ' H', Inv X pins σ' H' s' ∧ D.nx σ' H'
  | .brk => ∃ σ' H', Inv X pins σ' H' s' ∧ D.bk σ' H'
  | .cont => ∃ σ' H', Inv X pins σ' H' s' ∧ D.ct σ' H'
  | .ret u => ∃ v σ' H', Inv X pins σ' H' s' ∧ RelV v u ∧ D.rt v H'

def PE (X : Cx) (e : Expr) (t : TE) : Prop :=
  ∀ (pins : List (Addr × Obj)) (s : Shared) (σ : St) (H : Hp) (Q : VK), Inv X pins σ H s → t σ H Q → wpAny (model X.prog X.w) X.A (eval e X.env) (EP X pins σ Q) X.xe s
def PT (X : Cx) (e : Expr) (t : TT) : Prop :=
  ∀ (pins : List (Addr × Obj)) (s : Shared) (σ : St) (H : Hp) (Q : Bool → Hp → Prop), Inv X pins σ H s → t σ H Q → wpAny (model X.prog X.w) X.A (isTrue e X.env (eval e X.env)) (TP X pins σ Q) X.xe s
/-- a test whatever its 'whole' is (and, or) -/
def PW (X : Cx) (e : Expr) (t : TT) : Prop :=
  ∀ (whole : Sem Value) (pins : List (Addr × Obj)) (s : Shared) (σ : St) (H : Hp) (Q : Bool → Hp → Prop), Inv X pins σ H s → t σ H Q → wpAny (model X.prog X.w) X.A (isTrue e X.env whole) (TP X pins σ Q) X.xe s
theorem PW.pt {X : Cx} {e : Expr} {t : TT} (h : PW X e t) : PT X e t := h _
/-- an argument list (no star), from the left -/
def PA (X : Cx) (es : List Expr) (t : TA) : Prop :=
  ∀ (pos : Pos) (pins : List (Addr × Obj)) (s : Shared) (σ : St) (H : Hp) (Q : List V → Hp → Prop), Inv X pins σ H s → t σ H Q → wpAny (model X.prog X.w) X.A (spliced (backTo pos (starEach es X.env))) (AP X pins σ Q) X.xe s
def PS (X : Cx) (st : Stmt) (t : TS) : Prop :=
  ∀ (pins : List (Addr × Obj)) (s : Shared) (σ : St) (H : Hp) (D : Ends), Inv X pins σ H s → t D σ H → wpAny (model X.prog X.w) X.A (exec st X.env) (SP X pins D) X.xe s
def PSs (X : Cx) (st : List Stmt) (t : TS) : Prop :=
  ∀ (pins : List (Addr × Obj)) (s : Shared) (σ : St) (H : Hp) (D : Ends), Inv X pins σ H s → t D σ H → wpAny (model X.prog X.w) X.A (execs st X.env) (SP X pins D) X.xe s
/-- weaken the end -/
theorem thn {α : Type} {t : Sem α} {Q Q' : α → Shared → Prop} {M : Model} {A : Around} {E : Value → Shared → Prop} {s : Shared} (h : wpAny M A t Q E s) (hQ : ∀ a s, Q a s → Q' a s) : wpAny M A t Q' E s := wpAny_mono h hQ fun _ _ x => x
end L2

namespace L2
open PySem PySem.Spec PyProof.Rows
section
variable {X : Cx}

/-- two expressions in a row -/
theorem bin {a b : Expr} {ta tb : TE} (ha : PE X a ta) (hb : PE X b tb) {pins : List (Addr × Obj)} {s : Shared} {σ : St} {H : Hp} {R : V → V → Hp → Prop} (I : Inv X pins σ H s) (h : ta σ H fun x H1 => tb σ H1 fun y H2 => R x y H2)
    {α : Type} {Q : α → Shared → Prop} {f : Value → Value → Sem α}
    (hf : ∀ v u s2 x y H2, Inv X pins σ H2 s2 → RelV x v → RelV y u → R x y H2 → wpAny (model X.prog X.w) X.A (f v u) Q X.xe s2) :
    wpAny (model X.prog X.w) X.A (eval a X.env) (fun v s₁ => wpAny (model X.prog X.w) X.A (eval b X.env) (fun u s₂ => wpAny (model X.prog X.w) X.A (f v u) Q X.xe s₂) X.xe s₁) X.xe s := by
  refine thn (ha pins s σ H _ I h) fun v s1 ⟨x, H1, I1, r1, q1⟩ => ?_
  refine thn (hb pins s1 σ H1 _ I1 q1) fun u s2 ⟨y, H2, I2, r2, q2⟩ => ?_
  exact hf v u s2 x y H2 I2 r1 r2 q2

/-! ### names and constants -/
def tVar (i : Nat) : TE := fun σ H Q => ∃ v, σ[i]? = some (some v) ∧ Q v H
def tC (v : V) : TE := fun _ H Q => Q v H
theorem pe_var {i : Nat} {x : Str} {pos : Pos} (hN : X.N[i]? = some x) (hv : Vis X.env.scope x) (hd : (x == ("__debug__" : Str)) = false := by decide) (hcd : (x == ("__classdict__" : Str)) = false := by decide) : PE X (.Name x pos) (tVar i) := by
  intro pins s σ H Q I h
  obtain ⟨v, e, h⟩ := h
  obtain ⟨m, hn, hl⟩ := I.loc
  obtain ⟨u, r, l⟩ := hl i x v hN e hv
  have fin : EP X pins σ Q u s := ⟨v, H, I, r, h⟩
  rcases l with ⟨hk, hm⟩ | ⟨hk, c, hc, hcell⟩
  · exact wpAny_Name (wpAny_loadName_local I.ok.kind hk hn hm fin) hd
  · rcases hk with hk | hk
    · exact wpAny_Name (wpAny_loadName_cell I.ok.kind hk hc hcell fin) hd
    · exact wpAny_Name (wpAny_loadName_free I.ok.kind hk hc hcell fin hcd) hd
theorem pe_int {i j pos} : PE X (.Constant (.int i) j pos) (tC (.int i)) := fun _ _ _ H _ I h => wpAny_Constant_int ⟨.int i, H, I.tok _, ⟨_, rfl⟩, h⟩
theorem pe_bl {b j pos} : PE X (.Constant (.bool b) j pos) (tC (.bl b)) := fun _ _ _ H _ I h => Constant_bool ⟨.bl b, H, I, rfl, h⟩
theorem pe_non {j pos} : PE X (.Constant .none j pos) (tC .non) := fun _ _ _ H _ I h => Constant_none ⟨.non, H, I, rfl, h⟩
theorem pe_str {x j pos} : PE X (.Constant (.str x) j pos) (tC (.str x)) := fun _ _ _ H _ I h => Calls.Constant_str ⟨.str x, H, I.tok _, ⟨_, rfl⟩, h⟩

/-- a global name of the def -/
def Gl (X : Cx) (x : Str) : Prop := X.env.kindOf x = some .globalImplicit
theorem ld_glob {E : Value → Shared → Prop} {pins : List (Addr × Obj)} {s : Shared} {σ : St} {H : Hp} {x : Str} {u : Value} {pos : Pos} {Q : Value → Shared → Prop} (I : Inv X pins σ H s) (hg : Gl X x) (hm : X.mg x = some u) (h : Q u s)
    (hd : (x == ("__debug__" : Str)) = false := by decide) : wpAny (model X.prog X.w) X.A (eval (.Name x pos) X.env) Q E s :=
  Calls.Name_function_global I.ok.kind hg (Calls.loadGlobal_global (by rw [I.ok.glob]; exact I.mod.glob.keeps I.bk) hm h) hd
theorem ld_blt {E : Value → Shared → Prop} {pins : List (Addr × Obj)} {s : Shared} {σ : St} {H : Hp} {x : Str} {u : Value} {pos : Pos} {Q : Value → Shared → Prop} (I : Inv X pins σ H s) (hg : Gl X x) (hm : X.mg x = none) (hv : bootBuiltins x = some u) (h : Q u s)
    (hn : x ≠ "__name__" := by decide) (hd : (x == ("__debug__" : Str)) = false := by decide) : wpAny (model X.prog X.w) X.A (eval (.Name x pos) X.env) Q E s := by
  obtain ⟨mb, h1, h2⟩ := I.mod.blt
  exact Calls.Name_function_global I.ok.kind hg (Calls.loadGlobal_builtin (by rw [I.ok.glob]; exact I.mod.glob.keeps I.bk) hm (by rw [I.ok.blt]; exact h1.keeps I.bk) ((h2 x hn).trans hv) h) hd
/-- a module's constant, a class, a function, as a value -/
theorem pe_glob {x : Str} {v : V} {u : Value} {pos : Pos} (hg : Gl X x) (hm : X.mg x = some u) (r : RelV v u) (hd : (x == ("__debug__" : Str)) = false := by decide) : PE X (.Name x pos) (tC v) :=
  fun _ _ _ H _ I h => ld_glob I hg hm ⟨v, H, I, r, h⟩ hd
theorem pe_bltn {x : Str} {v : V} {u : Value} {pos : Pos} (hg : Gl X x) (hm : X.mg x = none) (hv : bootBuiltins x = some u) (r : RelV v u) (hn : x ≠ "__name__" := by decide) (hd : (x == ("__debug__" : Str)) = false := by decide) : PE X (.Name x pos) (tC v) :=
  fun _ _ _ H _ I h => ld_blt I hg hm hv ⟨v, H, I, r, h⟩ hn hd

/-! ### arithmetic -/
/-- two ints -/
def t2I (ta tb : TE) (k : Int → Int → Hp → Prop) : St → Hp → Prop := fun σ H => ta σ H fun x H1 => tb σ H1 fun y H2 => ∃ i j, x = .int i ∧ y = .int j ∧ k i j H2
def tAdd (ta tb : TE) : TE := fun σ H Q => t2I ta tb (fun i j H2 => Q (.int (i + j)) H2) σ H
def tSub (ta tb : TE) : TE := fun σ H Q => t2I ta tb (fun i j H2 => Q (.int (i - j)) H2) σ H
/-- the left factor below 2^64 -/
def tMul (ta tb : TE) : TE := fun σ H Q => t2I ta tb (fun i j H2 => (-(2 ^ 64) < i ∧ i < 2 ^ 64) ∧ Q (.int (i * j)) H2) σ H
variable {a b : Expr} {ta tb : TE} {pos : Pos}
theorem pe_add (ha : PE X a ta) (hb : PE X b tb) : PE X (.BinOp a .Add b pos) (tAdd ta tb) := by
  intro pins s σ H Q I h
  refine wpAny_BinOp (bin ha hb I h fun v u s2 x y H2 I2 rx ry q => ?_)
  obtain ⟨i, j, rfl, rfl, q⟩ := q
  obtain ⟨t, rfl⟩ := rx
  obtain ⟨t', rfl⟩ := ry
  exact add_int ⟨.int _, H2, I2.tok _, ⟨_, rfl⟩, q⟩
theorem pe_sub (ha : PE X a ta) (hb : PE X b tb) : PE X (.BinOp a .Sub b pos) (tSub ta tb) := by
  intro pins s σ H Q I h
  refine wpAny_BinOp (bin ha hb I h fun v u s2 x y H2 I2 rx ry q => ?_)
  obtain ⟨i, j, rfl, rfl, q⟩ := q
  obtain ⟨t, rfl⟩ := rx
  obtain ⟨t', rfl⟩ := ry
  exact sub_int ⟨.int _, H2, I2.tok _, ⟨_, rfl⟩, q⟩
theorem pe_mul (ha : PE X a ta) (hb : PE X b tb) : PE X (.BinOp a .Mult b pos) (tMul ta tb) := by
  intro pins s σ H Q I h
  refine wpAny_BinOp (bin ha hb I h fun v u s2 x y H2 I2 rx ry q => ?_)
  obtain ⟨i, j, rfl, rfl, ⟨q1, q2⟩, q⟩ := q
  obtain ⟨t, rfl⟩ := rx
  obtain ⟨t', rfl⟩ := ry
  exact mul_int ⟨.int _, H2, I2.tok _, ⟨_, rfl⟩, q⟩ (.of_left (intBits_le_64 q1 q2))

/-! ### comparisons -/
def PC (X : Cx) (op : CmpOp) (a b : Expr) (t : TE) : Prop :=
  ∀ (pins : List (Addr × Obj)) (s : Shared) (σ : St) (H : Hp) (Q : VK), Inv X pins σ H s → t σ H Q →
    wpAny (model X.prog X.w) X.A (eval a X.env) (fun v s₁ => wpAny (model X.prog X.w) X.A (eval b X.env) (fun u s₂ => wpAny (model X.prog X.w) X.A (compareOp op v u) (EP X pins σ Q) X.xe s₂) X.xe s₁) X.xe s
theorem nobehind (b : Expr) {op : CmpOp} (h : op ≠ .In) (h2 : op ≠ .NotIn) : behindInMarks op b = false := by
  have e1 : (op == CmpOp.In) = false := by cases op <;> first | rfl | exact absurd rfl h
  have e2 : (op == CmpOp.NotIn) = false := by cases op <;> first | rfl | exact absurd rfl h2
  cases b <;> simp [behindInMarks, e1, e2]
def tCmp (p : Int → Int → Bool) (ta tb : TE) : TE := fun σ H Q => t2I ta tb (fun i j H2 => Q (.bl (p i j)) H2) σ H
abbrev tLt : TE → TE → TE := tCmp fun i j => decide (i < j)
abbrev tLe : TE → TE → TE := tCmp fun i j => decide (i ≤ j)
abbrev tGt : TE → TE → TE := tCmp fun i j => decide (j < i)
abbrev tGe : TE → TE → TE := tCmp fun i j => decide (j ≤ i)
abbrev tEqI : TE → TE → TE := tCmp fun i j => decide (i = j)
abbrev tNeI : TE → TE → TE := tCmp fun i j => !decide (i = j)
/-- a comparison of two ints, by its rule -/
theorem pc_int {op : CmpOp} {p : Int → Int → Bool} (ha : PE X a ta) (hb : PE X b tb)
    (rule : ∀ (i j : Int) (t u : Tok) (Q : Value → Shared → Prop) (s : Shared), Q (.bool (p i j)) s → wpAny (model X.prog X.w) X.A (compareOp op (.int i t) (.int j u)) Q X.xe s) : PC X op a b (tCmp p ta tb) := by
  intro pins s σ H Q I h
  refine bin ha hb I h fun v u s2 x y H2 I2 rx ry q => ?_
  obtain ⟨i, j, rfl, rfl, q⟩ := q
  obtain ⟨t, rfl⟩ := rx
  obtain ⟨t', rfl⟩ := ry
  exact rule i j t t' _ s2 ⟨.bl _, H2, I2, rfl, q⟩
theorem pc_lt (ha : PE X a ta) (hb : PE X b tb) : PC X .Lt a b (tLt ta tb) := pc_int ha hb fun _ _ _ _ _ _ h => lt_int h
theorem pc_le (ha : PE X a ta) (hb : PE X b tb) : PC X .LtE a b (tLe ta tb) := pc_int ha hb fun _ _ _ _ _ _ h => le_int h
theorem pc_gt (ha : PE X a ta) (hb : PE X b tb) : PC X .Gt a b (tGt ta tb) := pc_int ha hb fun _ _ _ _ _ _ h => gt_int h
theorem pc_ge (ha : PE X a ta) (hb : PE X b tb) : PC X .GtE a b (tGe ta tb) := pc_int ha hb fun _ _ _ _ _ _ h => ge_int h
theorem pc_eqI (ha : PE X a ta) (hb : PE X b tb) : PC X .Eq a b (tEqI ta tb) := pc_int ha hb fun _ _ _ _ _ _ h => eq_int (by rw [Bool.beq_eq_decide_eq]; exact h)
theorem pc_neI (ha : PE X a ta) (hb : PE X b tb) : PC X .NotEq a b (tNeI ta tb) := pc_int ha hb fun _ _ _ _ _ _ h => ne_int (by rw [bne, Bool.beq_eq_decide_eq]; exact h)
/-- is None -/
def tIsN (ta : TE) : TE := fun σ H Q => ta σ H fun x H1 => Q (.bl (decide (x = .non))) H1
def tNotN (ta : TE) : TE := fun σ H Q => ta σ H fun x H1 => Q (.bl (!decide (x = .non))) H1
theorem RelV.none_iff {x : V} {v : Value} (r : RelV x v) : (v == Value.none) = decide (x = .non) := by
  cases x with
  | non => cases r; rfl
  | bl _ => cases r; rfl
  | int _ => obtain ⟨t, rfl⟩ := r; rfl
  | str _ => obtain ⟨t, rfl⟩ := r; rfl
  | byt _ => obtain ⟨t, rfl⟩ := r; rfl
  | flt _ => obtain ⟨t, rfl⟩ := r; rfl
  | ref _ => cases r; rfl
  | ty _ => cases r; rfl
theorem pc_isN {j pos'} (ha : PE X a ta) : PC X .Is a (.Constant .none j pos') (tIsN ta) := by
  intro pins s σ H Q I h
  refine thn (ha pins s σ H _ I h) fun v s1 ⟨x, H1, I1, r1, q1⟩ => ?_
  exact Constant_none (is_none_gen ⟨.bl _, H1, I1, by rw [r1.none_iff]; rfl, q1⟩)
theorem pc_notN {j pos'} (ha : PE X a ta) : PC X .IsNot a (.Constant .none j pos') (tNotN ta) := by
  intro pins s σ H Q I h
  refine thn (ha pins s σ H _ I h) fun v s1 ⟨x, H1, I1, r1, q1⟩ => ?_
  exact Constant_none (isnot_none_gen ⟨.bl _, H1, I1, by rw [r1.none_iff]; rfl, q1⟩)
/-- a comparison as a value, as a test -/
def tB (t : TE) : TT := fun σ H Q => t σ H fun x H1 => ∃ c, x = .bl c ∧ Q c H1
theorem pe_cmp {op : CmpOp} {t : TE} (h : PC X op a b t) (h1 : behindInMarks op b = false := by first | exact nobehind _ (by decide) (by decide) | rfl) : PE X (.Compare a [op] [b] pos) t := fun pins s σ H Q I hw => wpAny_Compare1 (h pins s σ H Q I hw) h1
theorem pt_cmp {op : CmpOp} {t : TE} (h : PC X op a b t) (h1 : behindInMarks op b = false := by first | exact nobehind _ (by decide) (by decide) | rfl) : PT X (.Compare a [op] [b] pos) (tB t) := by
  intro pins s σ H Q I hw
  refine wpAny_isTrue_Compare1 (thn (h pins s σ H _ I hw) fun v s1 h1 => thn h1 fun u s2 h2 => thn h2 fun c s3 ⟨x, H1, I1, r1, q1⟩ => ?_) h1
  obtain ⟨d, rfl, q⟩ := q1
  cases r1
  exact wpAny_truthy_bool ⟨H1, I1, q⟩
/-- an expression whose value is a bool, as a test -/
theorem pt_val {e : Expr} {t : TE} (h : PE X e t) (he : ∀ whole, isTrue e X.env whole = (do let v ← whole; standAt e.pos; holding [v] (truthy v)) := by intro _; rfl) : PT X e (tB t) := by
  intro pins s σ H Q I hw
  refine isTrue_plain (thn (h pins s σ H _ I hw) fun v s1 ⟨x, H1, I1, r1, q1⟩ => ?_) (he _)
  obtain ⟨d, rfl, q⟩ := q1
  cases r1
  exact wpAny_truthy_bool ⟨H1, I1, q⟩

/-! ### and, or, not -/
variable {tA tB' : TT} {rest : List Expr}
def tAnd (t u : TT) : TT := fun σ H Q => t σ H fun c H1 => if c = true then u σ H1 Q else Q false H1
def tOr (t u : TT) : TT := fun σ H Q => t σ H fun c H1 => if c = true then Q true H1 else u σ H1 Q
def tNot (t : TT) : TT := fun σ H Q => t σ H fun c H1 => Q (!c) H1
theorem pw_and1 (ha : PT X a tA) : PW X (.BoolOp .And [a] pos) tA := by
  intro wh pins s σ H Q I h
  refine isTrue_and (thn (ha pins s σ H Q I h) fun c s1 e => ?_)
  cases c with
  | true => exact isTrue_and_nil e
  | false => exact e
theorem pw_or1 (ha : PT X a tA) : PW X (.BoolOp .Or [a] pos) tA := by
  intro wh pins s σ H Q I h
  refine isTrue_or (thn (ha pins s σ H Q I h) fun c s1 e => ?_)
  cases c with
  | false => exact isTrue_or_nil e
  | true => exact e
theorem pw_and (ha : PT X a tA) (hb : PW X (.BoolOp .And (b :: rest) pos) tB') : PW X (.BoolOp .And (a :: b :: rest) pos) (tAnd tA tB') := by
  intro wh pins s σ H Q I h
  refine isTrue_and (thn (ha pins s σ H _ I h) fun c s1 ⟨H1, I1, q1⟩ => ?_)
  cases c with
  | true => exact hb wh pins s1 σ H1 Q I1 q1
  | false => exact ⟨H1, I1, q1⟩
theorem pw_or (ha : PT X a tA) (hb : PW X (.BoolOp .Or (b :: rest) pos) tB') : PW X (.BoolOp .Or (a :: b :: rest) pos) (tOr tA tB') := by
  intro wh pins s σ H Q I h
  refine isTrue_or (thn (ha pins s σ H _ I h) fun c s1 ⟨H1, I1, q1⟩ => ?_)
  cases c with
  | true => exact ⟨H1, I1, q1⟩
  | false => exact hb wh pins s1 σ H1 Q I1 q1
theorem pt_not (ha : PT X a tA) : PT X (.UnaryOp .Not a pos) (tNot tA) := by
  intro pins s σ H Q I h
  exact isTrue_not (ha pins s σ H (fun c H1 => Q (!c) H1) I h)
/-- .. as values (bools) -/
def tAndV (ta tb : TE) : TE := fun σ H Q => ta σ H fun x H1 => ∃ c, x = .bl c ∧ if c = true then tb σ H1 Q else Q (.bl false) H1
def tOrV (ta tb : TE) : TE := fun σ H Q => ta σ H fun x H1 => ∃ c, x = .bl c ∧ if c = true then Q (.bl true) H1 else tb σ H1 Q
def tNotV (ta : TE) : TE := fun σ H Q => ta σ H fun x H1 => ∃ c, x = .bl c ∧ Q (.bl (!c)) H1
theorem pe_one {op} {t : TE} (h : PE X a t) : PE X (.BoolOp op [a] pos) t := fun pins s σ H Q I hw => BoolOp_one (h pins s σ H Q I hw)
theorem pe_and (ha : PE X a ta) (hb : PE X (.BoolOp .And (b :: rest) pos) tb) : PE X (.BoolOp .And (a :: b :: rest) pos) (tAndV ta tb) := by
  intro pins s σ H Q I h
  refine BoolOp_and (thn (ha pins s σ H _ I h) fun v s1 ⟨x, H1, I1, r1, q1⟩ => ?_)
  obtain ⟨c, rfl, q1⟩ := q1
  cases r1
  refine wpAny_truthy_bool ?_
  cases c with
  | true => exact hb pins s1 σ H1 Q I1 q1
  | false => exact ⟨.bl false, H1, I1, rfl, q1⟩
theorem pe_or (ha : PE X a ta) (hb : PE X (.BoolOp .Or (b :: rest) pos) tb) : PE X (.BoolOp .Or (a :: b :: rest) pos) (tOrV ta tb) := by
  intro pins s σ H Q I h
  refine BoolOp_or (thn (ha pins s σ H _ I h) fun v s1 ⟨x, H1, I1, r1, q1⟩ => ?_)
  obtain ⟨c, rfl, q1⟩ := q1
  cases r1
  refine wpAny_truthy_bool ?_
  cases c with
  | false => exact hb pins s1 σ H1 Q I1 q1
  | true => exact ⟨.bl true, H1, I1, rfl, q1⟩
theorem pe_not (ha : PE X a ta) : PE X (.UnaryOp .Not a pos) (tNotV ta) := by
  intro pins s σ H Q I h
  refine UnaryOp_ (thn (ha pins s σ H _ I h) fun v s1 ⟨x, H1, I1, r1, q1⟩ => ?_)
  obtain ⟨c, rfl, q1⟩ := q1
  cases r1
  exact not_of (wpAny_truthy_bool ⟨.bl (!c), H1, I1, rfl, q1⟩)
/-- a if t else b -/
def tIf (t : TT) (ta tb : TE) : TE := fun σ H Q => t σ H fun c H1 => if c = true then ta σ H1 Q else tb σ H1 Q
theorem pe_ifExp {c : Expr} (hc : PT X c tA) (ha : PE X a ta) (hb : PE X b tb) : PE X (.IfExp c a b pos) (tIf tA ta tb) := by
  intro pins s σ H Q I h
  refine wpAny_IfExp (thn (hc pins s σ H _ I h) fun d s1 ⟨H1, I1, q1⟩ => ?_)
  cases d with
  | true => exact ha pins s1 σ H1 Q I1 q1
  | false => exact hb pins s1 σ H1 Q I1 q1
end
end L2

namespace L2
open PySem PySem.Spec PyProof.Rows

/-! ### a list, a tuple that is read: tracked, frozen, or an object of the module -/
def SqL (K : PySem.W.Frag) (H : Hp) (a : Addr) (xs : List V) : Prop :=
  Rd H a (.lst xs) ∨
    ∃ (o : Obj) (its : Array Value) (n : Nat), K.lookup a = some o ∧ o.cls = .type "list" ∧ o.dict = none ∧ o.data = .seq its n ∧ its.size ≤ sizeLine ∧ Vals xs its.toList
def SqT (K : PySem.W.Frag) (H : Hp) (a : Addr) (xs : List V) : Prop :=
  Rd H a (.tup xs) ∨
    ∃ (o : Obj) (its : Array Value) (n : Nat), K.lookup a = some o ∧ o.cls = .type "tuple" ∧ o.data = .seq its n ∧ its.size ≤ sizeLine ∧ Vals xs its.toList
def absV : Value → Option V
  | .none => some .non
  | .bool b => some (.bl b)
  | .int i _ => some (.int i)
  | .str x _ => some (.str x)
  | .bytes b _ => some (.byt b)
  | .float b _ => some (.flt b)
  | .ref a => some (.ref a)
  | .type n => some (.ty n)
  | _ => none
theorem RelV.abs {x : V} {u : Value} (r : RelV x u) : absV u = some x := by
  cases x with
  | non => cases r; rfl
  | bl _ => cases r; rfl
  | int _ => obtain ⟨t, rfl⟩ := r; rfl
  | str _ => obtain ⟨t, rfl⟩ := r; rfl
  | byt _ => obtain ⟨t, rfl⟩ := r; rfl
  | flt _ => obtain ⟨t, rfl⟩ := r; rfl
  | ref _ => cases r; rfl
  | ty _ => cases r; rfl
theorem RelV.inj {x y : V} {u : Value} (r : RelV x u) (q : RelV y u) : x = y := Option.some.inj (r.abs.symm.trans q.abs)
theorem Vals.inj : ∀ {xs ys : List V} {us : List Value}, Vals xs us → Vals ys us → xs = ys
  | _, _, _, .nil, .nil => rfl
  | _, _, _, .cons r t, .cons r' t' => by rw [r.inj r', Vals.inj t t']
section
variable {X : Cx} {pins : List (Addr × Obj)} {σ : St} {H : Hp} {s : Shared} {a : Addr} {xs ys : List V}
theorem SqL.of {K : PySem.W.Frag} (h : H a = some (.lst xs)) : SqL K H a xs := .inl (.inl h)
theorem SqT.of {K : PySem.W.Frag} (h : H a = some (.tup xs)) : SqT K H a xs := .inl (.inl h)
theorem Inv.list (I : Inv X pins σ H s) (h : SqL X.K H a xs) : ∃ its : List Value, Vals xs its ∧ PlainL s.heap a its.toArray ∧ xs.length ≤ sizeLine := by
  rcases h with h | ⟨o, its, n, hk, hc, hd, hs, hz, r⟩
  · obtain ⟨z, its, n, r, e⟩ := h.ok I.hok
    exact ⟨its, r, ⟨_, n, e, rfl, rfl, rfl⟩, z⟩
  · refine ⟨its.toList, r, ⟨o, n, I.kIn a o hk, hc, hd, by simpa using hs⟩, ?_⟩
    have e := r.length
    simp only [Array.length_toList] at e
    omega
theorem Inv.tuple (I : Inv X pins σ H s) (h : SqT X.K H a xs) : ∃ its : List Value, Vals xs its ∧ IsTup s.heap a its.toArray ∧ xs.length ≤ sizeLine := by
  rcases h with h | ⟨o, its, n, hk, hc, hs, hz, r⟩
  · obtain ⟨z, its, r, p⟩ := h.ok I.hok
    exact ⟨its, r, p, z⟩
  · refine ⟨its.toList, r, ⟨o, I.kIn a o hk, hc, n, by simpa using hs⟩, ?_⟩
    have e := r.length
    simp only [Array.length_toList] at e
    omega
theorem Inv.list_inj (I : Inv X pins σ H s) (h : SqL X.K H a xs) (h' : SqL X.K H a ys) : xs = ys := by
  obtain ⟨its, r, ⟨o, n, e, _, _, d⟩, _⟩ := I.list h
  obtain ⟨its', r', ⟨o', n', e', _, _, d'⟩, _⟩ := I.list h'
  rw [e] at e'; cases e'
  rw [d] at d'
  injection d' with d1 _
  have : its = its' := by simpa using congrArg Array.toList d1
  subst this
  exact r.inj r'
theorem Inv.tuple_inj (I : Inv X pins σ H s) (h : SqT X.K H a xs) (h' : SqT X.K H a ys) : xs = ys := by
  obtain ⟨its, r, ⟨o, e, _, n, d⟩, _⟩ := I.tuple h
  obtain ⟨its', r', ⟨o', e', _, n', d'⟩, _⟩ := I.tuple h'
  rw [e] at e'; cases e'
  rw [d] at d'
  injection d' with d1 _
  have : its = its' := by simpa using congrArg Array.toList d1
  subst this
  exact r.inj r'
end

/-! ### another wish about exceptions -/
abbrev Cx.wish (X : Cx) (E : Value → Shared → Prop) : Cx := { X with xe := E }
/-- no exception leaves -/
abbrev Cx.nox (X : Cx) : Cx := X.wish fun _ _ => False
theorem Cx.Ok.wish {X : Cx} (ok : X.Ok) (E : Value → Shared → Prop) : (X.wish E).Ok :=
  ⟨ok.mod, ok.kind, ok.glob, ok.blt, ok.above, ok.inj, ok.has, ok.cab, ok.hd, ok.frames, ok.stk, ok.exf, ok.bs, ok.bsz, ok.noex, ok.exfs, ok.funs, ok.frf⟩
theorem Cx.Ok.unwish {X : Cx} {E : Value → Shared → Prop} (ok : (X.wish E).Ok) : X.Ok :=
  ⟨ok.mod, ok.kind, ok.glob, ok.blt, ok.above, ok.inj, ok.has, ok.cab, ok.hd, ok.frames, ok.stk, ok.exf, ok.bs, ok.bsz, ok.noex, ok.exfs, ok.funs, ok.frf⟩
section
variable {X : Cx} {pins : List (Addr × Obj)} {σ : St} {H : Hp} {s : Shared} {E : Value → Shared → Prop}
theorem Inv.wish (I : Inv X pins σ H s) (E : Value → Shared → Prop) : Inv (X.wish E) pins σ H s := ⟨I.ok.wish E, I.os, I.bare, I.base, I.loc, I.cell, I.free, I.freeC, I.pin, I.hok, I.len⟩
theorem Inv.unwish (I : Inv (X.wish E) pins σ H s) : Inv X pins σ H s := ⟨I.ok.unwish, I.os, I.bare, I.base, I.loc, I.cell, I.free, I.freeC, I.pin, I.hok, I.len⟩
theorem SP.unwish {D : Ends} {f : Flow} {s' : Shared} (h : SP (X.wish E) pins D f s') : SP X pins D f s' := by
  cases f with
  | next => obtain ⟨σ', H', I, q⟩ := h; exact ⟨σ', H', I.unwish, q⟩
  | brk => obtain ⟨σ', H', I, q⟩ := h; exact ⟨σ', H', I.unwish, q⟩
  | cont => obtain ⟨σ', H', I, q⟩ := h; exact ⟨σ', H', I.unwish, q⟩
  | ret u => obtain ⟨v, σ', H', I, r, q⟩ := h; exact ⟨v, σ', H', I.unwish, r, q⟩
theorem PE.nox {e : Expr} {t : TE} (h : PE X.nox e t) : PE X e t := fun pins s σ H Q I hw =>
  wpAny_mono (h pins s σ H Q (I.wish _) hw) (fun _ _ ⟨v, H', I', r, q⟩ => ⟨v, H', I'.unwish, r, q⟩) fun _ _ z => False.elim z
theorem PT.nox {e : Expr} {t : TT} (h : PT X.nox e t) : PT X e t := fun pins s σ H Q I hw =>
  wpAny_mono (h pins s σ H Q (I.wish _) hw) (fun _ _ ⟨H', I', q⟩ => ⟨H', I'.unwish, q⟩) fun _ _ z => False.elim z
theorem PSs.nox {st : List Stmt} {t : TS} (h : PSs X.nox st t) : PSs X st t := fun pins s σ H D I hw =>
  wpAny_mono (h pins s σ H D (I.wish _) hw) (fun _ _ q => q.unwish) fun _ _ z => False.elim z
end

/-! ### blocks and small statements -/
section
variable {X : Cx} {st : Stmt} {rest : List Stmt} {t u : TS} {e : Expr} {te : TE} {pos : Pos}
def tNext : TS := fun D σ H => D.nx σ H
def tSeq (t u : TS) : TS := fun D σ H => t { D with nx := u D } σ H
theorem pss_nil : PSs X [] tNext := fun _ _ σ H _ I h => wpAny_execs_nil ⟨σ, H, I, h⟩
theorem pss_cons (h1 : PS X st t) (h2 : PSs X rest u) : PSs X (st :: rest) (tSeq t u) := by
  intro pins s σ H D I h
  refine wpAny_execs_cons (thn (h1 pins s σ H { D with nx := u D } I h) fun f s1 q => ?_)
  cases f with
  | next =>
    obtain ⟨σ', H', I', q⟩ := q
    exact h2 pins s1 σ' H' D I' q
  | ret v => exact q
  | brk => exact q
  | cont => exact q
theorem pss_one (h1 : PS X st t) : PSs X [st] t := by
  intro pins s σ H D I h
  refine wpAny_execs_cons (thn (h1 pins s σ H D I h) fun f s1 q => ?_)
  cases f with
  | next => exact wpAny_execs_nil q
  | ret v => exact q
  | brk => exact q
  | cont => exact q
def tBreak : TS := fun D σ H => D.bk σ H
def tCont : TS := fun D σ H => D.ct σ H
theorem ps_pass : PS X (.Pass pos) tNext := fun _ _ σ H _ I h => wpAny_Pass ⟨σ, H, I, h⟩
theorem ps_break : PS X (.Break pos) tBreak := fun _ _ σ H _ I h => wpAny_Break ⟨σ, H, I, h⟩
theorem ps_continue : PS X (.Continue pos) tCont := fun _ _ σ H _ I h => wpAny_Continue ⟨σ, H, I, h⟩
/-- in a def's body nothing is shown -/
theorem Inv.quiet {pins : List (Addr × Obj)} {σ : St} {H : Hp} {s : Shared} (I : Inv X pins σ H s) : interactive X.env = false := by simp [interactive, I.ok.kind]
/-- a docstring -/
theorem ps_doc {x j pos pos'} : PS X (.Expr (.Constant (.str x) j pos) pos') tNext := fun _ s σ H _ I h => wpAny_Expr (Calls.Constant_str (show SP X _ _ .next { s with toks := s.toks + 1 } from ⟨σ, H, I.tok _, h⟩)) I.quiet
/-- an expression whose value is dropped -/
def tDrop (te : TE) : TS := fun D σ H => te σ H fun _ H1 => D.nx σ H1
theorem ps_expr (he : PE X e te) (hs : swapsWith e none pos.line X.env = pure false := by rfl) : PS X (.Expr e pos) (tDrop te) := by
  intro pins s σ H D I h
  exact wpAny_Expr_any (thn (he pins s σ H _ I h) fun v s1 ⟨x, H1, I1, r1, q1⟩ => ⟨σ, H1, I1, q1⟩) I.quiet hs
def tRet (te : TE) : TS := fun D σ H => te σ H D.rt
theorem ps_ret (he : PE X e te) : PS X (.Return (some e) pos) (tRet te) := by
  intro pins s σ H D I h
  exact wpAny_Return_some (thn (he pins s σ H _ I h) fun v s1 ⟨x, H1, I1, r1, q1⟩ => ⟨x, σ, H1, I1, r1, q1⟩)
def tRetN : TS := fun D _ H => D.rt .non H
theorem ps_retN : PS X (.Return none pos) tRetN := fun _ _ σ H _ I h => wpAny_Return_none ⟨.non, σ, H, I, rfl, h⟩
def tIfS (c : TT) (t u : TS) : TS := fun D σ H => c σ H fun b H1 => if b = true then t D σ H1 else u D σ H1
theorem ps_if {c : Expr} {a b : List Stmt} {tc : TT} (hc : PT X c tc) (ha : PSs X a t) (hb : PSs X b u) : PS X (.If c a b pos) (tIfS tc t u) := by
  intro pins s σ H D I h
  refine wpAny_If (thn (hc pins s σ H _ I h) fun d s1 ⟨H1, I1, q1⟩ => ?_)
  cases d with
  | true => exact ha pins s1 σ H1 D I1 q1
  | false => exact hb pins s1 σ H1 D I1 q1
/-- code that the proof never comes to -/
def tNever : TS := fun _ _ _ => False
theorem ps_never : PS X st tNever := fun _ _ _ _ _ _ h => h.elim
theorem pss_never {sts : List Stmt} : PSs X sts tNever := fun _ _ _ _ _ _ h => h.elim
end

/-! ### targets -/
abbrev TG := V → St → Hp → (St → Hp → Prop) → Prop
abbrev TGs := List V → St → Hp → (St → Hp → Prop) → Prop
def PG (X : Cx) (target : Expr) (t : TG) : Prop :=
  ∀ (pins : List (Addr × Obj)) (s : Shared) (σ : St) (H : Hp) (v : V) (u : Value) (Q : St → Hp → Prop), Inv X pins σ H s → RelV v u → t v σ H Q →
    wpAny (model X.prog X.w) X.A (assign target X.env u) (fun _ s' => ∃ σ' H', Inv X pins σ' H' s' ∧ Q σ' H') X.xe s
/-- several targets, one after another -/
def PGs (X : Cx) (ts : List Expr) (t : TGs) : Prop :=
  ∀ (pins : List (Addr × Obj)) (s : Shared) (σ : St) (H : Hp) (vs : List V) (us : List Value) (Q : St → Hp → Prop), Inv X pins σ H s → Vals vs us → t vs σ H Q →
    wpAny (model X.prog X.w) X.A (assignInOrder ((assignEach ts X.env).map (·.2)) us) (fun _ s' => ∃ σ' H', Inv X pins σ' H' s' ∧ Q σ' H') X.xe s
/-- o[i] = v, by values -/
abbrev TSet := V → V → V → Hp → (Hp → Prop) → Prop
def PSet (X : Cx) (t : TSet) : Prop :=
  ∀ (pins : List (Addr × Obj)) (s : Shared) (σ : St) (H : Hp) (o i v : V) (ov iv u : Value) (Q : Hp → Prop), Inv X pins σ H s → RelV o ov → RelV i iv → RelV v u → t o i v H Q →
    wpAny (model X.prog X.w) X.A (setItem ov iv u) (fun _ s' => ∃ H', Inv X pins σ H' s' ∧ Q H') X.xe s
/-- a op= b, by values -/
abbrev TIp := V → V → Hp → VK → Prop
def PIp (X : Cx) (op : Operator) (t : TIp) : Prop :=
  ∀ (pins : List (Addr × Obj)) (s : Shared) (σ : St) (H : Hp) (x y : V) (v u : Value) (Q : VK), Inv X pins σ H s → RelV x v → RelV y u → t x y H Q →
    wpAny (model X.prog X.w) X.A (inplaceOp op v u) (EP X pins σ Q) X.xe s
section
variable {X : Cx} {pos : Pos}
def gName (i : Nat) : TG := fun v σ H Q => Q (σ.set i (some v)) H
theorem pg_name {i : Nat} {x : Str} (hN : X.N.Nodup) (hi : X.N[i]? = some x) (hx : Loc X.env.scope x) (hf : X.fn x = true ∨ X.env.scope.names.lookup x = some .local := by first | exact .inl rfl | exact .inr rfl | assumption) : PG X (.Name x pos) (gName i) := by
  intro pins s σ H v u Q I r h
  exact wpAny_assign_Name (store_ok I hN hi hx r (fun s' I' => ⟨_, H, I', h⟩) hf)
def gNil : TGs := fun vs σ H Q => vs = [] ∧ Q σ H
def gCons (t : TG) (u : TGs) : TGs := fun vs σ H Q => ∃ v r, vs = v :: r ∧ t v σ H fun σ' H' => u r σ' H' Q
theorem pgs_nil : PGs X [] gNil := by
  intro pins s σ H vs us Q I r h
  obtain ⟨e, h⟩ := h
  subst e
  cases r
  exact assignInOrder_nil ⟨σ, H, I, h⟩
theorem pgs_cons {e : Expr} {es : List Expr} {t : TG} {u : TGs} (h1 : PG X e t) (h2 : PGs X es u)
    (hs : (assignEach (e :: es) X.env).map (·.2) = assign e X.env :: (assignEach es X.env).map (·.2) := by rfl) : PGs X (e :: es) (gCons t u) := by
  intro pins s σ H vs us Q I r h
  obtain ⟨v, vr, e1, h⟩ := h
  subst e1
  cases r with
  | cons r rr =>
    rw [hs]
    refine assignInOrder_cons (thn (h1 pins s σ H _ _ _ I r h) fun _ s1 ⟨σ1, H1, I1, q1⟩ => ?_)
    exact h2 pins s1 σ1 H1 _ _ Q I1 rr q1
/-- (a, b, ..) = a tuple of that length -/
def gTup (K : PySem.W.Frag) (n : Nat) (t : TGs) : TG := fun v σ H Q => ∃ a xs, v = .ref a ∧ SqT K H a xs ∧ xs.length = n ∧ t xs σ H Q
theorem pg_tup {es : List Expr} {k : Nat} {t : TGs} {n : Nat} (hc : X.calm = true) (h : PGs X es t)
    (hn : (assignEach es X.env).length = n := by rfl) (hst : (assignEach es X.env).findIdx? (·.1) = none := by rfl) : PG X (.Tuple es k pos) (gTup X.K n t) := by
  intro pins s σ H v u Q I r hw
  obtain ⟨a, xs, e1, hq, hl, hw⟩ := hw
  subst e1
  cases r
  obtain ⟨its, rv, ht, hz⟩ := I.tuple hq
  refine assign_Tuple_tuple (I.ok.hd hc) ht (by simp [hn, ← hl, rv.length]) hst fun h' hx => ?_
  have I1 : Inv X pins σ H { s with heap := h' } := I.kept (t' := s.toks) fun b o e => hx b o (Nat.ne_of_lt (Heap.lt_size e)) e
  exact h pins _ σ H xs _ Q I1 (by simpa using rv) hw
/-- o[i] = .. -/
def gSub (to ti : TE) (t : TSet) : TG := fun v σ H Q => to σ H fun o H1 => ti σ H1 fun i H2 => t o i v H2 fun H3 => Q σ H3
theorem pg_sub {o i : Expr} {to ti : TE} {t : TSet} (ho : PE X o to) (hi : PE X i ti) (hs : PSet X t)
    (ha : ∀ v, assign (.Subscript o i pos) X.env v = (do
      let ov ← holding [v] (eval o X.env)
      let iv ← holding [v, ov] (eval i X.env)
      standAt pos
      holding [v, ov, iv] (setItem ov iv v)
      release [v, ov, iv] []) := by intro _; rfl) : PG X (.Subscript o i pos) (gSub to ti t) := by
  intro pins s σ H v u Q I r h
  rw [ha]
  refine wpAny_bind (wpAny_holding (thn (ho pins s σ H _ I h) fun ov s1 ⟨x, H1, I1, r1, q1⟩ => ?_))
  refine wpAny_bind (wpAny_holding (thn (hi pins s1 σ H1 _ I1 q1) fun iv s2 ⟨y, H2, I2, r2, q2⟩ => ?_))
  refine wpAny_bind (wpAny_standAt (wpAny_bind (wpAny_holding (thn (hs pins s2 σ H2 x y v ov iv u _ I2 r1 r2 r q2) fun _ s3 ⟨H3, I3, q3⟩ => ?_))))
  exact wpAny_release ⟨σ, H3, I3, q3⟩
/-- target = value -/
def tAsg (te : TE) (g : TG) : TS := fun D σ H => te σ H fun x H1 => g x σ H1 D.nx
theorem ps_asg {tg e : Expr} {te : TE} {g : TG} (he : PE X e te) (hg : PG X tg g) (hs : swapsWithSole [tg] e pos.line X.env = pure false := by rfl) (hw : swappedStores [tg] e X.env = pure none := by rfl)
    (h1 : (assignEach [tg] X.env).map (·.2) = [assign tg X.env] := by rfl) : PS X (.Assign [tg] e pos) (tAsg te g) := by
  intro pins s σ H D I h
  refine wpAny_Assign_stores (thn (he pins s σ H _ I h) fun v s1 ⟨x, H1, I1, r1, q1⟩ => ?_) hs hw
  rw [h1]
  exact thn (hg pins s1 σ H1 x v _ I1 r1 q1) fun _ s2 q => q
/-- name = value -/
theorem ps_set {i : Nat} {x : Str} {e : Expr} {te : TE} {pos' : Pos} (hN : X.N.Nodup) (hi : X.N[i]? = some x) (hx : Loc X.env.scope x) (he : PE X e te) (hs : swapsWith e (some (.Name x pos')) pos.line X.env = pure false := by rfl) (hf : X.fn x = true ∨ X.env.scope.names.lookup x = some .local := by first | exact .inl rfl | exact .inr rfl | assumption) :
    PS X (.Assign [.Name x pos'] e pos) (tAsg te (gName i)) := by
  intro pins s σ H D I h
  refine wpAny_Assign_Name (thn (he pins s σ H _ I h) fun v s1 ⟨y, H1, I1, r1, q1⟩ => ?_) hs
  exact store_ok I1 hN hi hx r1 (fun s2 I2 => ⟨_, H1, I2, q1⟩) hf
/-- a, b = x, y with plain local names: stored from the right; the pair itself is not tracked (the opening rows as in PyProof/Rows/TupAssign.lean:23) -/
def tPar (i j : Nat) (ta : TA) : TS := fun D σ H => ta σ H fun vs H1 => ∃ v w, vs = [v, w] ∧ D.nx ((σ.set i (some v)).set j (some w)) H1
theorem ps_par {i j : Nat} {x y : Str} {a b : Expr} {ta : TA} {px py pt : Pos} {kt k2 pt2} (hc : X.calm = true) (hN : X.N.Nodup) (hi : X.N[i]? = some x) (hj : X.N[j]? = some y) (hij : i ≠ j)
    (hx : X.env.scope.names.lookup x = some .local) (hy : X.env.scope.names.lookup y = some .local) (ha : PA X [a, b] ta)
    (hw : swappedStores [.Tuple [.Name x px, .Name y py] kt pt] (.Tuple [a, b] k2 pt2) X.env = pure (some [x, y]))
    (hs : swapsWithSole [.Tuple [.Name x px, .Name y py] kt pt] (.Tuple [a, b] k2 pt2) pos.line X.env = pure false := by rfl) :
    PS X (.Assign [.Tuple [.Name x px, .Name y py] kt pt] (.Tuple [a, b] k2 pt2) pos) (tPar i j ta) := by
  intro pins s σ H D I h
  rw [exec_Assign_arm]
  refine wpAny_bind (wpAny_standAt ?_)
  rw [hs]
  refine wpAny_bind (wpAny_pure ?_)
  rw [if_neg (by decide)]
  refine wpAny_bind (Tuple_ (thn (ha _ pins s σ H _ I h) fun us s1 ⟨vs, H1, I1, r1, q1⟩ => ?_))
  obtain ⟨v, w, e1, q1⟩ := q1
  subst e1
  obtain ⟨u1, u2, rfl, rv, rw'⟩ : ∃ u1 u2, us = [u1, u2] ∧ RelV v u1 ∧ RelV w u2 := by
    cases r1 with
    | cons p q =>
      cases q with
      | cons p' q' =>
        cases q'
        exact ⟨_, _, rfl, p, p'⟩
  refine wpAny_newObj_type ?_ (by show 2 ≤ sizeLine; decide)
  have I2 : Inv X pins σ H1 { s1 with heap := s1.heap.push { cls := .type "tuple", data := .seq [u1, u2].toArray } } := I1.kept (t' := s1.toks) fun b o e => Heap.get?_push_of_some _ e
  rw [hw]
  refine wpAny_bind (wpAny_pure ?_)
  show wpAny (model X.prog X.w) X.A (do rule "assign.swapped-stores"; let items ← unpackItems (.ref s1.heap.objs.size) 2 none; assignInOrder [fun v => bindName X.env y v, fun v => bindName X.env x v] items.reverse; pure Flow.next) _ _ _
  refine wpAny_bind (wpAny_rule (wpAny_bind (unpackItems_tuple (items := #[u1, u2]) (I.ok.hd hc) (IsTup.new s1.heap _) fun h' hx' => ?_)))
  have I3 := I2.kept (h' := h') (t' := s1.toks) fun b o e => hx' b o (Nat.ne_of_lt (Heap.lt_size e)) e
  show wpAny _ _ (assignInOrder [fun v => bindName X.env y v, fun v => bindName X.env x v] [u2, u1] >>= fun _ => pure Flow.next) _ _ _
  refine wpAny_bind (assignInOrder_cons (wpAny_bindName (store_ok I3 hN hj (.inl hy) rw' (fun s2 I4 => ?_) (.inr hy))))
  refine assignInOrder_cons (wpAny_bindName (store_ok I4 hN hi (.inl hx) rv (fun s3 I5 => assignInOrder_nil (wpAny_pure ?_)) (.inr hx)))
  rw [List.set_comm _ _ (Ne.symm hij)] at I5
  exact ⟨_, H1, I5, q1⟩
/-- name op= e -/
def tAug (i : Nat) (te : TE) (ti : TIp) : TS := fun D σ H => ∃ x, σ[i]? = some (some x) ∧ te σ H fun y H1 => ti x y H1 fun z H2 => D.nx (σ.set i (some z)) H2
theorem ps_aug {i : Nat} {x : Str} {e : Expr} {te : TE} {op : Operator} {ti : TIp} {pos' : Pos} (hN : X.N.Nodup) (hi : X.N[i]? = some x) (hx : Loc X.env.scope x) (he : PE X e te) (ho : PIp X op ti) (hf : X.fn x = true ∨ X.env.scope.names.lookup x = some .local := by first | exact .inl rfl | exact .inr rfl | assumption) :
    PS X (.AugAssign (.Name x pos') op e pos) (tAug i te ti) := by
  intro pins s σ H D I h
  obtain ⟨v, e1, h⟩ := h
  obtain ⟨m, hn, hl⟩ := I.loc
  have vis : Vis X.env.scope x := by rcases hx with k | k; exact .inl k; exact .inr (.inl k)
  obtain ⟨u, r, l⟩ := hl i x v hi e1 vis
  refine wpAny_AugAssign_Name ?_
  have go : wpAny (model X.prog X.w) X.A (eval e X.env) (fun w s₂ => wpAny (model X.prog X.w) X.A (inplaceOp op u w) (fun r s₃ => wpAny (model X.prog X.w) X.A (storeName X.env x r) (fun _ => SP X pins D .next) X.xe s₃) X.xe s₂) X.xe s := by
    refine thn (he pins s σ H _ I h) fun w s1 ⟨y, H1, I1, r1, q1⟩ => ?_
    refine thn (ho pins s1 σ H1 v y u w _ I1 r r1 q1) fun z s2 ⟨zv, H2, I2, r2, q2⟩ => ?_
    exact store_ok I2 hN hi hx r2 (fun s3 I3 => ⟨_, H2, I3, q2⟩) hf
  rcases l with ⟨hk, hm⟩ | ⟨hk, c, hc, hcell⟩
  · exact wpAny_loadName_local I.ok.kind hk hn hm go
  · rcases hk with hk | hk
    · exact wpAny_loadName_cell I.ok.kind hk hc hcell go
    · rcases hx with k | k
      · have : X.env.scope.names.lookup x = some .free := hk
        rw [k] at this; cases this
      · have : X.env.scope.names.lookup x = some .free := hk
        rw [k] at this; cases this
/-- o[i] op= e -/
def tAugS (to ti te : TE) (tget : V → V → Hp → VK → Prop) (tip : TIp) (tset : TSet) : TS := fun D σ H => to σ H fun o H1 => ti σ H1 fun i H2 => tget o i H2 fun x H3 => te σ H3 fun y H4 => tip x y H4 fun z H5 => tset o i z H5 fun H6 => D.nx σ H6
/-- o[i], by values -/
def PGet (X : Cx) (t : V → V → Hp → VK → Prop) : Prop :=
  ∀ (pins : List (Addr × Obj)) (s : Shared) (σ : St) (H : Hp) (o i : V) (ov iv : Value) (Q : VK), Inv X pins σ H s → RelV o ov → RelV i iv → t o i H Q →
    wpAny (model X.prog X.w) X.A (getItem ov iv) (EP X pins σ Q) X.xe s
theorem ps_augS {o i e : Expr} {to ti te : TE} {tget : V → V → Hp → VK → Prop} {tip : TIp} {tset : TSet} {op : Operator} {tpos : Pos} (ho : PE X o to) (hi : PE X i ti) (hg : PGet X tget) (he : PE X e te) (hp : PIp X op tip) (hs : PSet X tset)
    (ha : ∀ ov iv new, augStore i ov iv new = (do holding [new, ov, iv] (setItem ov iv new); release [new, ov, iv] []; pure .next) := by intros; rfl) : PS X (.AugAssign (.Subscript o i tpos) op e pos) (tAugS to ti te tget tip tset) := by
  intro pins s σ H D I h
  refine wpAny_AugAssign_SubscriptAny (thn (ho pins s σ H _ I h) fun ov s1 ⟨x1, H1, I1, r1, q1⟩ => ?_) ha
  refine thn (hi pins s1 σ H1 _ I1 q1) fun iv s2 ⟨x2, H2, I2, r2, q2⟩ => ?_
  refine thn (hg pins s2 σ H2 x1 x2 ov iv _ I2 r1 r2 q2) fun old s3 ⟨x3, H3, I3, r3, q3⟩ => ?_
  refine thn (he pins s3 σ H3 _ I3 q3) fun v s4 ⟨x4, H4, I4, r4, q4⟩ => ?_
  refine thn (hp pins s4 σ H4 x3 x4 old v _ I4 r3 r4 q4) fun new s5 ⟨x5, H5, I5, r5, q5⟩ => ?_
  exact thn (hs pins s5 σ H5 x1 x2 x5 ov iv new _ I5 r1 r2 r5 q5) fun _ s6 ⟨H6, I6, q6⟩ => ⟨σ, H6, I6, q6⟩
/-- ints -/
def ipI (f : Int → Int → Int) : TIp := fun x y H Q => ∃ i j, x = .int i ∧ y = .int j ∧ Q (.int (f i j)) H
theorem ip_add : PIp X .Add (ipI fun i j => i + j) := by
  intro pins s σ H x y v u Q I r1 r2 h
  obtain ⟨i, j, e1, e2, q⟩ := h
  subst e1; subst e2
  obtain ⟨t, rfl⟩ := r1
  obtain ⟨t', rfl⟩ := r2
  exact iadd_int ⟨.int _, H, I.tok _, ⟨_, rfl⟩, q⟩
theorem ip_sub : PIp X .Sub (ipI fun i j => i - j) := by
  intro pins s σ H x y v u Q I r1 r2 h
  obtain ⟨i, j, e1, e2, q⟩ := h
  subst e1; subst e2
  obtain ⟨t, rfl⟩ := r1
  obtain ⟨t', rfl⟩ := r2
  exact isub_int ⟨.int _, H, I.tok _, ⟨_, rfl⟩, q⟩
end

/-! ### while -/
section
variable {X : Cx} {pos : Pos}
/-- the invariant W with its measure -/
def tWhile (c : TT) (tb : TS) : TS := fun D σ H => ∃ W : Nat → St → Hp → Prop, (∃ m, W m σ H) ∧ ∀ m σ H, W m σ H →
  c σ H fun b H1 => if b = true then ∃ N : St → Hp → Prop, (∀ σ' H', N σ' H' → ∃ m', m' < m ∧ W m' σ' H') ∧ tb { D with nx := N, ct := N, bk := D.nx } σ H1 else D.nx σ H1
theorem ps_while {c : Expr} {body : List Stmt} {tc : TT} {tb : TS} (hp : PassesOwn (model X.prog X.w) X.A X.env X.xe) (hc : PT X c tc) (hb : PSs X body tb) : PS X (.While c body [] pos) (tWhile tc tb) := by
  intro pins s σ H D I h
  obtain ⟨W, ⟨m0, w0⟩, turn⟩ := h
  refine wpAny_While (codeAny_whileLoop (fun n s' => ∃ σ' H', Inv X pins σ' H' s' ∧ W n σ' H') ?_ m0 ⟨σ, H, I, w0⟩)
  rintro n s1 ⟨σ1, H1, I1, w1⟩
  refine wpAny_passesOwn hp (thn (hc pins s1 σ1 H1 _ I1 (turn n σ1 H1 w1)) fun b s2 ⟨H2, I2, q2⟩ => ?_)
  cases b with
  | true =>
    obtain ⟨N, hN, q2⟩ := q2
    rw [if_pos rfl]
    refine wpAny_passesOwn hp (thn (hb pins s2 σ1 H2 _ I2 q2) fun f s3 q3 => ?_)
    cases f with
    | next =>
      obtain ⟨σ3, H3, I3, n3⟩ := q3
      obtain ⟨m', hm, w3⟩ := hN σ3 H3 n3
      exact ⟨m', hm, σ3, H3, I3, w3⟩
    | cont =>
      obtain ⟨σ3, H3, I3, n3⟩ := q3
      obtain ⟨m', hm, w3⟩ := hN σ3 H3 n3
      exact ⟨m', hm, σ3, H3, I3, w3⟩
    | brk => exact q3
    | ret v => exact q3
  | false =>
    rw [if_neg Bool.false_ne_true]
    exact wpAny_execs_nil ⟨σ1, H2, I2, q2⟩
end

/-! ### what a loop or a comprehension walks -/
/-- at turn i: it yields x (the heap may grow), or it stops -/
structure It where
  go : Nat → Hp → Prop
  yld : Nat → Hp → V → Hp → Prop
  stop : Nat → Hp → Prop
/-- the iterator's own objects may turn: they are not the frame's, not pinned, younger than the entry (or a comprehension's own) -/
def FpOk (X : Cx) (pins : List (Addr × Obj)) (H : Hp) (b : Addr) : Prop :=
  H b = none ∧ b ≠ X.env.locals ∧ b ∉ X.fs ∧ (b ∈ X.ex ∨ X.s₀.heap.objs.size ≤ b) ∧ (∀ x c, X.env.cells.lookup x = some c → c ≠ b) ∧ ∀ p ∈ X.pn ++ pins, p.1 ≠ b
theorem Inv.fpOk {X : Cx} {pins : List (Addr × Obj)} {σ : St} {H H' : Hp} {s : Shared} {b : Addr} (I : Inv X pins σ H s) (hb : s.heap.objs.size ≤ b) (hn : H' b = none) : FpOk X pins H' b := by
  refine ⟨hn, Nat.ne_of_gt (Nat.lt_of_lt_of_le I.lt hb), I.nofs hb, .inr (Nat.le_trans I.sz hb), fun x c e z => ?_, fun p hp z => ?_⟩
  · obtain ⟨v, q⟩ := I.cell x c e
    exact absurd (Nat.lt_of_lt_of_le q.lt (by rw [z]; exact hb)) (Nat.lt_irrefl _)
  · exact absurd (Nat.lt_of_lt_of_le (Heap.lt_size (I.pin p hp).1) (by rw [z]; exact hb)) (Nat.lt_irrefl _)
structure Turn (P : Program) (w : World) (K : PySem.W.Frag) (tg : Expr) (J : It) (fp : List Addr) (it : Addr) (tn : Nat → Heap → Prop) : Prop where
  mem : it ∈ fp
  obj : ∀ i h, tn i h → ∀ b ∈ fp, ∃ o, h.get? b = some o ∧ ∀ v, o.data ≠ .cell v
  keep : ∀ i h h', tn i h → (∀ b ∈ fp, ∀ o, h.get? b = some o → h'.get? b = some o) → tn i h'
  item : ∀ (X : Cx), X.prog = P → X.w = w → X.K = K → X.calm = true → ∀ (i : Nat) (pins : List (Addr × Obj)) (s : Shared) (σ : St) (H : Hp) (E : Value → Shared → Prop), Inv X pins σ H s → (∀ b ∈ fp, FpOk X pins H b) → tn i s.heap → J.go i H →
    wpAny (model P w) X.A (pyNext (.ref it)) (fun r s1 => ∃ u, r = some u ∧
      wpAny (model P w) X.A (letOwnedTupleGo tg (.ref it) u) (fun _ s2 => ∃ x H', Inv X pins σ H' s2 ∧ RelV x u ∧ J.yld i H x H' ∧ tn (i + 1) s2.heap ∧ ∀ b ∈ fp, H' b = none) E s1) E s
  done : ∀ (X : Cx), X.prog = P → X.w = w → X.K = K → X.calm = true → ∀ (i : Nat) (pins : List (Addr × Obj)) (s : Shared) (σ : St) (H : Hp) (E : Value → Shared → Prop), Inv X pins σ H s → (∀ b ∈ fp, FpOk X pins H b) → tn i s.heap → J.stop i H →
    wpAny (model P w) X.A (pyNext (.ref it)) (fun r s1 => r = none ∧ Inv X pins σ H s1) E s
  self : ∀ (A : Around) (i : Nat) (s : Shared) (Q : Value → Shared → Prop) (E : Value → Shared → Prop), tn i s.heap → Q (.ref it) s → wpAny (model P w) A (pyIter (.ref it)) Q E s
abbrev TI := St → Hp → (It → Hp → Prop) → Prop
/-- an iterator has come -/
def PIE (X : Cx) (pins : List (Addr × Obj)) (σ : St) (tg : Expr) (R : It → Hp → Prop) (itv : Value) (s2 : Shared) : Prop :=
  ∃ (it : Addr) (fp : List Addr) (tn : Nat → Heap → Prop) (J : It) (H' : Hp), itv = .ref it ∧ Inv X pins σ H' s2 ∧ Turn X.prog X.w X.K tg J fp it tn ∧ tn 0 s2.heap ∧ (∀ b ∈ fp, FpOk X pins H' b) ∧ R J H'
def PI (X : Cx) (tg iter : Expr) (wi : TI) : Prop :=
  ∀ (pins : List (Addr × Obj)) (s : Shared) (σ : St) (H : Hp) (R : It → Hp → Prop), Inv X pins σ H s → wi σ H R →
    wpAny (model X.prog X.w) X.A (eval iter X.env) (fun v s1 => wpAny (model X.prog X.w) X.A (pyIter v) (PIE X pins σ tg R) X.xe s1) X.xe s

/-- the step ahead of the store is nothing for an iterator that keeps no tuple -/
theorem go_of {M : Model} {A : Around} {E : Value → Shared → Prop} {s : Shared} {tg : Expr} {it : Addr} {u : Value} {o : Obj} {n : String} {vs : Array Value} {Q : Unit → Shared → Prop} (ho : s.heap.get? it = some o) (hc : o.cls = .type n) (hd : o.data = .fields vs)
    (hn : ["enumerate", "zip", "dict_itemiterator", "dict_reverseitemiterator", "odict_iterator", "itertools.zip_longest", "itertools.pairwise"].contains n = false) (hQ : Q () s) : wpAny M A (letOwnedTupleGo tg (.ref it) u) Q E s := by
  unfold letOwnedTupleGo
  cases tg <;> first
    | exact wpAny_pure hQ
    | (cases u <;> first
        | exact wpAny_pure hQ
        | (refine wpAny_bind (wpAny_load ho ?_)
           rw [hc, hd]
           show wpAny M A (if (["enumerate", "zip", "dict_itemiterator", "dict_reverseitemiterator", "odict_iterator", "itertools.zip_longest", "itertools.pairwise"].contains n && vs[0]? == some (rawInt _)) = true then _ else _) Q E s
           rw [if_neg (by intro h; rw [hn, Bool.false_and] at h; cases h)]
           exact wpAny_pure hQ))

/-- the list at a, as it stands at each turn (a loop may append to it) -/
def Itl (K : PySem.W.Frag) (a : Addr) : It :=
  ⟨fun i H => ∃ xs x, SqL K H a xs ∧ xs[i]? = some x, fun i H x H' => H' = H ∧ ∀ xs, SqL K H a xs → xs[i]? = some x, fun i H => ∃ xs, SqL K H a xs ∧ xs.length ≤ i⟩
def Itt (K : PySem.W.Frag) (a : Addr) : It :=
  ⟨fun i H => ∃ xs x, SqT K H a xs ∧ xs[i]? = some x, fun i H x H' => H' = H ∧ ∀ xs, SqT K H a xs → xs[i]? = some x, fun i H => ∃ xs, SqT K H a xs ∧ xs.length ≤ i⟩
/-- lo, lo + 1, .. (n of them) -/
def Itr (lo : Int) (n : Nat) : It := ⟨fun i _ => i < n, fun i H x H' => H' = H ∧ x = .int (lo + i), fun i _ => n ≤ i⟩
theorem turn_list {P : Program} {w : World} {K : PySem.W.Frag} {tg : Expr} (a it : Addr) : Turn P w K tg (Itl K a) [it] it (fun i h => h.IsListIter it a i) where
  mem := by simp
  obj := fun i h st b hb => by
    have e : b = it := by simpa using hb
    subst e
    obtain ⟨o, e, c, d⟩ := st
    exact ⟨o, e, fun v z => by rw [d] at z; cases z⟩
  keep := fun i h h' st k => st.at fun o e => k it (by simp) o e
  item := by
    intro X hP hw hK hc i pins s σ H E I hf st hg
    subst hP hw hK
    obtain ⟨xs, x, hq, hx⟩ := hg
    obtain ⟨its, rv, p, hz⟩ := I.list hq
    obtain ⟨u, hu, ru⟩ := rv.get hx
    obtain ⟨f0, f1, f2, f3, f4, f5⟩ := hf it (by simp)
    refine wpAny_pyNext_list_item st p.isList (x := u) (by simpa using hu) fun h' st' sb => ?_
    have I1 : Inv X pins σ H { s with heap := h' } := I.turned (t' := s.toks) (fun b o hb e => (sb.2 b hb).trans e) f0 f1 f3 f4 f5
    obtain ⟨o, e, c, d⟩ := id st'
    exact ⟨u, rfl, go_of (s := { s with heap := h' }) e c d (by decide) ⟨x, H, I1, ru, ⟨rfl, fun ys hy => by rw [I.list_inj hy hq]; exact hx⟩, st', fun b hb => (hf b hb).1⟩⟩
  done := by
    intro X hP hw hK hc i pins s σ H E I hf st hg
    subst hP hw hK
    obtain ⟨xs, hq, hx⟩ := hg
    obtain ⟨its, rv, p, hz⟩ := I.list hq
    obtain ⟨f0, f1, f2, f3, f4, f5⟩ := hf it (by simp)
    have hl := rv.length
    exact wpAny_pyNext_list_end (I.ok.hd hc) st p.isList (by simp; omega) fun h' eb => ⟨rfl, I.turned (t' := s.toks) (fun b o hb e => eb b o hb e) f0 f1 f3 f4 f5⟩
  self := fun _ _ _ _ _ st h => wpAny_pyIter_listiter st h
theorem turn_tuple {P : Program} {w : World} {K : PySem.W.Frag} {tg : Expr} (a it : Addr) : Turn P w K tg (Itt K a) [it] it (fun i h => h.IsTupleIter it a i) where
  mem := by simp
  obj := fun i h st b hb => by
    have e : b = it := by simpa using hb
    subst e
    obtain ⟨o, e, c, d⟩ := st
    exact ⟨o, e, fun v z => by rw [d] at z; cases z⟩
  keep := fun i h h' st k => st.at fun o e => k it (by simp) o e
  item := by
    intro X hP hw hK hc i pins s σ H E I hf st hg
    subst hP hw hK
    obtain ⟨xs, x, hq, hx⟩ := hg
    obtain ⟨its, rv, p, hz⟩ := I.tuple hq
    obtain ⟨u, hu, ru⟩ := rv.get hx
    obtain ⟨f0, f1, f2, f3, f4, f5⟩ := hf it (by simp)
    refine wpAny_pyNext_tuple_item st (show s.heap.IsTuple a its.toArray from p) (x := u) (by simpa using hu) fun h' st' sb => ?_
    have I1 : Inv X pins σ H { s with heap := h' } := I.turned (t' := s.toks) (fun b o hb e => (sb.2 b hb).trans e) f0 f1 f3 f4 f5
    obtain ⟨o, e, c, d⟩ := id st'
    exact ⟨u, rfl, go_of (s := { s with heap := h' }) e c d (by decide) ⟨x, H, I1, ru, ⟨rfl, fun ys hy => by rw [I.tuple_inj hy hq]; exact hx⟩, st', fun b hb => (hf b hb).1⟩⟩
  done := by
    intro X hP hw hK hc i pins s σ H E I hf st hg
    subst hP hw hK
    obtain ⟨xs, hq, hx⟩ := hg
    obtain ⟨its, rv, p, hz⟩ := I.tuple hq
    obtain ⟨f0, f1, f2, f3, f4, f5⟩ := hf it (by simp)
    have hl := rv.length
    exact wpAny_pyNext_tuple_end (I.ok.hd hc) st (show s.heap.IsTuple a its.toArray from p) (by simp; omega) fun h' eb => ⟨rfl, I.turned (t' := s.toks) (fun b o hb e => eb b o hb e) f0 f1 f3 f4 f5⟩
  self := fun _ _ _ _ _ st h => wpAny_pyIter_tupleiter st h
theorem turn_range {P : Program} {w : World} {K : PySem.W.Frag} {tg : Expr} (it : Addr) (lo : Int) (n : Nat) : Turn P w K tg (Itr lo n) [it] it (fun i h => IsRangeIter h it (lo + (i : Nat) * 1) ((n : Int) - (i : Nat)) 1) where
  mem := by simp
  obj := fun i h st b hb => by
    have e : b = it := by simpa using hb
    subst e
    exact ⟨_, st, fun v z => by
      have z' : Data.fields _ = Data.cell v := z
      cases z'⟩
  keep := fun i h h' st k => k it (by simp) _ st
  item := by
    intro X hP hw hK hc i pins s σ H E I hf st hg
    subst hP hw hK
    obtain ⟨f0, f1, f2, f3, f4, f5⟩ := hf it (by simp)
    have W := Walks.range (prog := X.prog) (w := X.w) (I.ok.hd hc) it lo 1 n
    refine W.item i s _ _ hg st fun v h' tk hv st' kk => ?_
    obtain ⟨t, rfl⟩ := hv
    have I1 : Inv X pins σ H { s with heap := h', toks := tk } := I.turned (fun b o hb e => kk b o (by simpa using hb) e) f0 f1 f3 f4 f5
    refine ⟨_, rfl, go_of (s := { s with heap := h', toks := tk }) (n := "range_iterator") st' rfl rfl (by decide) ⟨.int (lo + i), H, I1, ⟨t, ?_⟩, ⟨rfl, rfl⟩, st', fun b hb => (hf b hb).1⟩⟩
    rw [Int.mul_one]
  done := by
    intro X hP hw hK hc i pins s σ H E I hf st hg
    subst hP hw hK
    obtain ⟨f0, f1, f2, f3, f4, f5⟩ := hf it (by simp)
    exact wpAny_pyNext_range_end (I.ok.hd hc) st (by have : n ≤ i := hg; omega) fun h' eb => ⟨rfl, I.turned (t' := s.toks) (fun b o hb e => eb b o hb e) f0 f1 f3 f4 f5⟩
  self := fun _ _ _ _ _ st h => wpAny_pyIter_rangeiter st h
end L2

namespace L2
open PySem PySem.Spec PyProof.Rows
section
variable {X : Cx} {tg : Expr}
def iList (K : PySem.W.Frag) (tl : TE) : TI := fun σ H R => tl σ H fun x H1 => ∃ a, x = .ref a ∧ (∃ xs, SqL K H1 a xs) ∧ R (Itl K a) H1
def iTup (K : PySem.W.Frag) (tl : TE) : TI := fun σ H R => tl σ H fun x H1 => ∃ a, x = .ref a ∧ (∃ xs, SqT K H1 a xs) ∧ R (Itt K a) H1
theorem pi_list {l : Expr} {tl : TE} (hl : PE X l tl) : PI X tg l (iList X.K tl) := by
  intro pins s σ H R I h
  refine thn (hl pins s σ H _ I h) fun v s1 ⟨x, H1, I1, r1, q1⟩ => ?_
  obtain ⟨a, e, ⟨xs, hq⟩, q⟩ := q1
  subst e
  cases r1
  obtain ⟨its, rv, p, hz⟩ := I1.list hq
  refine wpAny_pyIter_list p.isList ?_
  refine ⟨s1.heap.objs.size, [s1.heap.objs.size], _, _, H1, rfl, I1.kept (t' := s1.toks) fun b o e => Heap.get?_push_of_some _ e, turn_list a _, ⟨_, Heap.get?_push_size _ rfl, rfl, rfl⟩, fun b hb => ?_, q⟩
  have e : b = s1.heap.objs.size := by simpa using hb
  subst e
  exact I1.fpOk (Nat.le_refl _) (I1.hok.fresh (Nat.le_refl _))
theorem pi_tup {l : Expr} {tl : TE} (hl : PE X l tl) : PI X tg l (iTup X.K tl) := by
  intro pins s σ H R I h
  refine thn (hl pins s σ H _ I h) fun v s1 ⟨x, H1, I1, r1, q1⟩ => ?_
  obtain ⟨a, e, ⟨xs, hq⟩, q⟩ := q1
  subst e
  cases r1
  obtain ⟨its, rv, p, hz⟩ := I1.tuple hq
  refine wpAny_pyIter_tuple (show s1.heap.IsTuple a its.toArray from p) ?_
  refine ⟨s1.heap.objs.size, [s1.heap.objs.size], _, _, H1, rfl, I1.kept (t' := s1.toks) fun b o e => Heap.get?_push_of_some _ e, turn_tuple a _, ⟨_, Heap.get?_push_size _ rfl, rfl, rfl⟩, fun b hb => ?_, q⟩
  have e : b = s1.heap.objs.size := by simpa using hb
  subst e
  exact I1.fpOk (Nat.le_refl _) (I1.hok.fresh (Nat.le_refl _))
/-- a range object just made, walked -/
theorem range_it {pins : List (Addr × Obj)} {σ : St} {H : Hp} {s : Shared} {R : It → Hp → Prop} {E : Value → Shared → Prop} {lo hi : Int} {t u v : Tok} {tk : Nat} (I : Inv X pins σ H s) (h1 : -(2 ^ 62) ≤ lo) (h2 : lo < 2 ^ 62) (h3 : -(2 ^ 62) ≤ hi) (h4 : hi < 2 ^ 62)
    (q : R (Itr lo (hi - lo).toNat) H) : wpAny (model X.prog X.w) X.A (pyIter (.ref s.heap.objs.size)) (PIE X pins σ tg R) E { s with heap := s.heap.push { cls := .type "range", data := .fields #[.int lo t, .int hi u, .int 1 v] }, toks := tk } := by
  refine wpAny_pyIter_range (IsRange.new ..) (small_one h1 h2 h3 h4) ?_
  have I1 : Inv X pins σ H { s with heap := s.heap.push { cls := .type "range", data := .fields #[.int lo t, .int hi u, .int 1 v] }, toks := tk } := I.kept fun b o e => Heap.get?_push_of_some _ e
  refine ⟨(s.heap.push { cls := .type "range", data := .fields #[.int lo t, .int hi u, .int 1 v] }).objs.size, [(s.heap.push { cls := .type "range", data := .fields #[.int lo t, .int hi u, .int 1 v] }).objs.size], _, _, H, rfl,
    I1.kept (t' := tk) fun b o e => Heap.get?_push_of_some _ e, turn_range _ lo (hi - lo).toNat, ?_, fun b hb => ?_, q⟩
  · have e1 : lo + ((0 : Nat) : Int) * 1 = lo := by simp
    have e2 : (((hi - lo).toNat : Nat) : Int) - ((0 : Nat) : Int) = Builtin.Range.rangeSize lo hi 1 := by rw [rangeSize_one]; split <;> omega
    show IsRangeIter _ _ (lo + ((0 : Nat) : Int) * 1) ((((hi - lo).toNat : Nat) : Int) - ((0 : Nat) : Int)) 1
    rw [e1, e2]
    exact Heap.get?_push_size _ rfl
  · have e : b = (s.heap.push { cls := .type "range", data := .fields #[.int lo t, .int hi u, .int 1 v] }).objs.size := by simpa using hb
    subst e
    exact I1.fpOk (Nat.le_refl _) (I1.hok.fresh (Nat.le_refl _))
def iRng1 (ta : TA) : TI := fun σ H R => ta σ H fun vs H1 => ∃ j : Int, vs = [.int j] ∧ -(2 ^ 62) ≤ j ∧ j < 2 ^ 62 ∧ R (Itr 0 j.toNat) H1
def iRng2 (ta : TA) : TI := fun σ H R => ta σ H fun vs H1 => ∃ i j : Int, vs = [.int i, .int j] ∧ (-(2 ^ 62) ≤ i ∧ i < 2 ^ 62 ∧ -(2 ^ 62) ≤ j ∧ j < 2 ^ 62) ∧ R (Itr i (j - i).toNat) H1
theorem pi_range1 {a : Expr} {ta : TA} {p pos : Pos} (hg : Gl X "range") (hm : X.mg "range" = none) (ha : PA X [a] ta) (hs : starEach [a] X.env = [(false, eval a X.env)] := by rfl) : PI X tg (.Call (.Name "range" p) [a] [] pos) (iRng1 ta) := by
  intro pins s σ H R I h
  refine Call_ (ld_blt I hg hm boot_range (PyProof.Rows.callWith_type1 (thn (ha pos pins s σ H _ I h) fun us s1 ⟨vs, H1, I1, r1, q1⟩ => ?_) hs rfl))
  obtain ⟨j, e, q1, q2, q⟩ := q1
  subst e
  cases r1 with
  | cons r rr =>
    cases rr
    obtain ⟨t, rfl⟩ := r
    exact call_range_1 (range_it I1 (by omega) (by omega) q1 q2 (by simpa using q))
theorem pi_range2 {a b : Expr} {ta : TA} {p pos : Pos} (hg : Gl X "range") (hm : X.mg "range" = none) (ha : PA X [a, b] ta) (hs : starEach [a, b] X.env = [(false, eval a X.env), (false, eval b X.env)] := by rfl) (hs2 : starEach [b] X.env = [(false, eval b X.env)] := by rfl) :
    PI X tg (.Call (.Name "range" p) [a, b] [] pos) (iRng2 ta) := by
  intro pins s σ H R I h
  refine Call_ (ld_blt I hg hm boot_range (PyProof.Rows.callWith_type1 (thn (ha pos pins s σ H _ I h) fun us s1 ⟨vs, H1, I1, r1, q1⟩ => ?_) (by rw [hs, hs2]) (by rw [hs2]; rfl)))
  obtain ⟨i, j, e, ⟨q1, q2, q3, q4⟩, q⟩ := q1
  subst e
  cases r1 with
  | cons r rr =>
    cases rr with
    | cons r' rr =>
      cases rr
      obtain ⟨t, rfl⟩ := r
      obtain ⟨t', rfl⟩ := r'
      exact call_range_2 (range_it I1 q1 q2 q3 q4 q)

/-! ### for -/
/-- W: the invariant by the turn and a measure; N: what the body is to reach -/
def tFor (wi : TI) (g : TG) (tb : TS) : TS := fun D σ H => wi σ H fun J H1 => ∃ W : Nat → Nat → St → Hp → Prop, (∃ m, W 0 m σ H1) ∧ ∀ i m σ H, W i m σ H →
  (J.stop i H ∧ D.nx σ H) ∨ (J.go i H ∧ ∃ N : St → Hp → Prop, (∀ σ' H', N σ' H' → ∃ m', m' < m ∧ W (i + 1) m' σ' H') ∧ ∀ x H', J.yld i H x H' → g x σ H' fun σ2 H2 => tb { D with nx := N, ct := N, bk := D.nx } σ2 H2)
/-- the records at fp as they stand -/
def pinsAt (fp : List Addr) (h : Heap) : List (Addr × Obj) := fp.filterMap fun b => (h.get? b).map fun o => (b, o)
theorem mem_pinsAt {fp : List Addr} {h : Heap} {b : Addr} {o : Obj} (hb : b ∈ fp) (e : h.get? b = some o) : (b, o) ∈ pinsAt fp h := List.mem_filterMap.mpr ⟨b, hb, by rw [e]; rfl⟩
theorem of_pinsAt {fp : List Addr} {h : Heap} {p : Addr × Obj} (hp : p ∈ pinsAt fp h) : p.1 ∈ fp ∧ h.get? p.1 = some p.2 := by
  obtain ⟨b, hb, e⟩ := List.mem_filterMap.mp hp
  cases q : h.get? b with
  | none => rw [q] at e; cases e
  | some o =>
    rw [q] at e
    have e' : (b, o) = p := Option.some.inj e
    subst e'
    exact ⟨hb, q⟩
theorem Inv.pinned {pins : List (Addr × Obj)} {σ : St} {H : Hp} {s : Shared} {fp : List Addr} (I : Inv X pins σ H s) (hf : ∀ b ∈ fp, FpOk X pins H b) (ho : ∀ b ∈ fp, ∃ o, s.heap.get? b = some o ∧ ∀ v, o.data ≠ .cell v) : Inv X (pins ++ pinsAt fp s.heap) σ H s :=
  I.pins_of fun p hp => (List.mem_append.mp hp).elim (fun z => I.pin p (List.mem_append_right _ z)) fun z => by
    obtain ⟨hb, e⟩ := of_pinsAt z
    obtain ⟨f0, f1, f2, _⟩ := hf p.1 hb
    obtain ⟨o, e', d⟩ := ho p.1 hb
    rw [e] at e'; cases e'
    exact ⟨e, f0, f1, f2, d⟩
theorem Inv.unpinned {pins pl : List (Addr × Obj)} {σ : St} {H : Hp} {s : Shared} (I : Inv X (pins ++ pl) σ H s) : Inv X pins σ H s := I.pins_of fun p hp => I.pin p (List.mem_append_right _ (List.mem_append_left _ hp))
theorem ps_for {iter : Expr} {body : List Stmt} {wi : TI} {g : TG} {tb : TS} {pos : Pos} (hp : PassesOwn (model X.prog X.w) X.A X.env X.xe) (hc : X.calm = true) (hi : PI X tg iter wi) (hg : PG X tg g) (hb : PSs X body tb)
    (hs : ∀ x, foldedSetIterable iter X.env x = pure x := by intro _; rfl) : PS X (.For tg iter body [] pos) (tFor wi g tb) := by
  intro pins s σ H D I h
  refine wpAny_For (thn (hi pins s σ H _ I h) fun v s1 h1 => thn h1 fun itv s2 h2 => ?_) hs
  obtain ⟨it, fp, tn, J, H2, e, I2, T, st2, f2, W, ⟨m0, w0⟩, turn⟩ := h2
  subst e
  -- what stays true of the iterator's objects through the loop
  have stat : ∀ {H' : Hp}, (∀ b ∈ fp, H' b = none) → ∀ b ∈ fp, FpOk X pins H' b := fun hn b hb => ⟨hn b hb, (f2 b hb).2⟩
  refine codeAny_forLoop_any (fun n s' => ∃ i σ' H', Inv X pins σ' H' s' ∧ tn i s'.heap ∧ (∀ b ∈ fp, H' b = none) ∧ W i n σ' H') ?_ m0 ⟨0, σ, H2, I2, st2, fun b hb => (f2 b hb).1, w0⟩
  rintro n s3 ⟨i, σ3, H3, I3, st3, fr3, w3⟩
  rcases turn i n σ3 H3 w3 with ⟨stop, qn⟩ | ⟨go, N, hN, step⟩
  · refine wpAny_passesOwn hp (thn (T.done X rfl rfl rfl hc i pins s3 σ3 H3 X.xe I3 (stat fr3) st3 stop) fun r s4 ⟨hr, I4⟩ => ?_)
    subst hr
    exact wpAny_execs_nil ⟨σ3, H3, I4, qn⟩
  · refine wpAny_passesOwn hp (thn (T.item X rfl rfl rfl hc i pins s3 σ3 H3 X.xe I3 (stat fr3) st3 go) fun r s4 ⟨u, hr, h4⟩ => ?_)
    subst hr
    refine wpAny_passesOwn hp (thn h4 fun _ s5 ⟨x, H5, I5, r5, y5, st5, fr5⟩ => ?_)
    have I5' := I5.pinned (stat fr5) (T.obj _ _ st5)
    refine wpAny_passesOwn hp (thn (hg _ s5 σ3 H5 x u _ I5' r5 (step x H5 y5)) fun _ s6 ⟨σ6, H6, I6, q6⟩ => ?_)
    refine wpAny_passesOwn hp (thn (hb _ s6 σ6 H6 _ I6 q6) fun f s7 q7 => ?_)
    have again : ∀ {σ7 : St} {H7 : Hp}, Inv X (pins ++ pinsAt fp s5.heap) σ7 H7 s7 → N σ7 H7 → ∃ m, m < n ∧ ∃ i σ' H', Inv X pins σ' H' s7 ∧ tn i s7.heap ∧ (∀ b ∈ fp, H' b = none) ∧ W i m σ' H' := fun {σ7 H7} I7 n7 => by
      obtain ⟨m', hm, w7⟩ := hN σ7 H7 n7
      refine ⟨m', hm, i + 1, σ7, H7, I7.unpinned, T.keep _ _ _ st5 fun b hb o e => (I7.pin (b, o) (List.mem_append_right _ (List.mem_append_right _ (mem_pinsAt hb e)))).1, fun b hb => ?_, w7⟩
      obtain ⟨o, e, d⟩ := T.obj _ _ st5 b hb
      exact (I7.pin (b, o) (List.mem_append_right _ (List.mem_append_right _ (mem_pinsAt hb e)))).2.1
    cases f with
    | next => obtain ⟨σ7, H7, I7, n7⟩ := q7; exact again I7 n7
    | cont => obtain ⟨σ7, H7, I7, n7⟩ := q7; exact again I7 n7
    | brk => obtain ⟨σ7, H7, I7, q7⟩ := q7; exact ⟨σ7, H7, I7.unpinned, q7⟩
    | ret v => obtain ⟨x7, σ7, H7, I7, r7, q7⟩ := q7; exact ⟨x7, σ7, H7, I7.unpinned, r7, q7⟩
end

/-! ### the forms one uses -/
/-- over a list that the body leaves as it is -/
theorem for_list {K : PySem.W.Frag} {a : Addr} {xs : List V} {g : TG} {tb : TS} {D : Ends} {σ : St} {H : Hp} (Pv : Nat → St → Hp → Prop) (h0 : Pv 0 σ H) (hl : ∀ i σ H, i ≤ xs.length → Pv i σ H → SqL K H a xs)
    (hs : ∀ i x σ H, xs[i]? = some x → Pv i σ H → g x σ H fun σ2 H2 => tb { D with nx := Pv (i + 1), ct := Pv (i + 1), bk := D.nx } σ2 H2) (hd : ∀ σ H, Pv xs.length σ H → D.nx σ H) :
    ∃ W : Nat → Nat → St → Hp → Prop, (∃ m, W 0 m σ H) ∧ ∀ i m σ H, W i m σ H →
      ((Itl K a).stop i H ∧ D.nx σ H) ∨ ((Itl K a).go i H ∧ ∃ N : St → Hp → Prop, (∀ σ' H', N σ' H' → ∃ m', m' < m ∧ W (i + 1) m' σ' H') ∧ ∀ x H', (Itl K a).yld i H x H' → g x σ H' fun σ2 H2 => tb { D with nx := N, ct := N, bk := D.nx } σ2 H2) := by
  refine ⟨fun i m σ H => m = xs.length - i ∧ i ≤ xs.length ∧ Pv i σ H, ⟨xs.length, by simp, Nat.zero_le _, h0⟩, ?_⟩
  rintro i m σ H ⟨rfl, hi, p⟩
  have q := hl i σ H hi p
  by_cases hlt : i < xs.length
  · refine .inr ⟨⟨xs, xs[i], q, by simp [hlt]⟩, Pv (i + 1), fun σ' H' p' => ⟨xs.length - (i + 1), by omega, rfl, hlt, p'⟩, fun x H' y => ?_⟩
    obtain ⟨e, y⟩ := y
    subst e
    exact hs i x σ _ (y xs q) p
  · have e : i = xs.length := by omega
    subst e
    exact .inl ⟨⟨xs, q, Nat.le_refl _⟩, hd σ H p⟩
theorem for_tup {K : PySem.W.Frag} {a : Addr} {xs : List V} {g : TG} {tb : TS} {D : Ends} {σ : St} {H : Hp} (Pv : Nat → St → Hp → Prop) (h0 : Pv 0 σ H) (hl : ∀ i σ H, i ≤ xs.length → Pv i σ H → SqT K H a xs)
    (hs : ∀ i x σ H, xs[i]? = some x → Pv i σ H → g x σ H fun σ2 H2 => tb { D with nx := Pv (i + 1), ct := Pv (i + 1), bk := D.nx } σ2 H2) (hd : ∀ σ H, Pv xs.length σ H → D.nx σ H) :
    ∃ W : Nat → Nat → St → Hp → Prop, (∃ m, W 0 m σ H) ∧ ∀ i m σ H, W i m σ H →
      ((Itt K a).stop i H ∧ D.nx σ H) ∨ ((Itt K a).go i H ∧ ∃ N : St → Hp → Prop, (∀ σ' H', N σ' H' → ∃ m', m' < m ∧ W (i + 1) m' σ' H') ∧ ∀ x H', (Itt K a).yld i H x H' → g x σ H' fun σ2 H2 => tb { D with nx := N, ct := N, bk := D.nx } σ2 H2) := by
  refine ⟨fun i m σ H => m = xs.length - i ∧ i ≤ xs.length ∧ Pv i σ H, ⟨xs.length, by simp, Nat.zero_le _, h0⟩, ?_⟩
  rintro i m σ H ⟨rfl, hi, p⟩
  have q := hl i σ H hi p
  by_cases hlt : i < xs.length
  · refine .inr ⟨⟨xs, xs[i], q, by simp [hlt]⟩, Pv (i + 1), fun σ' H' p' => ⟨xs.length - (i + 1), by omega, rfl, hlt, p'⟩, fun x H' y => ?_⟩
    obtain ⟨e, y⟩ := y
    subst e
    exact hs i x σ _ (y xs q) p
  · have e : i = xs.length := by omega
    subst e
    exact .inl ⟨⟨xs, q, Nat.le_refl _⟩, hd σ H p⟩
theorem for_range {lo : Int} {n : Nat} {g : TG} {tb : TS} {D : Ends} {σ : St} {H : Hp} (Pv : Nat → St → Hp → Prop) (h0 : Pv 0 σ H)
    (hs : ∀ i σ H, i < n → Pv i σ H → g (.int (lo + i)) σ H fun σ2 H2 => tb { D with nx := Pv (i + 1), ct := Pv (i + 1), bk := D.nx } σ2 H2) (hd : ∀ σ H, Pv n σ H → D.nx σ H) :
    ∃ W : Nat → Nat → St → Hp → Prop, (∃ m, W 0 m σ H) ∧ ∀ i m σ H, W i m σ H →
      ((Itr lo n).stop i H ∧ D.nx σ H) ∨ ((Itr lo n).go i H ∧ ∃ N : St → Hp → Prop, (∀ σ' H', N σ' H' → ∃ m', m' < m ∧ W (i + 1) m' σ' H') ∧ ∀ x H', (Itr lo n).yld i H x H' → g x σ H' fun σ2 H2 => tb { D with nx := N, ct := N, bk := D.nx } σ2 H2) := by
  refine ⟨fun i m σ H => m = n - i ∧ i ≤ n ∧ Pv i σ H, ⟨n, by simp, Nat.zero_le _, h0⟩, ?_⟩
  rintro i m σ H ⟨rfl, hi, p⟩
  by_cases hlt : i < n
  · refine .inr ⟨hlt, Pv (i + 1), fun σ' H' p' => ⟨n - (i + 1), by omega, rfl, hlt, p'⟩, fun x H' y => ?_⟩
    obtain ⟨e, y⟩ := y
    subst e y
    exact hs i σ _ hlt p
  · have e : i = n := by omega
    subst e
    exact .inl ⟨Nat.le_refl _, hd σ H p⟩
/-- while, by a word and a measure of the state -/
theorem while_by {c : TT} {tb : TS} {D : Ends} {σ : St} {H : Hp} (Pv : St → Hp → Prop) (μ : St → Hp → Nat) (h0 : Pv σ H)
    (hs : ∀ σ H, Pv σ H → c σ H fun b H1 => if b = true then tb { D with nx := fun σ' H' => Pv σ' H' ∧ μ σ' H' < μ σ H, ct := fun σ' H' => Pv σ' H' ∧ μ σ' H' < μ σ H, bk := D.nx } σ H1 else D.nx σ H1)
    (mono : ∀ σ H Q Q', (∀ b H1, Q b H1 → Q' b H1) → c σ H Q → c σ H Q') : tWhile c tb D σ H := by
  refine ⟨fun m σ H => m = μ σ H ∧ Pv σ H, ⟨_, rfl, h0⟩, ?_⟩
  rintro m σ H ⟨rfl, p⟩
  refine mono σ H _ _ (fun b H1 q => ?_) (hs σ H p)
  cases b with
  | true => exact ⟨_, fun σ' H' ⟨p', l⟩ => ⟨_, l, rfl, p'⟩, q⟩
  | false => exact q
end L2

namespace L2
open PySem PySem.Spec PyProof.Rows

abbrev R2 := V → V → Hp → VK → Prop
/-- a two-place operation on values: f is binaryOp op, inplaceOp op or compareOp op -/
def OpR (X : Cx) (f : Value → Value → Sem Value) (r : R2) : Prop :=
  ∀ (pins : List (Addr × Obj)) (s : Shared) (σ : St) (H : Hp) (x y : V) (v u : Value) (Q : VK), Inv X pins σ H s → RelV x v → RelV y u → r x y H Q →
    wpAny (model X.prog X.w) X.A (f v u) (EP X pins σ Q) X.xe s
/-- a one-place operation -/
def UnR (X : Cx) (f : Value → Sem Value) (r : V → Hp → VK → Prop) : Prop :=
  ∀ (pins : List (Addr × Obj)) (s : Shared) (σ : St) (H : Hp) (x : V) (v : Value) (Q : VK), Inv X pins σ H s → RelV x v → r x H Q →
    wpAny (model X.prog X.w) X.A (f v) (EP X pins σ Q) X.xe s
/-- a call of a value that is known (a builtin, a type) with values -/
def CallR (X : Cx) (f : Value) (r : List V → Hp → VK → Prop) : Prop :=
  ∀ (pins : List (Addr × Obj)) (s : Shared) (σ : St) (H : Hp) (xs : List V) (us : List Value) (Q : VK), Inv X pins σ H s → Vals xs us → r xs H Q →
    wpAny (model X.prog X.w) X.A (call f us) (EP X pins σ Q) X.xe s
/-- a value's truth -/
def TruR (X : Cx) (r : V → Hp → (Bool → Hp → Prop) → Prop) : Prop :=
  ∀ (pins : List (Addr × Obj)) (s : Shared) (σ : St) (H : Hp) (x : V) (v : Value) (Q : Bool → Hp → Prop), Inv X pins σ H s → RelV x v → r x H Q →
    wpAny (model X.prog X.w) X.A (truthy v) (TP X pins σ Q) X.xe s

def tOp (r : R2) (ta tb : TE) : TE := fun σ H Q => ta σ H fun x H1 => tb σ H1 fun y H2 => r x y H2 Q
def tUn (r : V → Hp → VK → Prop) (ta : TE) : TE := fun σ H Q => ta σ H fun x H1 => r x H1 Q
/-- ints in, under C, and a value out -/
def rI (C : Int → Int → Prop) (g : Int → Int → V) : R2 := fun x y H Q => ∃ i j, x = .int i ∧ y = .int j ∧ C i j ∧ Q (g i j) H
def rI0 (g : Int → Int → V) : R2 := fun x y H Q => ∃ i j, x = .int i ∧ y = .int j ∧ Q (g i j) H
def rU (g : Int → V) : V → Hp → VK → Prop := fun x H Q => ∃ i, x = .int i ∧ Q (g i) H

section
variable {X : Cx} {a b c : Expr} {ta tb tc : TE} {pos : Pos}

theorem binT (ha : PE X a ta) (hb : PE X b tb) {pins : List (Addr × Obj)} {s : Shared} {σ : St} {H : Hp} {R : V → V → Hp → Prop} (I : Inv X pins σ H s)
    (h : ta σ H fun x H1 => tb σ H1 fun y H2 => R x y H2) {Q : Value → Shared → Prop} {f : Value → Value → Sem Value}
    (hf : ∀ v u s2 x y H2, Inv X pins σ H2 s2 → RelV x v → RelV y u → R x y H2 → wpAny (model X.prog X.w) X.A (f v u) Q X.xe s2) :
    wpAny (model X.prog X.w) X.A (eval a X.env) (fun v s₁ => wpAny (model X.prog X.w) X.A (eval b X.env) (fun u s₂ => wpAny (model X.prog X.w) X.A (f v u) Q X.xe s₂) X.xe s₁) X.xe s := by
  refine thn (ha pins s σ H _ I h) fun v s1 ⟨x, H1, I1, r1, q1⟩ => ?_
  refine thn (hb pins s1 σ H1 _ I1 q1) fun u s2 ⟨y, H2, I2, r2, q2⟩ => ?_
  exact hf v u s2 x y H2 I2 r1 r2 q2

theorem pe_op {op : Operator} {r : R2} (ho : OpR X (binaryOp op) r) (ha : PE X a ta) (hb : PE X b tb) : PE X (.BinOp a op b pos) (tOp r ta tb) := by
  intro pins s σ H Q I h
  exact wpAny_BinOp (binT ha hb I h fun v u s2 x y H2 I2 rx ry q => ho pins s2 σ H2 x y v u Q I2 rx ry q)
theorem pe_un {op : UnaryOp} {r : V → Hp → VK → Prop} (ho : UnR X (unaryOp op) r) (ha : PE X a ta) : PE X (.UnaryOp op a pos) (tUn r ta) := by
  intro pins s σ H Q I h
  exact UnaryOp_ (thn (ha pins s σ H _ I h) fun v s1 ⟨x, H1, I1, r1, q1⟩ => ho pins s1 σ H1 x v Q I1 r1 q1)
/-- a op= e at a name: the name's slot i -/
theorem augR {op : Operator} {r : R2} (ho : OpR X (inplaceOp op) r) {pins : List (Addr × Obj)} {s : Shared} {σ : St} {H : Hp} {x y : V} {v u : Value} {Q : VK} (I : Inv X pins σ H s)
    (rx : RelV x v) (ry : RelV y u) (q : r x y H Q) : wpAny (model X.prog X.w) X.A (inplaceOp op v u) (EP X pins σ Q) X.xe s := ho pins s σ H x y v u Q I rx ry q

/-! ### ints -/
theorem opI {f : Value → Value → Sem Value} {C : Int → Int → Prop} {g : Int → Int → Int}
    (rule : ∀ (i j : Int) (t u : Tok) (s : Shared) (Q : Value → Shared → Prop) (E : Value → Shared → Prop), C i j → Q (.int (g i j) s.toks) { s with toks := s.toks + 1 } → wpAny (model X.prog X.w) X.A (f (.int i t) (.int j u)) Q E s) :
    OpR X f (rI C fun i j => .int (g i j)) := by
  intro pins s σ H x y v u Q I rx ry h
  obtain ⟨i, j, rfl, rfl, hc, q⟩ := h
  obtain ⟨t, rfl⟩ := rx
  obtain ⟨t', rfl⟩ := ry
  exact rule i j t t' s _ _ hc ⟨.int (g i j), H, I.tok _, ⟨_, rfl⟩, q⟩
theorem opI0 {f : Value → Value → Sem Value} {g : Int → Int → Int}
    (rule : ∀ (i j : Int) (t u : Tok) (s : Shared) (Q : Value → Shared → Prop) (E : Value → Shared → Prop), Q (.int (g i j) s.toks) { s with toks := s.toks + 1 } → wpAny (model X.prog X.w) X.A (f (.int i t) (.int j u)) Q E s) :
    OpR X f (rI0 fun i j => .int (g i j)) := by
  intro pins s σ H x y v u Q I rx ry h
  obtain ⟨i, j, rfl, rfl, q⟩ := h
  obtain ⟨t, rfl⟩ := rx
  obtain ⟨t', rfl⟩ := ry
  exact rule i j t t' s _ _ ⟨.int (g i j), H, I.tok _, ⟨_, rfl⟩, q⟩
theorem opB0 {f : Value → Value → Sem Value} {g : Int → Int → Bool}
    (rule : ∀ (i j : Int) (t u : Tok) (s : Shared) (Q : Value → Shared → Prop) (E : Value → Shared → Prop), Q (.bool (g i j)) s → wpAny (model X.prog X.w) X.A (f (.int i t) (.int j u)) Q E s) :
    OpR X f (rI0 fun i j => .bl (g i j)) := by
  intro pins s σ H x y v u Q I rx ry h
  obtain ⟨i, j, rfl, rfl, q⟩ := h
  obtain ⟨t, rfl⟩ := rx
  obtain ⟨t', rfl⟩ := ry
  exact rule i j t t' s _ _ ⟨.bl (g i j), H, I, rfl, q⟩

def CDiv (i j : Int) : Prop := 0 < j ∧ j < 1073741824
def CDivN (i j : Int) : Prop := j ≠ 0 ∧ j.natAbs < 1073741824
def CPow (i j : Int) : Prop := 0 ≤ j ∧ j ≤ 1000000 ∧ i.natAbs < 2 ^ 64
def CMul (i j : Int) : Prop := (-(2 ^ 64) < i ∧ i < 2 ^ 64) ∨ (-(2 ^ 64) < j ∧ j < 2 ^ 64)
theorem CMul.ok {i j : Int} (h : CMul i j) : IntMulOk i j := by
  rcases h with ⟨h1, h2⟩ | ⟨h1, h2⟩
  · exact .of_left (intBits_le_64 h1 h2)
  · exact .of_right (intBits_le_64 h1 h2)
theorem two_pow_nn (k : Nat) : (0 : Int) ≤ 2 ^ k := by
  rw [two_pow_cast]
  exact Int.natCast_nonneg _

theorem op_add : OpR X (binaryOp .Add) (rI0 fun i j => .int (i + j)) := opI0 fun _ _ _ _ _ _ _ q => add_int q
theorem op_sub : OpR X (binaryOp .Sub) (rI0 fun i j => .int (i - j)) := opI0 fun _ _ _ _ _ _ _ q => sub_int q
theorem op_mul : OpR X (binaryOp .Mult) (rI CMul fun i j => .int (i * j)) := opI fun _ _ _ _ _ _ _ hc q => mul_int q hc.ok
/-- // by a positive divisor -/
theorem op_fdiv : OpR X (binaryOp .FloorDiv) (rI CDiv fun i j => .int (i / j)) := opI fun i j _ _ _ _ _ hc q => by
  have h1 : (0 : Int) < j := hc.1
  have h2 : j < 1073741824 := hc.2
  exact floordiv_int (by omega) (by rw [Int.fdiv_eq_ediv_of_nonneg i (by omega)]; exact q) (.inl (PyProof.noPylong_small (by omega)))
theorem op_fdivN : OpR X (binaryOp .FloorDiv) (rI CDivN fun i j => .int (i.fdiv j)) := opI fun _ _ _ _ _ _ _ hc q => floordiv_int hc.1 q (.inl (PyProof.noPylong_small hc.2))
/-- % by a positive divisor of any size -/
theorem op_mod : OpR X (binaryOp .Mod) (rI (fun _ j => 0 < j) fun i j => .int (i % j)) := opI fun i j _ _ _ _ _ hc q => by
  have h1 : (0 : Int) < j := hc
  exact mod_int' (by omega) (by rw [Int.fmod_eq_emod_of_nonneg i (by omega)]; exact q)
theorem op_modN : OpR X (binaryOp .Mod) (rI (fun _ j => j ≠ 0) fun i j => .int (i.fmod j)) := opI fun _ _ _ _ _ _ _ hc q => mod_int' hc q
theorem op_pow : OpR X (binaryOp .Pow) (rI CPow fun i j => .int (i ^ j.toNat)) := opI fun _ _ _ _ _ _ _ hc q => pow_int_small hc.1 hc.2.1 hc.2.2 q
theorem op_shl : OpR X (binaryOp .LShift) (rI CPow fun i j => .int (i * 2 ^ j.toNat)) := opI fun _ _ _ _ _ _ _ hc q => lshift_int_small hc.1 hc.2.1 hc.2.2 q
theorem op_shr : OpR X (binaryOp .RShift) (rI (fun _ j => 0 ≤ j) fun i j => .int (i / 2 ^ j.toNat)) := opI fun i j _ _ _ _ _ hc q =>
  rshift_int hc (by rw [Int.fdiv_eq_ediv_of_nonneg i (two_pow_nn _)]; exact q)
theorem op_and : OpR X (binaryOp .BitAnd) (rI0 fun i j => .int (Builtin.bitAnd i j)) := opI0 fun _ _ _ _ _ _ _ q => and_int q
theorem op_or : OpR X (binaryOp .BitOr) (rI0 fun i j => .int (Builtin.bitOr i j)) := opI0 fun _ _ _ _ _ _ _ q => or_int q
theorem op_xor : OpR X (binaryOp .BitXor) (rI0 fun i j => .int (Builtin.bitXor i j)) := opI0 fun _ _ _ _ _ _ _ q => xor_int q

theorem iop_add : OpR X (inplaceOp .Add) (rI0 fun i j => .int (i + j)) := opI0 fun _ _ _ _ _ _ _ q => iadd_int q
theorem iop_sub : OpR X (inplaceOp .Sub) (rI0 fun i j => .int (i - j)) := opI0 fun _ _ _ _ _ _ _ q => isub_int q
theorem iop_mul : OpR X (inplaceOp .Mult) (rI CMul fun i j => .int (i * j)) := opI fun _ _ _ _ _ _ _ hc q => imul_int q hc.ok
theorem iop_fdiv : OpR X (inplaceOp .FloorDiv) (rI CDiv fun i j => .int (i / j)) := opI fun i j _ _ _ _ _ hc q => by
  have h1 : (0 : Int) < j := hc.1
  have h2 : j < 1073741824 := hc.2
  exact ifloordiv_int (by omega) (by rw [Int.fdiv_eq_ediv_of_nonneg i (by omega)]; exact q) (.inl (PyProof.noPylong_small (by omega)))
theorem iop_mod : OpR X (inplaceOp .Mod) (rI (fun _ j => 0 < j) fun i j => .int (i % j)) := opI fun i j _ _ _ _ _ hc q => by
  have h1 : (0 : Int) < j := hc
  exact imod_int (by omega) (by rw [Int.fmod_eq_emod_of_nonneg i (by omega)]; exact q)
theorem iop_shl : OpR X (inplaceOp .LShift) (rI CPow fun i j => .int (i * 2 ^ j.toNat)) := opI fun _ _ _ _ _ _ _ hc q => ilshift_int_small hc.1 hc.2.1 hc.2.2 q
theorem iop_shr : OpR X (inplaceOp .RShift) (rI (fun _ j => 0 ≤ j) fun i j => .int (i / 2 ^ j.toNat)) := opI fun i j _ _ _ _ _ hc q =>
  irshift_int hc (by rw [Int.fdiv_eq_ediv_of_nonneg i (two_pow_nn _)]; exact q)
theorem iop_and : OpR X (inplaceOp .BitAnd) (rI0 fun i j => .int (Builtin.bitAnd i j)) := opI0 fun _ _ _ _ _ _ _ q => iand_int q
theorem iop_or : OpR X (inplaceOp .BitOr) (rI0 fun i j => .int (Builtin.bitOr i j)) := opI0 fun _ _ _ _ _ _ _ q => ior_int q
theorem iop_xor : OpR X (inplaceOp .BitXor) (rI0 fun i j => .int (Builtin.bitXor i j)) := opI0 fun _ _ _ _ _ _ _ q => ixor_int q

theorem unI {f : Value → Sem Value} {g : Int → Int}
    (rule : ∀ (i : Int) (t : Tok) (s : Shared) (Q : Value → Shared → Prop) (E : Value → Shared → Prop), Q (.int (g i) s.toks) { s with toks := s.toks + 1 } → wpAny (model X.prog X.w) X.A (f (.int i t)) Q E s) :
    UnR X f (rU fun i => .int (g i)) := by
  intro pins s σ H x v Q I rx h
  obtain ⟨i, rfl, q⟩ := h
  obtain ⟨t, rfl⟩ := rx
  exact rule i t s _ _ ⟨.int (g i), H, I.tok _, ⟨_, rfl⟩, q⟩
theorem un_neg : UnR X (unaryOp .USub) (rU fun i => .int (-i)) := unI fun _ _ _ _ _ q => neg_int q
theorem un_inv : UnR X (unaryOp .Invert) (rU fun i => .int (Builtin.bitNot i)) := unI fun _ _ _ _ _ q => invert_int q

/-! ### bools among ints: n += (a < b) -/
theorem op_add_ib : OpR X (binaryOp .Add) (fun x y H Q => ∃ i k, x = .int i ∧ y = .bl k ∧ Q (.int (i + b2i k)) H) := by
  intro pins s σ H x y v u Q I rx ry h
  obtain ⟨i, k, rfl, rfl, q⟩ := h
  obtain ⟨t, rfl⟩ := rx
  cases ry
  exact add_int_bool ⟨.int (i + b2i k), H, I.tok _, ⟨_, rfl⟩, q⟩
end

/-! ### comparisons -/
/-- the scalars that == tells apart as data does -/
def scal : V → V → Bool
  | .non, .non => true | .non, .int _ => true | .int _, .non => true | .non, .bl _ => true | .bl _, .non => true | .non, .str _ => true | .str _, .non => true
  | .int _, .int _ => true | .bl _, .bl _ => true | .str _, .str _ => true | .byt _, .byt _ => true
  | .int _, .str _ => true | .str _, .int _ => true | .bl _, .str _ => true | .str _, .bl _ => true
  | _, _ => false
def rEq : R2 := fun x y H Q => scal x y = true ∧ Q (.bl (decide (x = y))) H
def rNe : R2 := fun x y H Q => scal x y = true ∧ Q (.bl (!decide (x = y))) H

theorem dec_int {i j : Int} : decide (V.int i = V.int j) = (i == j) := by
  rw [Bool.eq_iff_iff]
  simp
theorem dec_bl {i j : Bool} : decide (V.bl i = V.bl j) = (i == j) := by
  rw [Bool.eq_iff_iff]
  simp
theorem dec_str {i j : Str} : decide (V.str i = V.str j) = (i == j) := by
  rw [Bool.eq_iff_iff]
  simp
theorem dec_byt {i j : Array UInt8} : decide (V.byt i = V.byt j) = (i.toList == j.toList) := by
  rw [Bool.eq_iff_iff]
  cases i
  cases j
  simp

section
variable {X : Cx} {a b c : Expr} {ta tb tc : TE} {pos : Pos}
theorem fin_bl {pins : List (Addr × Obj)} {σ : St} {H : Hp} {s : Shared} {Q : VK} {k k' : Bool} (I : Inv X pins σ H s) (q : Q (.bl k) H) (e : k = k') : EP X pins σ Q (.bool k') s := by
  subst e
  exact ⟨.bl k, H, I, rfl, q⟩
theorem op_eq : OpR X (compareOp .Eq) rEq := by
  intro pins s σ H x y v u Q I rx ry h
  obtain ⟨hs, q⟩ := h
  cases x with
  | non =>
    cases rx
    cases y with
    | non => cases ry; exact PySem.EqNone.eq_none_none (fin_bl I q (by simp))
    | bl j => cases ry; exact PySem.EqNone.eq_none_bool (fin_bl I q (by simp))
    | int j => obtain ⟨t', rfl⟩ := ry; exact PySem.EqNone.eq_none_int (fin_bl I q (by simp))
    | str j => obtain ⟨t', rfl⟩ := ry; exact PySem.EqNone.eq_none_str (fin_bl I q (by simp))
    | _ => exact absurd (show false = true from hs) Bool.false_ne_true
  | bl i =>
    cases rx
    cases y with
    | non => cases ry; exact PySem.EqNone.eq_bool_none (fin_bl I q (by simp))
    | bl j => cases ry; exact eq_bool (fin_bl I q dec_bl)
    | str j => obtain ⟨t', rfl⟩ := ry; exact PySem.EqMixed.eq_bool_str (fin_bl I q (by simp))
    | _ => exact absurd (show false = true from hs) Bool.false_ne_true
  | int i =>
    obtain ⟨t, rfl⟩ := rx
    cases y with
    | non => cases ry; exact PySem.EqNone.eq_int_none (fin_bl I q (by simp))
    | int j => obtain ⟨t', rfl⟩ := ry; exact eq_int (fin_bl I q dec_int)
    | str j => obtain ⟨t', rfl⟩ := ry; exact PySem.EqMixed.eq_int_str (fin_bl I q (by simp))
    | _ => exact absurd (show false = true from hs) Bool.false_ne_true
  | str i =>
    obtain ⟨t, rfl⟩ := rx
    cases y with
    | non => cases ry; exact PySem.EqNone.eq_str_none (fin_bl I q (by simp))
    | bl j => cases ry; exact PySem.EqMixed.eq_str_bool (fin_bl I q (by simp))
    | int j => obtain ⟨t', rfl⟩ := ry; exact PySem.EqMixed.eq_str_int (fin_bl I q (by simp))
    | str j => obtain ⟨t', rfl⟩ := ry; exact eq_str (fin_bl I q dec_str)
    | _ => exact absurd (show false = true from hs) Bool.false_ne_true
  | byt i =>
    obtain ⟨t, rfl⟩ := rx
    cases y with
    | byt j => obtain ⟨t', rfl⟩ := ry; exact PySem.W.eq_bytes (fin_bl I q dec_byt)
    | _ => exact absurd (show false = true from hs) Bool.false_ne_true
  | _ => cases y <;> exact absurd (show false = true from hs) Bool.false_ne_true
theorem op_ne : OpR X (compareOp .NotEq) rNe := by
  intro pins s σ H x y v u Q I rx ry h
  obtain ⟨hs, q⟩ := h
  cases x with
  | non =>
    cases rx
    cases y with
    | non => cases ry; exact PySem.EqNone.ne_none_none (fin_bl I q (by simp))
    | bl j => cases ry; exact PySem.EqNone.ne_none_bool (fin_bl I q (by simp))
    | int j => obtain ⟨t', rfl⟩ := ry; exact PySem.EqNone.ne_none_int (fin_bl I q (by simp))
    | str j => obtain ⟨t', rfl⟩ := ry; exact PySem.EqNone.ne_none_str (fin_bl I q (by simp))
    | _ => exact absurd (show false = true from hs) Bool.false_ne_true
  | bl i =>
    cases rx
    cases y with
    | non => cases ry; exact PySem.EqNone.ne_bool_none (fin_bl I q (by simp))
    | bl j => cases ry; exact ne_bool (fin_bl I q (congrArg not dec_bl))
    | str j => obtain ⟨t', rfl⟩ := ry; exact PySem.EqMixed.ne_bool_str (fin_bl I q (by simp))
    | _ => exact absurd (show false = true from hs) Bool.false_ne_true
  | int i =>
    obtain ⟨t, rfl⟩ := rx
    cases y with
    | non => cases ry; exact PySem.EqNone.ne_int_none (fin_bl I q (by simp))
    | int j => obtain ⟨t', rfl⟩ := ry; exact ne_int (fin_bl I q (congrArg not dec_int))
    | str j => obtain ⟨t', rfl⟩ := ry; exact PySem.EqMixed.ne_int_str (fin_bl I q (by simp))
    | _ => exact absurd (show false = true from hs) Bool.false_ne_true
  | str i =>
    obtain ⟨t, rfl⟩ := rx
    cases y with
    | non => cases ry; exact PySem.EqNone.ne_str_none (fin_bl I q (by simp))
    | bl j => cases ry; exact PySem.EqMixed.ne_str_bool (fin_bl I q (by simp))
    | int j => obtain ⟨t', rfl⟩ := ry; exact PySem.EqMixed.ne_str_int (fin_bl I q (by simp))
    | str j => obtain ⟨t', rfl⟩ := ry; exact ne_str (fin_bl I q (congrArg not dec_str))
    | _ => exact absurd (show false = true from hs) Bool.false_ne_true
  | byt i =>
    obtain ⟨t, rfl⟩ := rx
    cases y with
    | byt j => obtain ⟨t', rfl⟩ := ry; exact PySem.W.ne_bytes (fin_bl I q (congrArg not dec_byt))
    | _ => exact absurd (show false = true from hs) Bool.false_ne_true
  | _ => cases y <;> exact absurd (show false = true from hs) Bool.false_ne_true

theorem op_lt : OpR X (compareOp .Lt) (rI0 fun i j => .bl (decide (i < j))) := opB0 fun _ _ _ _ _ _ _ q => lt_int q
theorem op_le : OpR X (compareOp .LtE) (rI0 fun i j => .bl (decide (i ≤ j))) := opB0 fun _ _ _ _ _ _ _ q => le_int q
theorem op_gt : OpR X (compareOp .Gt) (rI0 fun i j => .bl (decide (j < i))) := opB0 fun _ _ _ _ _ _ _ q => gt_int q
theorem op_ge : OpR X (compareOp .GtE) (rI0 fun i j => .bl (decide (j ≤ i))) := opB0 fun _ _ _ _ _ _ _ q => ge_int q
theorem op_lt_str : OpR X (compareOp .Lt) (fun x y H Q => ∃ i j, x = .str i ∧ y = .str j ∧ Q (.bl (decide (i.cps.toList < j.cps.toList))) H) := by
  intro pins s σ H x y v u Q I rx ry h
  obtain ⟨i, j, rfl, rfl, q⟩ := h
  obtain ⟨t, rfl⟩ := rx
  obtain ⟨t', rfl⟩ := ry
  exact lt_str (fin_bl I q rfl)
/-- the one string within the other -/
theorem op_in_str : OpR X (compareOp .In) (fun x y H Q => ∃ i j, x = .str i ∧ y = .str j ∧ Q (.bl (!(Builtin.Str.occurrences j i 0 j.length 1).isEmpty)) H) := by
  intro pins s σ H x y v u Q I rx ry h
  obtain ⟨i, j, rfl, rfl, q⟩ := h
  obtain ⟨t, rfl⟩ := rx
  obtain ⟨t', rfl⟩ := ry
  exact in_str (fin_bl I q rfl)

/-- is None, is not None: the right side a value none -/
theorem op_isN : OpR X (compareOp .Is) (fun x y H Q => y = .non ∧ Q (.bl (decide (x = .non))) H) := by
  intro pins s σ H x y v u Q I rx ry h
  obtain ⟨rfl, q⟩ := h
  cases ry
  refine is_none_gen (fin_bl I q ?_)
  cases x <;> first
    | (cases rx; rfl)
    | (obtain ⟨t, rfl⟩ := rx; rfl)
theorem op_notN : OpR X (compareOp .IsNot) (fun x y H Q => y = .non ∧ Q (.bl (!decide (x = .non))) H) := by
  intro pins s σ H x y v u Q I rx ry h
  obtain ⟨rfl, q⟩ := h
  cases ry
  refine isnot_none_gen (fin_bl I q ?_)
  cases x <;> first
    | (cases rx; rfl)
    | (obtain ⟨t, rfl⟩ := rx; rfl)

theorem op_notin_str : OpR X (compareOp .NotIn) (fun x y H Q => ∃ i j, x = .str i ∧ y = .str j ∧ Q (.bl (!(!(Builtin.Str.occurrences j i 0 j.length 1).isEmpty))) H) := by
  intro pins s σ H x y v u Q I rx ry h
  obtain ⟨i, j, rfl, rfl, q⟩ := h
  obtain ⟨t, rfl⟩ := rx
  obtain ⟨t', rfl⟩ := ry
  exact notIn_str (fin_bl I q rfl)
/-- is, is not of two objects that are tracked lists or instances -/
def isObj : HO → Bool
  | .lst _ => true
  | .ins _ _ _ => true
  | _ => false
theorem obj_there {pins : List (Addr × Obj)} {s : Shared} {σ : St} {H : Hp} {a : Addr} {o : HO} (I : Inv X pins σ H s) (h : H a = some o) (p : isObj o = true) : ∃ ob, s.heap.get? a = some ob ∧ ob.cls ≠ .type "tuple" := by
  cases o with
  | lst xs =>
    obtain ⟨_, its, n, _, e⟩ : xs.length ≤ sizeLine ∧ ∃ (its : List Value) (n : Nat), Vals xs its ∧ s.heap.get? a = some { cls := .type "list", data := .seq its.toArray n } := I.hok a _ h
    exact ⟨_, e, (by show Value.type "list" ≠ .type "tuple"; decide +kernel)⟩
  | ins C dx fs =>
    have x := I.hok a _ h
    obtain ⟨_, _, _, e, _⟩ := x
    exact ⟨_, e, (by show Value.ref C ≠ .type "tuple"; exact fun z => by cases z)⟩
  | _ => exact absurd (show false = true from p) Bool.false_ne_true
theorem op_is_ref : OpR X (compareOp .Is) (fun x y H Q => ∃ a b oa ob, x = .ref a ∧ y = .ref b ∧ H a = some oa ∧ isObj oa = true ∧ H b = some ob ∧ isObj ob = true ∧ Q (.bl (decide (a = b))) H) := by
  intro pins s σ H x y v u Q I rx ry h
  obtain ⟨a, b, oa, ob, rfl, rfl, ha, pa, hb, pb, q⟩ := h
  cases rx
  cases ry
  obtain ⟨o1, e1, n1⟩ := obj_there I ha pa
  obtain ⟨o2, e2, _⟩ := obj_there I hb pb
  by_cases z : a = b
  · subst z
    exact wpAny_is_ref_self (fin_bl I q (by simp))
  · exact wpAny_is_ref_other z e1 e2 n1 (fin_bl I q (by simp [z]))
theorem op_isnot_ref : OpR X (compareOp .IsNot) (fun x y H Q => ∃ a b oa ob, x = .ref a ∧ y = .ref b ∧ H a = some oa ∧ isObj oa = true ∧ H b = some ob ∧ isObj ob = true ∧ Q (.bl (!decide (a = b))) H) := by
  intro pins s σ H x y v u Q I rx ry h
  obtain ⟨a, b, oa, ob, rfl, rfl, ha, pa, hb, pb, q⟩ := h
  cases rx
  cases ry
  obtain ⟨o1, e1, n1⟩ := obj_there I ha pa
  obtain ⟨o2, e2, _⟩ := obj_there I hb pb
  by_cases z : a = b
  · subst z
    exact wpAny_isNot_ref_self (fin_bl I q (by simp))
  · exact wpAny_isNot_ref_other z e1 e2 n1 (fin_bl I q (by simp [z]))

/-- two rules for one operation: by cases -/
theorem OpR.or {f : Value → Value → Sem Value} {r r' : R2} (h : OpR X f r) (h' : OpR X f r') : OpR X f (fun x y H Q => r x y H Q ∨ r' x y H Q) := by
  intro pins s σ H x y v u Q I rx ry q
  rcases q with q | q
  · exact h pins s σ H x y v u Q I rx ry q
  · exact h' pins s σ H x y v u Q I rx ry q

theorem nomark (b : Expr) {op : CmpOp} (h : op ≠ .In := by decide) (h2 : op ≠ .NotIn := by decide) : behindInMarks op b = false := by
  have e1 : (op == CmpOp.In) = false := by cases op <;> first | rfl | exact absurd rfl h
  have e2 : (op == CmpOp.NotIn) = false := by cases op <;> first | rfl | exact absurd rfl h2
  cases b <;> simp [behindInMarks, e1, e2]
/-- a comparison as a value; hm: nomark b, or (for in, not in) by with_unfolding_all rfl -/
theorem pe_cmpR {op : CmpOp} {r : R2} (ho : OpR X (compareOp op) r) (ha : PE X a ta) (hb : PE X b tb) (hm : behindInMarks op b = false) : PE X (.Compare a [op] [b] pos) (tOp r ta tb) := by
  intro pins s σ H Q I h
  exact wpAny_Compare1 (binT ha hb I h fun v u s2 x y H2 I2 rx ry q => ho pins s2 σ H2 x y v u Q I2 rx ry q) hm
/-- a reading of a value as a test -/
def tTest (t : TE) : TT := fun σ H Q => t σ H fun x H' => ∃ k, x = .bl k ∧ Q k H'
theorem pt_cmpR {op : CmpOp} {r : R2} (ho : OpR X (compareOp op) r) (ha : PE X a ta) (hb : PE X b tb) (hm : behindInMarks op b = false) : PT X (.Compare a [op] [b] pos) (tTest (tOp r ta tb)) := by
  intro pins s σ H Q I h
  refine wpAny_isTrue_Compare1 (thn (ha pins s σ H _ I h) fun v s1 ⟨x, H1, I1, r1, q1⟩ => thn (hb pins s1 σ H1 _ I1 q1) fun u s2 ⟨y, H2, I2, r2, q2⟩ =>
    thn (ho pins s2 σ H2 x y v u _ I2 r1 r2 q2) fun c s3 ⟨z, H3, I3, r3, k, e, q3⟩ => ?_) hm
  subst e
  cases r3
  exact wpAny_truthy_bool ⟨H3, I3, q3⟩
/-- a op1 b op2 c -/
def tChain (r r' : R2) (ta tb tc : TE) : TE := fun σ H Q => ta σ H fun x H1 => tb σ H1 fun y H2 => r x y H2 fun z H3 => ∃ k, z = .bl k ∧
  (if k = true then tc σ H3 fun w' H4 => r' y w' H4 Q else Q (.bl false) H3)
theorem pe_chain {op op' : CmpOp} {r r' : R2} (ho : OpR X (compareOp op) r) (ho' : OpR X (compareOp op') r') (ha : PE X a ta) (hb : PE X b tb) (hc : PE X c tc)
    (hm : lastMarks [op, op'] [b, c] = false := by with_unfolding_all rfl) : PE X (.Compare a [op, op'] [b, c] pos) (tChain r r' ta tb tc) := by
  intro pins s σ H Q I h
  refine Compare_chain (thn (ha pins s σ H _ I h) fun v s1 ⟨x, H1, I1, r1, q1⟩ => chain_link (thn (hb pins s1 σ H1 _ I1 q1) fun u s2 ⟨y, H2, I2, r2, q2⟩ =>
    thn (ho pins s2 σ H2 x y v u _ I2 r1 r2 q2) fun d s3 ⟨z, H3, I3, r3, k, e, q3⟩ => ?_)) hm
  subst e
  cases r3
  refine wpAny_truthy_bool ?_
  cases k with
  | false => exact ite_ff ⟨.bl false, H3, I3, rfl, q3⟩
  | true => exact ite_tt (chain_last (thn (hc pins s3 σ H3 _ I3 q3) fun w' s4 ⟨z', H4, I4, r4, q4⟩ => ho' pins s4 σ H4 y z' u w' Q I4 r2 r4 q4))
theorem pt_chain {op op' : CmpOp} {r r' : R2} (ho : OpR X (compareOp op) r) (ho' : OpR X (compareOp op') r') (ha : PE X a ta) (hb : PE X b tb) (hc : PE X c tc)
    (hm : lastMarks [op, op'] [b, c] = false := by with_unfolding_all rfl) : PT X (.Compare a [op, op'] [b, c] pos) (tTest (tChain r r' ta tb tc)) := by
  intro pins s σ H Q I h
  refine isTrue_chain (thn (ha pins s σ H _ I h) fun v s1 ⟨x, H1, I1, r1, q1⟩ => test_link (thn (hb pins s1 σ H1 _ I1 q1) fun u s2 ⟨y, H2, I2, r2, q2⟩ =>
    thn (ho pins s2 σ H2 x y v u _ I2 r1 r2 q2) fun d s3 ⟨z, H3, I3, r3, k, e, q3⟩ => ?_)) hm
  subst e
  cases r3
  refine wpAny_truthy_bool ?_
  cases k with
  | false =>
    obtain ⟨k', e', q'⟩ := q3
    cases e'
    exact ite_ff ⟨H3, I3, q'⟩
  | true =>
    refine ite_tt (test_last (thn (hc pins s3 σ H3 _ I3 q3) fun w' s4 ⟨z', H4, I4, r4, q4⟩ => thn (ho' pins s4 σ H4 y z' u w' _ I4 r2 r4 q4) fun d' s5 ⟨z2, H5, I5, r5, k2, e2, q5⟩ => ?_))
    subst e2
    cases r5
    exact wpAny_truthy_bool ⟨H5, I5, q5⟩

/-! ### truth -/
/-- a value's truth by the abstract heap -/
def TruV (K : PySem.W.Frag) (x : V) (H : Hp) (k : Bool) : Prop :=
  match x with
  | .non => k = false
  | .bl b => k = b
  | .int i => k = (i != 0)
  | .str y => y.length ≤ sizeLine ∧ k = ((y.length : Int) != 0)
  | .byt y => y.size ≤ sizeLine ∧ k = ((y.size : Int) != 0)
  | .ref p => (∃ xs, SqL K H p xs ∧ k = !xs.isEmpty) ∨ (∃ xs, SqT K H p xs ∧ k = !xs.isEmpty) ∨ ∃ kvs, H p = some (.dK kvs) ∧ k = !kvs.isEmpty
  | _ => False
theorem isEmpty_kv {κ : Type} {kvs : List (κ × V)} {vs : List (κ × Value)} (r : KV kvs vs) : (!vs.isEmpty) = !kvs.isEmpty := by
  cases r <;> rfl
theorem isEmpty_of {xs : List V} {its : List Value} (r : Vals xs its) : (!its.toArray.isEmpty) = !xs.isEmpty := by
  cases r <;> simp
theorem line63 : (sizeLine : Nat) < 2 ^ 63 := by rw [sizeLine_eq]; decide
theorem tru_ok : TruR X (fun x H Q => ∃ k, TruV X.K x H k ∧ Q k H) := by
  intro pins s σ H x v Q I rx h
  obtain ⟨k, e, q⟩ := h
  have hl := line63
  have hs : sizeLine = 16777216 := sizeLine_eq
  cases x with
  | non =>
    cases rx
    have e' : k = false := e
    subst e'
    exact truthy_none ⟨H, I, q⟩
  | bl b =>
    cases rx
    have e' : k = b := e
    subst e'
    exact wpAny_truthy_bool ⟨H, I, q⟩
  | int i =>
    obtain ⟨t, rfl⟩ := rx
    have e' : k = (i != 0) := e
    subst e'
    exact PySem.P.truthy_int ⟨H, I, q⟩
  | str y =>
    obtain ⟨t, rfl⟩ := rx
    obtain ⟨hy, e'⟩ : y.length ≤ sizeLine ∧ k = ((y.length : Int) != 0) := e
    subst e'
    exact PySem.P.truthy_str (by omega) ⟨H, I.tok _, q⟩
  | byt y =>
    obtain ⟨t, rfl⟩ := rx
    obtain ⟨hy, e'⟩ : y.size ≤ sizeLine ∧ k = ((y.size : Int) != 0) := e
    subst e'
    exact PySem.W.truthy_bytes (by omega) ⟨H, I.tok _, q⟩
  | ref p =>
    cases rx
    have e' : (∃ xs, SqL X.K H p xs ∧ k = !xs.isEmpty) ∨ (∃ xs, SqT X.K H p xs ∧ k = !xs.isEmpty) ∨ ∃ kvs, H p = some (.dK kvs) ∧ k = !kvs.isEmpty := e
    rcases e' with ⟨xs, hx, e'⟩ | ⟨xs, hx, e'⟩ | ⟨kvs, hx, e'⟩
    · subst e'
      obtain ⟨its, r, pl, hz⟩ := I.list hx
      have hlen := r.length
      exact wpAny_truthy_list pl.isList (by simp only [List.size_toArray]; omega) ⟨H, I.tok _, by rw [isEmpty_of r]; exact q⟩
    · subst e'
      obtain ⟨its, r, pl, hz⟩ := I.tuple hx
      have hlen := r.length
      exact truthy_tuple pl (by simp only [List.size_toArray]; omega) ⟨H, I.tok _, by rw [isEmpty_of r]; exact q⟩
    · subst e'
      obtain ⟨hz, hS, vs, r, m⟩ : kvs.length ≤ sizeLine ∧ (p == sysModules) = false ∧ ∃ vs, KV kvs vs ∧ s.heap.DictOf (mixKind X.prog X.w) p vs := I.hok p _ hx
      have hlen : kvs.length = vs.length := Paired.length r
      exact wpAny_truthy_dict hS m (by omega) ⟨H, I.tok _, by rw [isEmpty_kv r]; exact q⟩
  | _ => exact (show False from e).elim
/-- any expression whose test is its value's truth (a name, a call, a subscript, a field ..: he by fun _ => rfl) -/
theorem pt_truth (ha : PE X a ta) (he : ∀ whole, isTrue a X.env whole = (do let v ← whole; standAt a.pos; holding [v] (truthy v))) :
    PT X a (fun σ H Q => ta σ H fun x H' => ∃ k, TruV X.K x H' k ∧ Q k H') := by
  intro pins s σ H Q I h
  exact isTrue_plain (thn (ha pins s σ H _ I h) fun v s1 ⟨x, H1, I1, r1, q1⟩ => tru_ok pins s1 σ H1 x v Q I1 r1 q1) (he _)

/-! ### strs and bytes -/
theorem pe_byt {x : List UInt8} {k : Nat} : PE X (.Constant (.bytes x) k pos) (fun _ H Q => Q (.byt x.toArray) H) := fun _ _ _ H _ I h => PySem.W.Constant_bytes ⟨.byt x.toArray, H, I.tok _, ⟨_, rfl⟩, h⟩
theorem op_add_str : OpR X (binaryOp .Add) (fun x y H Q => ∃ i j, x = .str i ∧ y = .str j ∧ i.length + j.length ≤ sizeLine ∧ Q (.str (i ++ j)) H) := by
  intro pins s σ H x y v u Q I rx ry h
  obtain ⟨i, j, rfl, rfl, hz, q⟩ := h
  obtain ⟨t, rfl⟩ := rx
  obtain ⟨t', rfl⟩ := ry
  exact add_str (fun t' tk => ⟨.str (i ++ j), H, I.tok _, ⟨_, rfl⟩, q⟩) hz
theorem iop_add_str : OpR X (inplaceOp .Add) (fun x y H Q => ∃ i j, x = .str i ∧ y = .str j ∧ i.length + j.length ≤ sizeLine ∧ Q (.str (i ++ j)) H) := by
  intro pins s σ H x y v u Q I rx ry h
  obtain ⟨i, j, rfl, rfl, hz, q⟩ := h
  obtain ⟨t, rfl⟩ := rx
  obtain ⟨t', rfl⟩ := ry
  exact iadd_str (fun t' tk => ⟨.str (i ++ j), H, I.tok _, ⟨_, rfl⟩, q⟩) hz
theorem op_add_byt : OpR X (binaryOp .Add) (fun x y H Q => ∃ i j, x = .byt i ∧ y = .byt j ∧ i.size + j.size ≤ 16777216 ∧ Q (.byt (i ++ j)) H) := by
  intro pins s σ H x y v u Q I rx ry h
  obtain ⟨i, j, rfl, rfl, hz, q⟩ := h
  obtain ⟨t, rfl⟩ := rx
  obtain ⟨t', rfl⟩ := ry
  exact PySem.W.KBy.add_bytes hz (fun t' tk => ⟨.byt (i ++ j), H, I.tok _, ⟨_, rfl⟩, q⟩)

def PlainIxT (b : Expr) : Prop := ∀ o i, subscripted b false o i = operate [o, i] (getItem o i)
/-- s[i], 0 ≤ i < len -/
theorem pe_item_str (ha : PE X a ta) (hb : PE X b tb) (hs : PlainIxT b) :
    PE X (.Subscript a b pos) (tOp (fun x y H Q => ∃ z i c, x = .str z ∧ y = .int i ∧ 0 ≤ i ∧ i < 2 ^ 63 ∧ i < z.length ∧ z.cps[i.toNat]? = some c ∧ Q (.str ⟨#[c]⟩) H) ta tb) := by
  intro pins s σ H Q I h
  refine Subscript_ (binT ha hb I h fun v u s2 x y H2 I2 rx ry q => ?_)
  obtain ⟨z, i, c, rfl, rfl, h0, h63, h1, hc, q⟩ := q
  obtain ⟨t, rfl⟩ := rx
  obtain ⟨t', rfl⟩ := ry
  have e : seqIndex? i z.length = some i.toNat := PySem.StrLaws.seqIndex_nonneg h0 h1
  exact tail_any (typeIs_str s2 z t) slot_str_getitem.lookup (getItem_str (c := c) (by
    have e1 : decide (i < -(2 ^ 63 : Int)) = false := decide_eq_false (by omega)
    have e2 : decide (i ≥ 2 ^ 63) = false := decide_eq_false (by omega)
    rw [e1, e2] <;> rfl) (by rw [e]; exact hc) ⟨.str ⟨#[c]⟩, H2, I2.tok _, ⟨_, rfl⟩, q⟩) (hs _ _)
/-- b[i], 0 ≤ i < len -/
theorem pe_item_byt (ha : PE X a ta) (hb : PE X b tb) (hs : PlainIxT b) :
    PE X (.Subscript a b pos) (tOp (fun x y H Q => ∃ (z : List UInt8) (i : Int), x = .byt z.toArray ∧ y = .int i ∧ z.length ≤ sizeLine ∧ 0 ≤ i ∧ i < z.length ∧ Q (.int ((z.getD i.toNat 0).toNat : Nat)) H) ta tb) := by
  intro pins s σ H Q I h
  refine Subscript_ (binT ha hb I h fun v u s2 x y H2 I2 rx ry q => ?_)
  obtain ⟨z, i, rfl, rfl, hz, h0, h1, q⟩ := q
  obtain ⟨t, rfl⟩ := rx
  obtain ⟨t', rfl⟩ := ry
  have hl : sizeLine = 16777216 := sizeLine_eq
  exact tail_any (PySem.W.typeIs_bytes s2 z.toArray t) PySem.W.FB.slot_bytes_getitem.lookup (PySem.W.getItem_bytes (by omega) h0 h1 ⟨.int ((z.getD i.toNat 0).toNat : Nat), H2, I2.tok _, ⟨_, rfl⟩, q⟩) (hs _ _)

/-! ### scalar builtins, by CallR -/
theorem vals1 {x : V} {us : List Value} (r : Vals [x] us) : ∃ u, us = [u] ∧ RelV x u := by
  cases r with
  | cons r1 r2 => cases r2; exact ⟨_, rfl, r1⟩
theorem vals2 {x y : V} {us : List Value} (r : Vals [x, y] us) : ∃ u w', us = [u, w'] ∧ RelV x u ∧ RelV y w' := by
  cases r with
  | cons r1 r2 =>
    cases r2 with
    | cons r3 r4 => cases r4; exact ⟨_, _, rfl, r1, r3⟩
theorem call_abs : CallR X (.builtin "abs") (fun xs H Q => ∃ i, xs = [.int i] ∧ Q (.int (if i < 0 then -i else i)) H) := by
  intro pins s σ H xs us Q I r h
  obtain ⟨i, rfl, q⟩ := h
  obtain ⟨u, rfl, t, rfl⟩ := vals1 r
  exact call_abs_int fun u tk => ⟨.int (if i < 0 then -i else i), H, I.tok _, ⟨_, rfl⟩, q⟩
theorem call_max2 (hc : X.calm = true) : CallR X (.builtin "max") (fun xs H Q => ∃ i j, xs = [.int i, .int j] ∧ Q (.int (if j > i then j else i)) H) := by
  intro pins s σ H xs us Q I r h
  obtain ⟨i, j, rfl, q⟩ := h
  obtain ⟨u, w', rfl, ⟨t, rfl⟩, ⟨t', rfl⟩⟩ := vals2 r
  refine max_two_ints (I.ok.hd hc) fun h' tk k => ⟨_, H, I.kept k, ?_, q⟩
  by_cases hj : j > i
  · rw [if_pos hj, if_pos hj]; exact ⟨_, rfl⟩
  · rw [if_neg hj, if_neg hj]; exact ⟨_, rfl⟩
theorem call_min2 (hc : X.calm = true) : CallR X (.builtin "min") (fun xs H Q => ∃ i j, xs = [.int i, .int j] ∧ Q (.int (if j < i then j else i)) H) := by
  intro pins s σ H xs us Q I r h
  obtain ⟨i, j, rfl, q⟩ := h
  obtain ⟨u, w', rfl, ⟨t, rfl⟩, ⟨t', rfl⟩⟩ := vals2 r
  refine min_two_ints (I.ok.hd hc) fun h' tk k => ⟨_, H, I.kept k, ?_, q⟩
  by_cases hj : j < i
  · rw [if_pos hj, if_pos hj]; exact ⟨_, rfl⟩
  · rw [if_neg hj, if_neg hj]; exact ⟨_, rfl⟩
theorem call_int1 : CallR X (.type "int") (fun xs H Q => (∃ i, xs = [.int i] ∧ Q (.int i) H) ∨ ∃ k, xs = [.bl k] ∧ Q (.int (if k then 1 else 0)) H) := by
  intro pins s σ H xs us Q I r h
  rcases h with ⟨i, rfl, q⟩ | ⟨k, rfl, q⟩
  · obtain ⟨u, rfl, t, rfl⟩ := vals1 r
    exact call_int_int ⟨.int i, H, I, ⟨_, rfl⟩, q⟩
  · obtain ⟨u, rfl, r1⟩ := vals1 r
    cases r1
    exact call_int_bool ⟨.int (if k then 1 else 0), H, I.tok _, ⟨_, rfl⟩, q⟩
theorem call_bool1 : CallR X (.type "bool") (fun xs H Q => (∃ i, xs = [.int i] ∧ Q (.bl (i != 0)) H) ∨ ∃ k, xs = [.bl k] ∧ Q (.bl k) H) := by
  intro pins s σ H xs us Q I r h
  rcases h with ⟨i, rfl, q⟩ | ⟨k, rfl, q⟩
  · obtain ⟨u, rfl, t, rfl⟩ := vals1 r
    exact call_bool_int ⟨.bl (i != 0), H, I, rfl, q⟩
  · obtain ⟨u, rfl, r1⟩ := vals1 r
    cases r1
    exact call_bool_bool ⟨.bl k, H, I, rfl, q⟩
theorem call_str_int : CallR X (.type "str") (fun xs H Q => ∃ i, xs = [.int i] ∧ i.natAbs.log2 < 1920 ∧ Q (.str (toString i)) H) := by
  intro pins s σ H xs us Q I r h
  obtain ⟨i, rfl, hz, q⟩ := h
  obtain ⟨u, rfl, t, rfl⟩ := vals1 r
  exact PySem.P.str_of_int hz ⟨.str _, H, I.tok _, ⟨_, rfl⟩, q⟩
theorem call_ord : CallR X (.builtin "ord") (fun xs H Q => ∃ x, xs = [.str x] ∧ x.length = 1 ∧ Q (.int (x.cps.getD 0 0 : Nat)) H) := by
  intro pins s σ H xs us Q I r h
  obtain ⟨x, rfl, hz, q⟩ := h
  obtain ⟨u, rfl, t, rfl⟩ := vals1 r
  exact ord_of_one hz ⟨.int _, H, I.tok _, ⟨_, rfl⟩, q⟩
theorem call_chr : CallR X (.builtin "chr") (fun xs H Q => ∃ i, xs = [.int i] ∧ 0 ≤ i ∧ i ≤ 1114111 ∧ Q (.str ⟨#[i.toNat]⟩) H) := by
  intro pins s σ H xs us Q I r h
  obtain ⟨i, rfl, h0, h1, q⟩ := h
  obtain ⟨u, rfl, t, rfl⟩ := vals1 r
  exact chr_of_range h0 h1 ⟨.str _, H, I.tok _, ⟨_, rfl⟩, q⟩
/-- len of a str, a bytes, a list, a tuple -/
def LenV (K : PySem.W.Frag) (x : V) (H : Hp) (n : Nat) : Prop :=
  match x with
  | .str y => y.length ≤ sizeLine ∧ n = y.length
  | .byt y => y.size ≤ sizeLine ∧ n = y.size
  | .ref p => (∃ xs, SqL K H p xs ∧ n = xs.length) ∨ ∃ xs, SqT K H p xs ∧ n = xs.length
  | _ => False
theorem call_len : CallR X (.builtin "len") (fun xs H Q => ∃ x n, xs = [x] ∧ LenV X.K x H n ∧ Q (.int n) H) := by
  intro pins s σ H xs us Q I r h
  obtain ⟨x, n, rfl, e, q⟩ := h
  obtain ⟨u, rfl, rx⟩ := vals1 r
  have hl := line63
  have hs : sizeLine = 16777216 := sizeLine_eq
  cases x with
  | str y =>
    obtain ⟨t, rfl⟩ := rx
    obtain ⟨hy, e'⟩ : y.length ≤ sizeLine ∧ n = y.length := e
    subst e'
    exact len_str (by omega) ⟨.int _, H, I.tok _, ⟨_, rfl⟩, q⟩
  | byt y =>
    obtain ⟨t, rfl⟩ := rx
    obtain ⟨hy, e'⟩ : y.size ≤ sizeLine ∧ n = y.size := e
    subst e'
    exact PySem.W.len_bytes (by omega) ⟨.int _, H, I.tok _, ⟨_, rfl⟩, q⟩
  | ref p =>
    cases rx
    have e' : (∃ xs, SqL X.K H p xs ∧ n = xs.length) ∨ ∃ xs, SqT X.K H p xs ∧ n = xs.length := e
    rcases e' with ⟨xs, hx, e'⟩ | ⟨xs, hx, e'⟩
    · subst e'
      obtain ⟨its, r', pl, hz⟩ := I.list hx
      have hlen := r'.length
      exact Calls.call_len_list pl.isList (by simp only [List.size_toArray]; omega) ⟨.int xs.length, H, I.tok _, ⟨_, by simp only [List.size_toArray]; rw [hlen]⟩, q⟩
    · subst e'
      obtain ⟨its, r', pl, hz⟩ := I.tuple hx
      have hlen := r'.length
      exact len_tuple pl (by simp only [List.size_toArray]; omega) ⟨.int xs.length, H, I.tok _, ⟨_, by simp only [List.size_toArray]; rw [hlen]⟩, q⟩
  | _ => exact (show False from e).elim
/-- divmod: a new tuple -/
theorem call_divmod : CallR X (.builtin "divmod") (fun xs H Q => ∃ i j, xs = [.int i, .int j] ∧ CDiv i j ∧ ∀ p, H p = none → Q (.ref p) (upd H p (.tup [.int (i / j), .int (i % j)]))) := by
  intro pins s σ H xs us Q I r h
  obtain ⟨i, j, rfl, ⟨h1, h2⟩, q⟩ := h
  obtain ⟨u, w', rfl, ⟨t, rfl⟩, ⟨t', rfl⟩⟩ := vals2 r
  refine divmod_int (by omega) ?_ (.inl (PyProof.noPylong_small (by omega)))
  rw [Int.fdiv_eq_ediv_of_nonneg i (by omega), Int.fmod_eq_emod_of_nonneg i (by omega)]
  have hn : H s.heap.objs.size = none := I.hok.fresh (Nat.le_refl _)
  refine ⟨.ref s.heap.objs.size, _, ?_, rfl, q _ hn⟩
  refine I.laid (fun b o e => Heap.get?_push_of_some _ e) (Nat.le_refl _) ⟨by simp only [List.length_cons, List.length_nil]; rw [sizeLine_eq]; decide, [.int (i / j) s.toks, .int (i % j) (s.toks + 1)], .cons ⟨_, rfl⟩ (.cons ⟨_, rfl⟩ .nil), ?_⟩
  exact ⟨_, Heap.get?_push_size s.heap rfl, rfl, 0, rfl⟩
end
end L2

namespace L2
open PySem PySem.Spec PyProof.Rows

/-! ### an instance, its attributes a map -/
structure ObjM (h : Heap) (x dx C : Addr) (mA : Str → Option Value) : Prop where
  obj : h.get? x = some (PySem.W.instObj C dx)
  ns : h.Ns1 dx mA
  ne : dx ≠ x

theorem lookIn_ns {h : Heap} {dx : Addr} {mA : Str → Option Value} (n : h.Ns1 dx mA) : ∃ od, h.get? dx = some od ∧ ∀ name, PySem.W.lookIn name od = some (mA name) := by
  obtain ⟨o, es, ep, ho, hd, hk, _, hm⟩ := n
  refine ⟨o, ho, fun name => ?_⟩
  have e := hm name
  unfold nsFind findBy at e
  rw [← Array.find?_toList] at e
  unfold PySem.W.lookIn
  rw [hd]
  dsimp only
  split
  · rename_i y q
    rw [q] at e
    exact congrArg some e
  · rename_i q
    rw [q] at e
    have a : es.toList.any (·.refKey) = false := by
      rw [List.any_eq_false]
      intro y hy
      obtain ⟨z, t, hkey⟩ := hk y (Array.mem_toList_iff.mp hy)
      simp [DictEntry.refKey, hkey]
    have a' : ¬ es.toList.any (·.refKey) = true := by rw [a]; exact Bool.false_ne_true
    rw [if_neg a']
    exact congrArg some e

theorem ObjM.look {h : Heap} {x dx C : Addr} {mA : Str → Option Value} (I : ObjM h x dx C mA) : ∃ od, PySem.W.InstAt h x (PySem.W.instObj C dx) C (some od) ∧ ∀ name, PySem.W.lookIn name od = some (mA name) :=
  let ⟨od, ho, hl⟩ := lookIn_ns I.ns
  ⟨od, ⟨I.obj, rfl, rfl, ho⟩, hl⟩

section
variable {prog : Program} {w : World} {A : Around} {E : Value → Shared → Prop} {s : Shared} {K : PySem.W.Frag} {x dx C f : Addr} {mA : Str → Option Value} {name : Str} {v : Value}

theorem get_map {expr : Bool} {Q : Value → Shared → Prop} (X : K.In s.heap) (I : ObjM s.heap x dx C mA) (hg : PySem.W.plainGet K C name = true) (hh : PySem.W.hasDictIn K C = true)
    (ha : PySem.W.findIn K (.ref C) name = some none) (hv : mA name = some v) (hv' : PySem.W.handedIn v = true) (h : Q v { s with toks := s.toks + 1 }) :
    wpAny (model prog w) A (getAttr (.ref x) name expr) Q E s := by
  obtain ⟨od, J, hl⟩ := I.look
  exact PySem.W.get_value X J (PySem.W.plainGet_of hg).1 (PySem.W.findObj_own hh ha rfl (by rw [hl, hv])) hv' h

theorem get_const {expr : Bool} {a : Value} {Q : Value → Shared → Prop} (X : K.In s.heap) (I : ObjM s.heap x dx C mA) (hg : PySem.W.plainGet K C name = true) (hh : PySem.W.hasDictIn K C = true)
    (ha : PySem.W.findIn K (.ref C) name = some (some a)) (hn : PySem.W.specialIn K a "__get__" = some none) (hc : PySem.W.copiedNames.contains name = false) (hv : mA name = none) (hv' : PySem.W.handedIn a = true)
    (h : Q a { s with toks := s.toks + 1 }) : wpAny (model prog w) A (getAttr (.ref x) name expr) Q E s := by
  obtain ⟨od, J, hl⟩ := I.look
  exact PySem.W.get_value X J (PySem.W.plainGet_of hg).1 (PySem.W.findObj_cls hh ha hn hv' hc (by rw [hl, hv])) hv' h

theorem get_meth {pl : Sem Bool} {Q : Value × List Value → Shared → Prop} (X : K.In s.heap) (I : ObjM s.heap x dx C mA) (hg : PySem.W.plainGet K C name = true)
    (hf : PySem.W.findIn K (.ref C) name = some (some (.ref f))) (ht : PySem.W.isFn K (.ref f) = true) (hv : mA name = none) (h : Q (.ref f, [.ref x]) s) :
    wpAny (model prog w) A (getMethod (.ref x) name pl) Q E s := by
  obtain ⟨od, J, hl⟩ := I.look
  exact PySem.W.method_fn X J (PySem.W.plainGet_of hg).1 (PySem.W.plainGet_of hg).2 hf (beq_iff_eq.mp ht) (by show (PySem.W.lookIn name od).map (·.isSome) = some false; rw [hl, hv]; rfl) h

theorem set_map {ns : List Str} {Q : Unit → Shared → Prop} (X : K.In s.heap) (I : ObjM s.heap x dx C mA)
    (hs : PySem.W.findIn K (.ref C) "__setattr__" = some (some (.builtin "object.__setattr__"))) (hp : PySem.W.plainOver K C = true) (ht : PySem.W.takerIn K C name = some none) (hh : PySem.W.hasDictIn K C = true)
    (hw : PySem.Within mA ns) (hsz : ns.length ≤ sizeLine)
    (h : ∀ h', ObjM h' x dx C (fun y => if y = name then some v else mA y) → Heap.SameBut dx s.heap h' → Q () { s with heap := h', toks := s.toks + 2 }) :
    wpAny (model prog w) A (setAttr (.ref x) name v) Q E s := by
  obtain ⟨od, J, hl⟩ := I.look
  refine PySem.W.set_plain X J hs (PySem.W.osa_open (s := { s with toks := s.toks + 1 }) (r := none) X J hp ht fun b => ?_)
  obtain ⟨cd, hc, hd'⟩ := PySem.W.any_some hh
  have hx : s.heap.get? x = some ⟨.ref C, some dx, .plain, #[]⟩ := I.obj
  refine wpAny_bind (wpAny_pure (wpAny_bind (wpAny_bind (wpAny_loadPart hx (wpAny_bind (PySem.W.Looks.here (s := { s with toks := s.toks + 1 }) (PySem.W.looks_clsIn X hc) ?_))))))
  rw [hd']
  refine wpAny_pure (a := some dx) (wpAny_bind (wpAny_pure (wpAny_bind ?_)))
  refine wpAny_nsSet1 (s := { s with toks := s.toks + 1 }) I.ns fun h' hn2 hs2 => ?_
  obtain ⟨oD, esD, epD, hoD, hdD, hcD⟩ := hn2.count (PySem.Within.cons name v hw)
  refine wpAny_bind (wpAny_lookBehind hoD (by rw [hdD]; exact pastItsLine_dict (Nat.le_trans hcD (by rw [List.length_cons]; omega))) ?_)
  exact wpAny_pure (h _ ⟨(hs2.2 _ (Ne.symm I.ne)).trans I.obj, hn2, I.ne⟩ hs2)

/-- C(..): the dict at the heap's end, the instance behind it; then its __init__ -/
theorem make_map {R : Result → Shared → Prop} {vs : List Value} {kw : List (Str × Value)} (X : K.In s.heap) (hm : PySem.W.makesIn K C = true)
    (hi : PySem.W.findIn K (.ref C) "__init__" = some (some (.ref f))) (hf : PySem.W.typeIn K (.ref f) = some (.type "function"))
    (h : codeAny (model prog w) (A.under (.builtin "type.__call__" ⟨.ref C :: vs, kw⟩)) (.call (.ref f) ⟨.ref (s.heap.objs.size + 1) :: vs, kw⟩) (PySem.W.InitBack (s.heap.objs.size + 1) R)
      { s with heap := (s.heap.push PySem.W.emptyDict).push (PySem.W.instObj C s.heap.objs.size) }) :
    codeAny (model prog w) A (.call (.ref C) ⟨vs, kw⟩) R s := by
  obtain ⟨hh, g, d, t, os⟩ := s
  exact PySem.W.make_core (PySem.W.makes_of X hm) (PySem.W.looks_findIn X hi) (fun self => PySem.W.bind_fn X self hf) (.inl rfl) h
/-- C() where there is no __init__ but object's -/
theorem make_map0 {R : Result → Shared → Prop} (X : K.In s.heap) (hm : PySem.W.makesIn K C = true)
    (hi : PySem.W.findIn K (.ref C) "__init__" = some (some (.builtin "object.__init__")))
    (hb : ∀ self, PySem.W.Looks (model prog w) s.heap (bindSpecial (.builtin "object.__init__") self) (.builtin "object.__init__", [self]))
    (h : codeAny (model prog w) (A.under (.builtin "type.__call__" ⟨[.ref C], []⟩)) (.call (.builtin "object.__init__") ⟨[.ref (s.heap.objs.size + 1)], []⟩) (PySem.W.InitBack (s.heap.objs.size + 1) R)
      { s with heap := (s.heap.push PySem.W.emptyDict).push (PySem.W.instObj C s.heap.objs.size) }) :
    codeAny (model prog w) A (.call (.ref C) ⟨[], []⟩) R s := by
  obtain ⟨hh, g, d, t, os⟩ := s
  exact PySem.W.make_core (PySem.W.makes_of X hm) (PySem.W.looks_findIn X hi) hb (.inr ⟨rfl, rfl⟩) h
end

/-! ### the attributes as a list of pairs -/
def putF (f : Str) (v : V) : List (Str × V) → List (Str × V)
  | [] => [(f, v)]
  | (g, x) :: r => if g = f then (g, v) :: r else (g, x) :: putF f v r
theorem lookup_putF (f g : Str) (v : V) : ∀ fs : List (Str × V), (putF f v fs).lookup g = if g = f then some v else fs.lookup g
  | [] => by
    show List.lookup g [(f, v)] = _
    by_cases h : g = f
    · have hb : (g == f) = true := beq_iff_eq.mpr h
      simp only [List.lookup, hb, if_pos h]
    · have hb : (g == f) = false := beq_eq_false_iff_ne.mpr h
      simp only [List.lookup, hb, if_neg h]
  | (k, x) :: r => by
    have ih := lookup_putF f g v r
    rw [show putF f v ((k, x) :: r) = (if k = f then (k, v) :: r else (k, x) :: putF f v r) from rfl]
    by_cases hk : k = f
    · rw [if_pos hk]
      by_cases h : g = k
      · have hb : (g == k) = true := beq_iff_eq.mpr h
        simp only [List.lookup, hb, if_pos (h.trans hk)]
      · have hb : (g == k) = false := beq_eq_false_iff_ne.mpr h
        simp only [List.lookup, hb, if_neg (fun e : g = f => h (e.trans hk.symm))]
    · rw [if_neg hk]
      by_cases h : g = k
      · have hb : (g == k) = true := beq_iff_eq.mpr h
        simp only [List.lookup, hb, if_neg (fun e : g = f => hk (h.symm.trans e))]
      · have hb : (g == k) = false := beq_eq_false_iff_ne.mpr h
        simp only [List.lookup, hb]
        exact ih
theorem keys_putF (f : Str) (v : V) : ∀ fs : List (Str × V), f ∈ (putF f v fs).map (·.1) ∧ ∀ g, g ∈ fs.map (·.1) → g ∈ (putF f v fs).map (·.1)
  | [] => ⟨by simp [putF], fun g h => by simp at h⟩
  | (k, x) :: r => by
    obtain ⟨i1, i2⟩ := keys_putF f v r
    rw [show putF f v ((k, x) :: r) = (if k = f then (k, v) :: r else (k, x) :: putF f v r) from rfl]
    by_cases hk : k = f
    · rw [if_pos hk]
      subst hk
      exact ⟨by simp, fun g h => by simpa using h⟩
    · rw [if_neg hk]
      refine ⟨?_, fun g h => ?_⟩
      · rw [List.map_cons]
        exact List.mem_cons_of_mem _ i1
      · rw [List.map_cons] at h ⊢
        rcases List.mem_cons.mp h with e | e
        · exact List.mem_cons.mpr (.inl e)
        · exact List.mem_cons_of_mem _ (i2 g e)
theorem length_putF (f : Str) (v : V) : ∀ fs : List (Str × V), (putF f v fs).length ≤ fs.length + 1
  | [] => by simp [putF]
  | (k, x) :: r => by
    have ih := length_putF f v r
    rw [show putF f v ((k, x) :: r) = (if k = f then (k, v) :: r else (k, x) :: putF f v r) from rfl]
    by_cases hk : k = f
    · rw [if_pos hk, List.length_cons, List.length_cons]; omega
    · rw [if_neg hk, List.length_cons, List.length_cons]; omega

theorem RelO.some_of {v : V} {o : Option Value} (r : RelO (some v) o) : ∃ u, o = some u ∧ RelV v u := by
  cases o with
  | none => exact (show False from r).elim
  | some u => exact ⟨u, rfl, r⟩
theorem RelO.none_of {o : Option Value} (r : RelO none o) : o = none := by
  cases o with
  | none => rfl
  | some u => exact (show False from r).elim
theorem handed_of {v : V} {u : Value} (r : RelV v u) : PySem.W.handedIn u = true := by
  cases v with
  | non => cases (show u = Value.none from r); rfl
  | bl b => cases (show u = Value.bool b from r); rfl
  | int i => obtain ⟨t, e⟩ := (show ∃ t, u = Value.int i t from r); cases e; rfl
  | str x => obtain ⟨t, e⟩ := (show ∃ t, u = Value.str x t from r); cases e; rfl
  | byt b => obtain ⟨t, e⟩ := (show ∃ t, u = Value.bytes b t from r); cases e; rfl
  | flt b => obtain ⟨t, e⟩ := (show ∃ t, u = Value.float b t from r); cases e; rfl
  | ref a => cases (show u = Value.ref a from r); rfl
  | ty n => cases (show u = Value.type n from r); rfl

section
variable {P : Program} {w : World} {H H' : Hp} {h h' : Heap} {a C dx : Addr} {fs fs' : List (Str × V)}
theorem ins_get (hok : HOk P w H h) (e : H a = some (.ins C dx fs)) : ∃ mA, ObjM h a dx C mA ∧ (∀ f, RelO (fs.lookup f) (mA f)) ∧ PySem.Within mA (fs.map (·.1)) ∧ fs.length ≤ 1000 ∧ H dx = some (.own a) := by
  obtain ⟨d, z, ne, ob, mA, n, r, q⟩ := (show ObjOk P w H h a (.ins C dx fs) from hok a _ e)
  exact ⟨mA, ⟨ob, n, ne⟩, r, q, z, d⟩
end

/-! ### what of the text a class must have -/
structure Cls (K : PySem.W.Frag) (C : Addr) : Prop where
  pg : PySem.W.plainGet K C Str.empty = true
  hd : PySem.W.hasDictIn K C = true
  po : PySem.W.plainOver K C = true
  sa : PySem.W.findIn K (.ref C) "__setattr__" = some (some (.builtin "object.__setattr__"))
theorem Cls.get {K : PySem.W.Frag} {C : Addr} (c : Cls K C) (f : Str) : PySem.W.plainGet K C f = true := c.pg
/-- no class of it has the name -/
def NoAttr (K : PySem.W.Frag) (C : Addr) (f : Str) : Prop := PySem.W.findIn K (.ref C) f = some none
theorem NoAttr.taker {K : PySem.W.Frag} {C : Addr} {f : Str} (n : NoAttr K C f) : PySem.W.takerIn K C f = some none := by
  unfold PySem.W.takerIn
  rw [show PySem.W.findIn K (.ref C) f = some none from n]
  rfl
/-- a constant of the class -/
structure Con (K : PySem.W.Frag) (C : Addr) (f : Str) (v : V) (u : Value) : Prop where
  at_ : PySem.W.findIn K (.ref C) f = some (some u)
  rel : RelV v u
  get : PySem.W.specialIn K u "__get__" = some none
  cp : PySem.W.copiedNames.contains f = false
/-- a method: a plain def of the class or of one above it -/
structure Meth (K : PySem.W.Frag) (C : Addr) (m : Str) (f : Addr) : Prop where
  at_ : PySem.W.findIn K (.ref C) m = some (some (.ref f))
  fn : PySem.W.isFn K (.ref f) = true
  kp : PySem.W.keepIn K (.ref f) = true

section
variable {X : Cx} {pins : List (Addr × Obj)} {σ : St} {H : Hp} {s : Shared} {a C dx : Addr} {fs : List (Str × V)} {f : Str} {v : V} {A : Around} {E : Value → Shared → Prop}

theorem getattr_ok {b : Bool} {Q : Value → Shared → Prop} (I : Inv X pins σ H s) (e : H a = some (.ins C dx fs)) (c : Cls X.K C) (n : NoAttr X.K C f) (l : fs.lookup f = some v)
    (h : ∀ u s', Inv X pins σ H s' → RelV v u → Q u s') : wpAny (model X.prog X.w) A (getAttr (.ref a) f b) Q E s := by
  obtain ⟨mA, O, r, _, _, _⟩ := ins_get I.hok e
  obtain ⟨u, hu, ru⟩ := RelO.some_of (v := v) (o := mA f) (by rw [← l]; exact r f)
  exact get_map I.kIn O (c.get f) c.hd n hu (handed_of ru) (h u _ (I.tok _) ru)

theorem getcon_ok {b : Bool} {u : Value} {Q : Value → Shared → Prop} (I : Inv X pins σ H s) (e : H a = some (.ins C dx fs)) (c : Cls X.K C) (k : Con X.K C f v u) (l : fs.lookup f = none)
    (h : ∀ s', Inv X pins σ H s' → Q u s') : wpAny (model X.prog X.w) A (getAttr (.ref a) f b) Q E s := by
  obtain ⟨mA, O, r, _, _, _⟩ := ins_get I.hok e
  have hn : mA f = none := RelO.none_of (by rw [← l]; exact r f)
  exact get_const I.kIn O (c.get f) c.hd k.at_ k.get k.cp hn (handed_of k.rel) (h _ (I.tok _))

theorem getmeth_ok {m : Str} {g : Addr} {pl : Sem Bool} {Q : Value × List Value → Shared → Prop} (I : Inv X pins σ H s) (e : H a = some (.ins C dx fs)) (c : Cls X.K C) (k : Meth X.K C m g) (l : fs.lookup m = none)
    (h : Q (.ref g, [.ref a]) s) : wpAny (model X.prog X.w) A (getMethod (.ref a) m pl) Q E s := by
  obtain ⟨mA, O, r, _, _, _⟩ := ins_get I.hok e
  have hn : mA m = none := RelO.none_of (by rw [← l]; exact r m)
  exact get_meth I.kIn O (c.get m) k.at_ k.fn hn h

theorem setattr_ok {y : V} {u : Value} {Q : Unit → Shared → Prop} (I : Inv X pins σ H s) (e : H a = some (.ins C dx fs)) (c : Cls X.K C) (n : NoAttr X.K C f) (hl : fs.length < 1000) (ry : RelV y u)
    (h : ∀ s', Inv X pins σ (upd H a (.ins C dx (putF f y fs))) s' → Q () s') : wpAny (model X.prog X.w) A (setAttr (.ref a) f u) Q E s := by
  obtain ⟨mA, O, r, wi, _, ho⟩ := ins_get I.hok e
  have hz : (fs.map (·.1)).length ≤ sizeLine := by rw [List.length_map, sizeLine_eq]; omega
  refine set_map I.kIn O c.sa c.po n.taker c.hd wi hz fun h' O' sb => h _ ?_
  have hd : ∃ o, h'.get? dx = some o := let ⟨o, _, _, e', _⟩ := O'.ns; ⟨o, e'⟩
  refine I.write (x := a) (e := dx) (by rw [e]; exact True.intro) (.inr ho) (fun b q hb z => (sb.2 b hb).trans z) hd ?_
  refine ⟨by rw [upd_ne O.ne]; exact ho, ?_, O.ne, O'.obj, _, O'.ns, fun g => ?_, fun g hg => ?_⟩
  · have := length_putF f y fs; omega
  · show RelO ((putF f y fs).lookup g) (if g = f then some u else mA g)
    rw [lookup_putF]
    by_cases q : g = f
    · rw [if_pos q, if_pos q]; exact ry
    · rw [if_neg q, if_neg q]; exact r g
  · by_cases q : g = f
    · rw [q]; exact (keys_putF f y fs).1
    · refine (keys_putF f y fs).2 g (wi g fun z => hg ?_)
      show (if g = f then some u else mA g) = none
      rw [if_neg q]; exact z

/-- a new instance, tracked, without attributes -/
theorem Inv.made (I : Inv X pins σ H s) : Inv X pins σ (upd (upd H s.heap.objs.size (.own (s.heap.objs.size + 1))) (s.heap.objs.size + 1) (.ins C s.heap.objs.size []))
    { s with heap := (s.heap.push PySem.W.emptyDict).push (PySem.W.instObj C s.heap.objs.size) } := by
  have e1 : (s.heap.push PySem.W.emptyDict).get? s.heap.objs.size = some PySem.W.emptyDict := Heap.get?_push_size s.heap rfl
  have e2 : ((s.heap.push PySem.W.emptyDict).push (PySem.W.instObj C s.heap.objs.size)).get? (s.heap.objs.size + 1) = some (PySem.W.instObj C s.heap.objs.size) := by
    have := Heap.get?_push_size (s.heap.push PySem.W.emptyDict) (o := PySem.W.instObj C s.heap.objs.size) rfl
    rwa [Heap.size_push] at this
  have e3 : (s.heap.push PySem.W.emptyDict).Ns s.heap.objs.size (fun _ => none) := ⟨PySem.W.emptyDict, #[], _, e1, rfl, (fun e he => absurd he (by simp)), fun _ => rfl⟩
  have I1 := I.laid (a := s.heap.objs.size) (o := .own (s.heap.objs.size + 1)) (h' := s.heap.push PySem.W.emptyDict) (t' := s.toks) (fun b u q => Heap.get?_push_of_some _ q) (Nat.le_refl _) ⟨_, e1⟩
  refine I1.laid (a := s.heap.objs.size + 1) (o := .ins C s.heap.objs.size []) (t' := s.toks) (fun b u q => Heap.get?_push_of_some _ q) (Nat.le_of_eq (Heap.size_push _ _)) ?_
  have ne : s.heap.objs.size ≠ s.heap.objs.size + 1 := Nat.ne_of_lt (Nat.lt_succ_self _)
  refine ⟨by rw [upd_ne ne, upd_same], Nat.zero_le _, ne, e2, fun _ => none, (Heap.Ns1.of_empty e3).at fun o q => Heap.get?_push_of_some _ q, fun _ => True.intro, fun y hy => absurd rfl hy⟩

/-- e.f where nothing but the object is asked: through attributeBase (super) and the last hold -/
theorem attr_of {prog : Program} {w : World} {env : Env} {e : Expr} {f : Str} {pos : Pos} {s : Shared} {Q : Value → Shared → Prop} (hb : attributeBase e f env (eval e env) = eval e env)
    (h : wpAny (model prog w) A (eval e env) (fun o s₁ => wpAny (model prog w) A (getAttr o f true) Q E s₁) E s) : wpAny (model prog w) A (eval (.Attribute e f pos) env) Q E s :=
  Attribute_any_ h (by rw [arm_eval_Attribute, hb])
end

/-! ### readings and rules -/
/-- e.f, an attribute of the instance -/
def tFld (K : PySem.W.Frag) (ta : TE) (f : Str) : TE := fun σ H Q => ta σ H fun x H1 => ∃ a C dx fs v, x = .ref a ∧ H1 a = some (.ins C dx fs) ∧ Cls K C ∧ NoAttr K C f ∧ fs.lookup f = some v ∧ Q v H1
/-- e.f, a constant of the class -/
def tCon (K : PySem.W.Frag) (ta : TE) (f : Str) : TE := fun σ H Q => ta σ H fun x H1 => ∃ a C dx fs v u, x = .ref a ∧ H1 a = some (.ins C dx fs) ∧ Cls K C ∧ Con K C f v u ∧ fs.lookup f = none ∧ Q v H1
/-- e.f = value -/
def sFld (K : PySem.W.Frag) (ta tv : TE) (f : Str) : TS := fun D σ H => tv σ H fun y H1 => ta σ H1 fun x H2 => ∃ a C dx fs, x = .ref a ∧ H2 a = some (.ins C dx fs) ∧ Cls K C ∧ NoAttr K C f ∧ fs.length < 1000 ∧
  D.nx σ (upd H2 a (.ins C dx (putF f y fs)))
/-- an augmented operator on two values -/
def InOp (X : Cx) (op : Operator) (rd : V → V → Hp → VK → Prop) : Prop :=
  ∀ (pins : List (Addr × Obj)) (s : Shared) (σ : St) (H : Hp) (x y : V) (u v : Value) (Q : VK), Inv X pins σ H s → RelV x u → RelV y v → rd x y H Q → wpAny (model X.prog X.w) X.A (inplaceOp op u v) (EP X pins σ Q) X.xe s
/-- e.f op= value -/
def sFldAug (K : PySem.W.Frag) (ta tv : TE) (rd : V → V → Hp → VK → Prop) (f : Str) : TS := fun D σ H => ta σ H fun x H1 => ∃ a C dx fs v, x = .ref a ∧ H1 a = some (.ins C dx fs) ∧ Cls K C ∧ NoAttr K C f ∧ fs.lookup f = some v ∧
  tv σ H1 fun y H2 => rd v y H2 fun z H3 => ∃ dx' fs', H3 a = some (.ins C dx' fs') ∧ fs'.length < 1000 ∧ D.nx σ (upd H3 a (.ins C dx' (putF f z fs')))

section
variable {X : Cx} {o e value : Expr} {f : Str} {pos pos' tpos : Pos} {ta tv : TE}
theorem pe_fld (he : PE X e ta) (hb : attributeBase e f X.env (eval e X.env) = eval e X.env) : PE X (.Attribute e f pos) (tFld X.K ta f) := by
  intro pins s σ H Q I h
  refine attr_of hb (thn (he pins s σ H _ I h) fun u s1 ⟨x, H1, I1, rx, a, C, dx, fs, v, ex, ea, c, n, l, q⟩ => ?_)
  subst ex
  obtain rfl : u = Value.ref a := rx
  exact getattr_ok I1 ea c n l fun u' s2 I2 ru => ⟨v, H1, I2, ru, q⟩
theorem pe_con (he : PE X e ta) (hb : attributeBase e f X.env (eval e X.env) = eval e X.env) : PE X (.Attribute e f pos) (tCon X.K ta f) := by
  intro pins s σ H Q I h
  refine attr_of hb (thn (he pins s σ H _ I h) fun u s1 ⟨x, H1, I1, rx, a, C, dx, fs, v, u0, ex, ea, c, k, l, q⟩ => ?_)
  subst ex
  obtain rfl : u = Value.ref a := rx
  exact getcon_ok I1 ea c k l fun s2 I2 => ⟨v, H1, I2, k.rel, q⟩
theorem ps_fld (ha : PE X o ta) (hv : PE X value tv) (hs : swapsWith value (some (.Attribute o f pos')) pos.line X.env = pure false) : PS X (.Assign [.Attribute o f pos'] value pos) (sFld X.K ta tv f) := by
  intro pins s σ H D I h
  refine plainObj_wpAny_Assign_Attribute (thn (hv pins s σ H _ I h) fun u s1 ⟨y, H1, I1, ry, q⟩ => thn (ha pins s1 σ H1 _ I1 q) fun ov s2 ⟨x, H2, I2, rx, a, C, dx, fs, ex, ea, c, n, l, q2⟩ => ?_) hs
  subst ex
  obtain rfl : ov = Value.ref a := rx
  exact setattr_ok I2 ea c n l ry fun s3 I3 => ⟨σ, _, I3, q2⟩
theorem ps_fldaug {op : Operator} {rd : V → V → Hp → VK → Prop} (ha : PE X o ta) (hv : PE X value tv) (hop : InOp X op rd) : PS X (.AugAssign (.Attribute o f tpos) op value pos) (sFldAug X.K ta tv rd f) := by
  intro pins s σ H D I h
  refine wpAny_AugAssign_AttributeAny (thn (ha pins s σ H _ I h) fun ov s1 ⟨x, H1, I1, rx, a, C, dx, fs, v, ex, ea, c, n, l, q⟩ => ?_)
  subst ex
  obtain rfl : ov = Value.ref a := rx
  refine getattr_ok I1 ea c n l fun u s2 I2 ru => thn (hv pins s2 σ H1 _ I2 q) fun w3 s3 ⟨y, H2, I3, ry, q3⟩ => thn (hop pins s3 σ H2 v y u w3 _ I3 ru ry q3) fun w4 s4 ⟨z, H3, I4, rz, dx', fs', ea', l', q4⟩ => ?_
  exact setattr_ok I4 ea' c n l' rz fun s5 I5 => ⟨σ, _, I5, q4⟩
def rAdd : V → V → Hp → VK → Prop := fun x y H Q => ∃ i j, x = .int i ∧ y = .int j ∧ Q (.int (i + j)) H
def rSub : V → V → Hp → VK → Prop := fun x y H Q => ∃ i j, x = .int i ∧ y = .int j ∧ Q (.int (i - j)) H
theorem in_add : InOp X .Add rAdd := by
  rintro pins s σ H x y u v Q I rx ry ⟨i, j, rfl, rfl, q⟩
  obtain ⟨t, rfl⟩ := (show ∃ t, u = Value.int i t from rx)
  obtain ⟨t', rfl⟩ := (show ∃ t', v = Value.int j t' from ry)
  exact PyProof.Rows.iadd_int ⟨.int (i + j), H, I.tok _, ⟨_, rfl⟩, q⟩
theorem in_sub : InOp X .Sub rSub := by
  rintro pins s σ H x y u v Q I rx ry ⟨i, j, rfl, rfl, q⟩
  obtain ⟨t, rfl⟩ := (show ∃ t, u = Value.int i t from rx)
  obtain ⟨t', rfl⟩ := (show ∃ t', v = Value.int j t' from ry)
  exact PyProof.Rows.isub_int ⟨.int (i - j), H, I.tok _, ⟨_, rfl⟩, q⟩

/-- what is between an instance and its method: the tree of a method call -/
theorem methcall_of {pl : Sem Bool} {m : Str} {apos : Pos} {args : List Expr} {pins : List (Addr × Obj)} {s : Shared} {σ : St} {H : Hp} {Q : Value → Shared → Prop} {te : TE} (he : PE X e te) (I : Inv X pins σ H s)
    (h : te σ H fun x H1 => ∃ a C dx fs g, x = .ref a ∧ H1 a = some (.ins C dx fs) ∧ Cls X.K C ∧ Meth X.K C m g ∧ fs.lookup m = none ∧
      ∀ s1, Inv X pins σ H1 s1 → wpAny (model X.prog X.w) X.A (callWith pos (.ref g) [.ref a] (backTo pos (starEach args X.env)) (backToKw pos (keywordEach [] X.env))) Q X.xe s1)
    (ht : eval (.Call (.Attribute e m apos) args [] pos) X.env = (do
      let ov ← eval e X.env
      standAt apos.atName
      let (f, first) ← holding [ov] (getMethod ov m pl)
      callWith pos f first (backTo pos (starEach args X.env)) (backToKw pos (keywordEach [] X.env)))) :
    wpAny (model X.prog X.w) X.A (eval (.Call (.Attribute e m apos) args [] pos) X.env) Q X.xe s := by
  refine PySem.W.methodCall_KW (pl := pl) (thn (he pins s σ H _ I h) fun u s1 ⟨x, H1, I1, rx, a, C, dx, fs, g, ex, ea, c, k, l, q⟩ => ?_) ht
  subst ex
  obtain rfl : u = Value.ref a := rx
  exact getmeth_ok I1 ea c k l (q s1 I1)
end

/-! ### isinstance -/
section
variable {X : Cx} {pins : List (Addr × Obj)} {σ : St} {H : Hp} {s : Shared} {A : Around} {E : Value → Shared → Prop} {Q : Value → Shared → Prop} {c : Value} {b : Bool}
/-- the type of a value, as the fragment's deciders take it; for an instance its class -/
inductive TyOf (K : PySem.W.Frag) (H : Hp) : V → Value → Prop where
  | non : TyOf K H .non (.type "NoneType")
  | bl (x : Bool) : TyOf K H (.bl x) (.type "bool")
  | int (i : Int) : TyOf K H (.int i) (.type "int")
  | str (x : Str) : TyOf K H (.str x) (.type "str")
  | flt (x : UInt64) : TyOf K H (.flt x) (.type "float")
  | lst {a : Addr} {xs : List V} (e : H a = some (.lst xs)) : TyOf K H (.ref a) (.type "list")
  | frz {a : Addr} {o : Obj} {xs : List V} (e : H a = some (.frz o (.lst xs))) : TyOf K H (.ref a) (.type "list")
  | tup {a : Addr} {xs : List V} (e : H a = some (.tup xs)) : TyOf K H (.ref a) (.type "tuple")
  | dK {a : Addr} {kvs : List (Key × V)} (e : H a = some (.dK kvs)) : TyOf K H (.ref a) (.type "dict")
  | dT {a : Addr} {kvs : List (List Key × V)} (e : H a = some (.dT kvs)) : TyOf K H (.ref a) (.type "dict")
  | ins {a C dx : Addr} {fs : List (Str × V)} (e : H a = some (.ins C dx fs)) (cl : Cls K C) (ha : PySem.W.findIn K (.ref C) "__class__" = some (some (.builtin "object.__class__")))
      (hn : PySem.W.specialIn K (.builtin "object.__class__") "__get__" = some (some (.builtin "getset_descriptor.__get__"))) (htk : PySem.W.takesIn K (.builtin "object.__class__") = some true)
      (hm : PySem.W.mroIn K C (.type "object") = some true) : TyOf K H (.ref a) (.ref C)
/-- isinstance(x, c) for one class c, a built-in or an own one: kitOne's answer -/
theorem isinst_ok {x : V} {u t : Value} (I : Inv X pins σ H s) (rx : RelV x u) (ty : TyOf X.K H x t) (e : PySem.W.kitOne X.K t c = some b) (h : ∀ tk, Q (.bool b) { s with toks := tk }) :
    wpAny (model X.prog X.w) A (call (.builtin "isinstance") [u, c]) Q E s := by
  cases ty with
  | non => cases (show u = Value.none from rx); exact PySem.W.kia_one PySem.W.kitx_none I.kIn True.intro e (fun z => nomatch z) h
  | bl y => cases (show u = Value.bool y from rx); exact PySem.W.kia_one PySem.W.kitx_bool I.kIn True.intro e (fun z => nomatch z) h
  | int i => obtain ⟨t, q⟩ := (show ∃ t, u = Value.int i t from rx); cases q; exact PySem.W.kia_one PySem.W.kitx_int I.kIn True.intro e (fun z => nomatch z) h
  | str y => obtain ⟨t, q⟩ := (show ∃ t, u = Value.str y t from rx); cases q; exact PySem.W.kia_one PySem.W.kitx_str I.kIn True.intro e (fun z => nomatch z) h
  | flt y => obtain ⟨t, q⟩ := (show ∃ t, u = Value.float y t from rx); cases q; exact PySem.W.kia_one PySem.W.kitx_float I.kIn True.intro e (fun z => nomatch z) h
  | @lst a xs ea =>
    cases (show u = Value.ref a from rx)
    obtain ⟨_, _, n, _, h1⟩ := (show ObjOk X.prog X.w H s.heap a (.lst xs) from I.hok a _ ea)
    exact PySem.W.kia_one PySem.W.kitx_list I.kIn ⟨_, h1, rfl⟩ e (fun z => nomatch z) h
  | @frz a ob xs ea =>
    cases (show u = Value.ref a from rx)
    obtain ⟨_, _, _, n, _, h1⟩ := (show ObjOk X.prog X.w H s.heap a (.frz ob (.lst xs)) from I.hok a _ ea)
    exact PySem.W.kia_one PySem.W.kitx_list I.kIn ⟨_, h1, rfl⟩ e (fun z => nomatch z) h
  | @tup a xs ea =>
    cases (show u = Value.ref a from rx)
    obtain ⟨_, _, _, p⟩ := (show ObjOk X.prog X.w H s.heap a (.tup xs) from I.hok a _ ea)
    obtain ⟨o, h1, h2, _⟩ := p
    exact PySem.W.kia_one PySem.W.kitx_tuple I.kIn ⟨o, h1, h2⟩ e (fun z => nomatch z) h
  | @dK a kvs ea =>
    cases (show u = Value.ref a from rx)
    obtain ⟨_, _, vs, _, p⟩ := (show ObjOk X.prog X.w H s.heap a (.dK kvs) from I.hok a _ ea)
    obtain ⟨o, es, ep, h1, h2, _⟩ := p
    exact PySem.W.kia_one PySem.W.kitx_dict I.kIn ⟨o, h1, h2.1⟩ e (fun z => nomatch z) h
  | @dT a kvs ea =>
    cases (show u = Value.ref a from rx)
    obtain ⟨_, _, xs, _, o, es, ep, h1, h2, _⟩ := (show ObjOk X.prog X.w H s.heap a (.dT kvs) from I.hok a _ ea)
    exact PySem.W.kia_one PySem.W.kitx_dict I.kIn ⟨o, h1, h2.1⟩ e (fun z => nomatch z) h
  | @ins a C dx fs ea cl ha hn htk hm =>
    cases (show u = Value.ref a from rx)
    obtain ⟨mA, O, _⟩ := ins_get I.hok ea
    obtain ⟨od, J, _⟩ := O.look
    exact PySem.W.kia_one (PySem.W.kitx_own (cl.get _) cl.hd ha hn htk hm) I.kIn J e (fun z => nomatch z) h
end
end L2

namespace L2
open PySem PySem.Spec PyProof.Rows

/-! ### room -/
structure Room (k : Nat) (A : Around) : Prop where
  hd : A.handled = none
  dp : A.depth + 3 * k + 5 < recursionLimit
  un : A.units + 16 * k + 200 < cLine
theorem Room.mono {j k : Nat} {A : Around} (r : Room k A) (h : j ≤ k) : Room j A := ⟨r.hd, by have := r.dp; omega, by have := r.un; omega⟩
theorem Room.deeper {k : Nat} {A : Around} (r : Room (k + 1) A) (env : Env) : Room k (A.deeper env) :=
  ⟨r.hd, by have := r.dp; show A.depth + 1 + 3 * k + 5 < _; omega, by have := r.un; show A.units + 3 + 16 * k + 200 < _; omega⟩
theorem Room.in1 {k : Nat} {A : Around} (r : Room (k + 1) A) : Room k A.in1 :=
  ⟨r.hd, by have := r.dp; show A.depth + 3 * k + 5 < _; omega, by have := r.un; show A.units + 1 + 16 * k + 200 < _; omega⟩
theorem make_depth {A : Around} {C : Addr} {us : List Value} {kw : List (Str × Value)} : (A.under (.builtin "type.__call__" ⟨.ref C :: us, kw⟩)).depth = A.depth + 1 := by
  first | rfl | simp [Around.under, Code.weight, Code.isCreation, Code.isGuard, Code.isCaller, Code.frames, Code.isFrame, guardIds]
theorem make_units {A : Around} {C : Addr} {us : List Value} {kw : List (Str × Value)} : (A.under (.builtin "type.__call__" ⟨.ref C :: us, kw⟩)).units = A.units + 1 := by
  first | rfl | simp [Around.under, Code.cUnits, Code.frames, Code.isFrame]
theorem Room.make {k : Nat} {A : Around} (r : Room (k + 1) A) (C : Addr) (us : List Value) (kw : List (Str × Value)) : Room k (A.under (.builtin "type.__call__" ⟨.ref C :: us, kw⟩)) :=
  ⟨r.hd, by have := r.dp; rw [make_depth]; omega, by have := r.un; rw [make_units]; omega⟩
theorem Room.depth {k : Nat} {A : Around} (r : Room k A) : A.depth < recursionLimit := by have := r.dp; omega
theorem Room.units {k : Nat} {A : Around} (r : Room k A) : A.units + 64 < cLine := by have := r.un; omega
theorem Room.units0 {k : Nat} {A : Around} (r : Room k A) : A.units < cLine := by have := r.un; omega

/-! ### argument lists and displays -/
def tNil : TA := fun _ H Q => Q [] H
def tCons (ta : TE) (tr : TA) : TA := fun σ H Q => ta σ H fun x H1 => tr σ H1 fun xs H2 => Q (x :: xs) H2
section
variable {X : Cx} {e : Expr} {es : List Expr} {te : TE} {t : TA} {pos : Pos}
theorem pa_nil : PA X [] tNil := fun _ _ _ _ H Q I h => Calls.spliced_nil ⟨[], H, I, .nil, h⟩
theorem pa_cons (ha : PE X e te) (hr : PA X es t) (hs : starEach (e :: es) X.env = (false, eval e X.env) :: starEach es X.env := by rfl) : PA X (e :: es) (tCons te t) := by
  intro pos pins s σ H Q I h
  rw [hs]
  show wpAny _ _ (spliced ((false, eval e X.env) :: backTo pos (starEach es X.env))) _ _ s
  refine Calls.spliced_cons (thn (ha pins s σ H _ I h) fun u s1 ⟨x, H1, I1, r1, q1⟩ => ?_)
  exact thn (hr pos pins s1 σ H1 _ I1 q1) fun us s2 ⟨xs, H2, I2, r2, q2⟩ => ⟨x :: xs, H2, I2, .cons r1 r2, q2⟩

/-- a tuple, a list of written items -/
def tTup (t : TA) : TE := fun σ H Q => t σ H fun xs H1 => xs.length ≤ sizeLine ∧ ∀ p, H1 p = none → Q (.ref p) (upd H1 p (.tup xs))
def tLst (t : TA) : TE := fun σ H Q => t σ H fun xs H1 => xs.length ≤ sizeLine ∧ ∀ p, H1 p = none → Q (.ref p) (upd H1 p (.lst xs))
theorem pe_tup {x1} (h : PA X es t) : PE X (.Tuple es x1 pos) (tTup t) := by
  intro pins s σ H Q I hq
  refine wpAny_Tuple_spliced (thn (h pos pins s σ H _ I hq) fun us s1 ⟨xs, H1, I1, r, z, q⟩ => ⟨by rw [← r.length]; exact z, ?_⟩)
  have hf : H1 s1.heap.objs.size = none := I1.hok.fresh (Nat.le_refl _)
  refine ⟨.ref s1.heap.objs.size, upd H1 s1.heap.objs.size (.tup xs), I1.laid (t' := s1.toks) (fun b u e => Heap.get?_push_of_some _ e) (Nat.le_refl _) ?_, rfl, q _ hf⟩
  exact ⟨z, us, r, ⟨_, Heap.get?_push_size _ rfl, rfl, _, rfl⟩⟩
theorem pe_lst (h : PA X es t) : PE X (.List es pos) (tLst t) := by
  intro pins s σ H Q I hq
  refine wpAny_List_spliced (thn (h pos pins s σ H _ I hq) fun us s1 ⟨xs, H1, I1, r, z, q⟩ => ⟨by rw [← r.length]; exact z, ?_⟩)
  have hf : H1 s1.heap.objs.size = none := I1.hok.fresh (Nat.le_refl _)
  refine ⟨.ref s1.heap.objs.size, upd H1 s1.heap.objs.size (.lst xs), I1.laid (t' := s1.toks) (fun b u e => Heap.get?_push_of_some _ e) (Nat.le_refl _) ?_, rfl, q _ hf⟩
  exact ⟨z, us, 0, r, Heap.get?_push_size _ rfl⟩
end

/-! ### what a def promises -/
/-- a def's promise: the bound arguments in the parameters' order, the heap, the wanted end, the wanted exception -/
abbrev Sp := List V → Hp → VK → XK → Prop
/-- how an exception lies behind a call (file 08 gives it): the callers' frames, abstract heap and state ahead of the call, the wish, the exception, the state -/
abbrev CXT := List Env → Hp → Shared → XK → Value → Shared → Prop

/-- the state at a call -/
structure Env0 (P : Program) (w : World) (K : PySem.W.Frag) (mg : Str → Option Value) (base : Heap) (A : Around) (outer : List Env) (s : Shared) (H : Hp) : Prop where
  frames : A.frames = some outer
  mod : Mod K mg base
  bs : ∀ b o, base.get? b = some o → s.heap.get? b = some o ∧ H b = none
  bsz : base.objs.size ≤ s.heap.objs.size
  funs : s.heap.FunFrames base outer
  frf : ∀ b ∈ frs outer, H b = none
  hok : HOk P w H s.heap
  bare : AllBare s.gens
/-- a call's end -/
def CE (outer : List Env) (P : Program) (w : World) (H : Hp) (s : Shared) (Q : VK) (u : Value) (s' : Shared) : Prop :=
  ∃ v H', s'.os = s.os ∧ AllBare s'.gens ∧ Un (frs outer) [] H H' s.heap s'.heap ∧ HOk P w H' s'.heap ∧ RelV v u ∧ Q v H'
def CR (CX : CXT) (outer : List Env) (P : Program) (w : World) (H : Hp) (s : Shared) (Q : VK) (E : XK) (r : Result) (s' : Shared) : Prop :=
  match r with
  | .ok (.ret u) => CE outer P w H s Q u s'
  | .ok _ => False
  | .error e => CX outer H s E e s'
structure FnOk (P : Program) (w : World) (K : PySem.W.Frag) (mg : Str → Option Value) (base : Heap) (CX : CXT) (k : Nat) (f : Addr) (fd : FuncData) (ps : List Str) (sp : Sp) : Prop where
  len : ∀ vs H Q E, sp vs H Q E → vs.length = ps.length
  run : ∀ (A : Around) (outer : List Env) (s : Shared) (H : Hp) (args : Args) (us : List Value) (vs : List V) (Q : VK) (E : XK), Room k A → Env0 P w K mg base A outer s H → BindsTo s fd args (ps.zip us) → Vals vs us → sp vs H Q E →
    codeAny (model P w) A (.call (.ref f) args) (CR CX outer P w H s Q E) s
theorem FnOk.mono {P : Program} {w : World} {K : PySem.W.Frag} {mg : Str → Option Value} {base : Heap} {CX : CXT} {j k : Nat} {f : Addr} {fd : FuncData} {ps : List Str} {sp : Sp} (F : FnOk P w K mg base CX j f fd ps sp) (h : j ≤ k) :
    FnOk P w K mg base CX k f fd ps sp := ⟨F.len, fun A outer s H args us vs Q E hr => F.run A outer s H args us vs Q E (hr.mono h)⟩
/-- a weaker promise -/
theorem FnOk.imp {P : Program} {w : World} {K : PySem.W.Frag} {mg : Str → Option Value} {base : Heap} {CX : CXT} {k : Nat} {f : Addr} {fd : FuncData} {ps : List Str} {sp sp' : Sp} (F : FnOk P w K mg base CX k f fd ps sp)
    (h : ∀ vs H Q E, sp' vs H Q E → sp vs H Q E) : FnOk P w K mg base CX k f fd ps sp' :=
  ⟨fun vs H Q E q => F.len vs H Q E (h _ _ _ _ q), fun A outer s H args us vs Q E hr he hb hv hs => F.run A outer s H args us vs Q E hr he hb hv (h _ _ _ _ hs)⟩

theorem Env0.make {P : Program} {w : World} {K : PySem.W.Frag} {mg : Str → Option Value} {base : Heap} {A : Around} {outer : List Env} {s : Shared} {H : Hp} (e : Env0 P w K mg base A outer s H) (C : Addr) (us : List Value) (kw : List (Str × Value)) :
    Env0 P w K mg base (A.under (.builtin "type.__call__" ⟨.ref C :: us, kw⟩)) outer s H := ⟨by first | exact e.frames | (simpa [Around.under, Code.envs, Code.isFrame, pushEnvs] using e.frames), e.mod, e.bs, e.bsz, e.funs, e.frf, e.hok, e.bare⟩
theorem Env0.in1 {P : Program} {w : World} {K : PySem.W.Frag} {mg : Str → Option Value} {base : Heap} {A : Around} {outer : List Env} {s : Shared} {H : Hp} (e : Env0 P w K mg base A outer s H) :
    Env0 P w K mg base A.in1 outer s H := ⟨e.frames, e.mod, e.bs, e.bsz, e.funs, e.frf, e.hok, e.bare⟩

section
variable {X : Cx} {pins : List (Addr × Obj)} {σ : St} {H : Hp} {s s' : Shared}
/-- from a body: what a callee wants -/
theorem Inv.env0 (I : Inv X pins σ H s) : Env0 X.prog X.w X.K X.mg X.base X.A X.stack s H :=
  ⟨I.ok.frames, I.ok.mod, I.bs, Nat.le_trans I.ok.bsz I.sz, I.stack, I.stkFree, I.hok, I.bare⟩
/-- behind a call -/
theorem Inv.after {Q : VK} {u : Value} (I : Inv X pins σ H s) (h : CE X.stack X.prog X.w H s Q u s') : EP X pins σ Q u s' := by
  obtain ⟨v, H', os, bare, un, hok, r, q⟩ := h
  obtain ⟨hh, g, d, t, os'⟩ := s'
  obtain rfl : os' = s.os := os
  exact ⟨v, H', I.call (h' := hh) (g' := g) (d' := d) (t' := t) (ch := []) un hok bare (fun b z => absurd z (by simp)), r, q⟩
end

/-! ### calls -/
/-- f(..): the written arguments, then the defaults dvs; E: what is wanted of an exception -/
def tCall (sp : Sp) (dvs : List V) (E : XK) (t : TA) : TE := fun σ H Q => t σ H fun vs H1 => sp (vs ++ dvs) H1 Q E
/-- o.m(..) of an instance of the class at C -/
def tMeth (C : Addr) (m : Str) (sp : Sp) (dvs : List V) (E : XK) (ta : TE) (t : TA) : TE := fun σ H Q => ta σ H fun x H1 => ∃ a dx fs, x = .ref a ∧ H1 a = some (.ins C dx fs) ∧ fs.lookup m = none ∧
  t σ H1 fun vs H2 => sp (x :: (vs ++ dvs)) H2 Q E
/-- C(..): a new instance and its dict, then __init__ -/
def tMake (C : Addr) (sp : Sp) (dvs : List V) (E : XK) (t : TA) : TE := fun σ H Q => t σ H fun vs H1 => ∀ x dx, H1 x = none → H1 dx = none → dx ≠ x →
  sp (.ref x :: (vs ++ dvs)) (upd (upd H1 dx (.own x)) x (.ins C dx [])) (fun v H2 => v = .non ∧ Q (.ref x) H2) E

/-- how the parameters are bound: us the positional arguments, kw the keywords' values by name, ds the defaults that fill up -/
def Binds (K : PySem.W.Frag) (fd : FuncData) (ps : List Str) (ds : List Value) : Prop :=
  ∀ (s : Shared) (us : List Value), K.In s.heap → (us ++ ds).length = ps.length → BindsTo s fd ⟨us, []⟩ (ps.zip (us ++ ds))
/-- every parameter is given -/
theorem Binds.all {K : PySem.W.Frag} {fd : FuncData} {ps : List Str} (h : ∀ us : List Value, us.length = ps.length → bindArgs fd ⟨us, []⟩ = pure (ps.zip us)) : Binds K fd ps [] := fun s us _ hl => by
  rw [List.append_nil] at hl ⊢
  exact .of_eq (h us hl)

/-- an exception of a callee reaches what this body wants of exceptions -/
def Passes (CX : CXT) (X : Cx) (E : XK) : Prop := ∀ (pins : List (Addr × Obj)) (σ : St) (H : Hp) (s : Shared) (e : Value) (s' : Shared), Inv X pins σ H s → CX X.stack H s E e s' → X.xe e s'

section
variable {X : Cx} {CX : CXT} {k : Nat} {f C : Addr} {fd : FuncData} {ps : List Str} {sp : Sp} {dvs : List V} {ds : List Value} {E : XK} {x m : Str} {p pos apos : Pos} {e o : Expr} {es : List Expr} {ta : TE} {t : TA}

/-- the callee runs -/
theorem run_fn {pins : List (Addr × Obj)} {σ : St} {H : Hp} {s : Shared} {Q : VK} {us : List Value} {vs : List V} (F : FnOk X.prog X.w X.K X.mg X.base CX k f fd ps sp) (hr : Room k X.A) (hb : Binds X.K fd ps ds) (hd : Vals dvs ds) (hx : Passes CX X E)
    (I : Inv X pins σ H s) (r : Vals vs us) (h : sp (vs ++ dvs) H Q E) : wpAny (model X.prog X.w) X.A (call (.ref f) us) (EP X pins σ Q) X.xe s := by
  have r2 : Vals (vs ++ dvs) (us ++ ds) := r.append hd
  have hl : (us ++ ds).length = ps.length := by rw [← r2.length]; exact F.len _ _ _ _ h
  refine wpAny_call (codeAny_mono (F.run X.A X.stack s H ⟨us, []⟩ (us ++ ds) (vs ++ dvs) Q E hr I.env0 (hb s us I.kIn hl) r2 h) fun r s' hq => ?_)
  cases r with
  | error e => exact hx pins σ H s e s' I hq
  | ok fl =>
    cases fl with
    | ret u => exact I.after hq
    | next => exact False.elim hq
    | brk => exact False.elim hq
    | cont => exact False.elim hq

theorem pe_call (F : FnOk X.prog X.w X.K X.mg X.base CX k f fd ps sp) (hr : Room k X.A) (hg : Gl X x) (hm : X.mg x = some (.ref f)) (hk : PySem.W.keepIn X.K (.ref f) = true) (hb : Binds X.K fd ps ds) (hd : Vals dvs ds) (hx : Passes CX X E)
    (ha : PA X (e :: es) t) (hdb : (x == ("__debug__" : Str)) = false := by decide) (he : starEach (e :: es) X.env = (false, eval e X.env) :: starEach es X.env := by rfl) (hpl : (backTo pos (starEach es X.env)).any (·.1) = false := by rfl) :
    PE X (.Call (.Name x p) (e :: es) [] pos) (tCall sp dvs E t) := by
  intro pins s σ H Q I h
  refine wpAny_Call_Name_kw (ld_glob I hg hm ?_ hdb)
  refine PySem.W.callWith_K (h₀ := X.base) I.ok.mod.kin hk (thn (ha pos pins s σ H _ I h) fun us s1 ⟨vs, H1, I1, r, q⟩ => ⟨I1.kIn, ?_⟩) he hpl
  exact run_fn F hr hb hd hx I1 r q
theorem pe_call0 (F : FnOk X.prog X.w X.K X.mg X.base CX k f fd ps sp) (hr : Room k X.A) (hg : Gl X x) (hm : X.mg x = some (.ref f)) (hk : PySem.W.keepIn X.K (.ref f) = true) (hb : Binds X.K fd ps ds) (hd : Vals dvs ds) (hx : Passes CX X E)
    (hdb : (x == ("__debug__" : Str)) = false := by decide) : PE X (.Call (.Name x p) [] [] pos) (tCall sp dvs E tNil) := by
  intro pins s σ H Q I h
  refine wpAny_Call_Name_kw (ld_glob I hg hm ?_ hdb)
  exact PySem.W.callWith_K0 I.kIn hk (run_fn (us := []) F hr hb hd hx I .nil h)

/-- o.m(e, ..) -/
theorem pe_meth {pl : Sem Bool} (he : PE X o ta) (c : Cls X.K C) (hm : Meth X.K C m f) (F : FnOk X.prog X.w X.K X.mg X.base CX k f fd ps sp) (hr : Room k X.A) (hb : Binds X.K fd ps ds) (hd : Vals dvs ds) (hx : Passes CX X E) (ha : PA X (e :: es) t)
    (hst : starEach (e :: es) X.env = (false, eval e X.env) :: starEach es X.env := by rfl) (hpl : (backTo pos (starEach es X.env)).any (·.1) = false := by rfl)
    (ht : eval (.Call (.Attribute o m apos) (e :: es) [] pos) X.env = (do
      let ov ← eval o X.env
      standAt apos.atName
      let (f, first) ← holding [ov] (getMethod ov m pl)
      callWith pos f first (backTo pos (starEach (e :: es) X.env)) (backToKw pos (keywordEach [] X.env))) := by rfl) :
    PE X (.Call (.Attribute o m apos) (e :: es) [] pos) (tMeth C m sp dvs E ta t) := by
  intro pins s σ H Q I h
  refine PySem.W.methodCall_KW (pl := pl) (thn (he pins s σ H _ I h) fun u s1 ⟨x, H1, I1, rx, a, dx, fs, ex, ea, l, q⟩ => ?_) ht
  subst ex
  obtain rfl : u = Value.ref a := rx
  refine getmeth_ok I1 ea c hm l ?_
  refine PySem.W.callWith_K (first := [.ref a]) (h₀ := X.base) I.ok.mod.kin hm.kp (thn (ha pos pins s1 σ H1 _ I1 q) fun us s2 ⟨vs, H2, I2, r, q2⟩ => ⟨I2.kIn, ?_⟩) hst hpl
  exact run_fn (us := .ref a :: us) (vs := .ref a :: vs) F hr hb hd hx I2 (.cons rfl r) q2
/-- o.m() -/
theorem pe_meth0 {pl : Sem Bool} (he : PE X o ta) (c : Cls X.K C) (hm : Meth X.K C m f) (F : FnOk X.prog X.w X.K X.mg X.base CX k f fd ps sp) (hr : Room k X.A) (hb : Binds X.K fd ps ds) (hd : Vals dvs ds) (hx : Passes CX X E)
    (ht : eval (.Call (.Attribute o m apos) [] [] pos) X.env = (do
      let ov ← eval o X.env
      standAt apos.atName
      let (f, first) ← holding [ov] (getMethod ov m pl)
      callWith pos f first (backTo pos (starEach [] X.env)) (backToKw pos (keywordEach [] X.env))) := by rfl) :
    PE X (.Call (.Attribute o m apos) [] [] pos) (tMeth C m sp dvs E ta tNil) := by
  intro pins s σ H Q I h
  refine PySem.W.methodCall_KW (pl := pl) (thn (he pins s σ H _ I h) fun u s1 ⟨x, H1, I1, rx, a, dx, fs, ex, ea, l, q⟩ => ?_) ht
  subst ex
  obtain rfl : u = Value.ref a := rx
  refine getmeth_ok I1 ea c hm l ?_
  exact PySem.W.callWith_K0 (first := [.ref a]) I1.kIn hm.kp (run_fn (us := [.ref a]) (vs := [.ref a]) F hr hb hd hx I1 (.cons rfl .nil) q)

/-- what a class must have to be made -/
structure Mk (K : PySem.W.Frag) (C f : Addr) : Prop where
  makes : PySem.W.makesIn K C = true
  init : PySem.W.findIn K (.ref C) "__init__" = some (some (.ref f))
  fn : PySem.W.isFn K (.ref f) = true
  kp : PySem.W.keepIn K (.ref C) = true

theorem run_make {pins : List (Addr × Obj)} {σ : St} {H : Hp} {s : Shared} {Q : VK} {us : List Value} {vs : List V} (M : Mk X.K C f) (F : FnOk X.prog X.w X.K X.mg X.base CX k f fd ps sp) (hr : Room (k + 1) X.A) (hb : Binds X.K fd ps ds) (hd : Vals dvs ds)
    (hx : Passes CX X E) (I : Inv X pins σ H s) (r : Vals vs us)
    (h : ∀ x dx, H x = none → H dx = none → dx ≠ x → sp (.ref x :: (vs ++ dvs)) (upd (upd H dx (.own x)) x (.ins C dx [])) (fun v H2 => v = .non ∧ Q (.ref x) H2) E) :
    wpAny (model X.prog X.w) X.A (call (.ref C) us) (EP X pins σ Q) X.xe s := by
  have hq := h (s.heap.objs.size + 1) s.heap.objs.size (I.hok.fresh (Nat.le_succ _)) (I.hok.fresh (Nat.le_refl _)) (Nat.ne_of_lt (Nat.lt_succ_self _))
  have I2 := Inv.made (C := C) I
  have r2 : Vals (V.ref (s.heap.objs.size + 1) :: (vs ++ dvs)) (Value.ref (s.heap.objs.size + 1) :: (us ++ ds)) := .cons rfl (r.append hd)
  have hl : (Value.ref (s.heap.objs.size + 1) :: us ++ ds).length = ps.length := by
    have e := r2.length
    rw [F.len _ _ _ _ hq] at e
    exact e.symm
  refine wpAny_call (make_map (f := f) I.kIn M.makes M.init (beq_iff_eq.mp M.fn) (codeAny_mono (F.run _ X.stack _ _ ⟨Value.ref (s.heap.objs.size + 1) :: us, []⟩ (Value.ref (s.heap.objs.size + 1) :: (us ++ ds)) _ _ E (hr.make C us [])
    (I2.env0.make C us []) (hb _ (Value.ref (s.heap.objs.size + 1) :: us) I2.kIn hl) r2 hq) fun r s' hq' => ?_))
  cases r with
  | error e => exact hx pins σ _ _ e s' I2 hq'
  | ok fl =>
    cases fl with
    | ret u =>
      obtain ⟨v, H', I3, rv, ev, q3⟩ := I2.after hq'
      subst ev
      exact ⟨rv, ⟨V.ref (s.heap.objs.size + 1), H', I3, rfl, q3⟩⟩
    | next => exact False.elim hq'
    | brk => exact False.elim hq'
    | cont => exact False.elim hq'
theorem pe_make (M : Mk X.K C f) (F : FnOk X.prog X.w X.K X.mg X.base CX k f fd ps sp) (hr : Room (k + 1) X.A) (hg : Gl X x) (hm : X.mg x = some (.ref C)) (hb : Binds X.K fd ps ds) (hd : Vals dvs ds) (hx : Passes CX X E)
    (ha : PA X (e :: es) t) (hdb : (x == ("__debug__" : Str)) = false := by decide) (he : starEach (e :: es) X.env = (false, eval e X.env) :: starEach es X.env := by rfl) (hpl : (backTo pos (starEach es X.env)).any (·.1) = false := by rfl) :
    PE X (.Call (.Name x p) (e :: es) [] pos) (tMake C sp dvs E t) := by
  intro pins s σ H Q I h
  refine wpAny_Call_Name_kw (ld_glob I hg hm ?_ hdb)
  refine PySem.W.callWith_K (h₀ := X.base) I.ok.mod.kin M.kp (thn (ha pos pins s σ H _ I h) fun us s1 ⟨vs, H1, I1, r, q⟩ => ⟨I1.kIn, ?_⟩) he hpl
  exact run_make M F hr hb hd hx I1 r q
theorem pe_make0 (M : Mk X.K C f) (F : FnOk X.prog X.w X.K X.mg X.base CX k f fd ps sp) (hr : Room (k + 1) X.A) (hg : Gl X x) (hm : X.mg x = some (.ref C)) (hb : Binds X.K fd ps ds) (hd : Vals dvs ds) (hx : Passes CX X E)
    (hdb : (x == ("__debug__" : Str)) = false := by decide) : PE X (.Call (.Name x p) [] [] pos) (tMake C sp dvs E tNil) := by
  intro pins s σ H Q I h
  refine wpAny_Call_Name_kw (ld_glob I hg hm ?_ hdb)
  exact PySem.W.callWith_K0 I.kIn M.kp (run_make (us := []) M F hr hb hd hx I .nil h)
end

/-! ### keywords -/
/-- the values of the keywords, from the left -/
def PK (X : Cx) (kws : List Keyword) (t : TA) : Prop :=
  ∀ (pos : Pos) (pins : List (Addr × Obj)) (s : Shared) (σ : St) (H : Hp) (Q : List V → Hp → Prop), Inv X pins σ H s → t σ H Q → wpAny (model X.prog X.w) X.A (evalAll ((backToKw pos (keywordEach kws X.env)).map (·.2))) (AP X pins σ Q) X.xe s
section
variable {X : Cx} {CX : CXT} {k : Nat} {f C : Addr} {fd : FuncData} {ps ks : List Str} {sp : Sp} {E : XK} {x m : Str} {p pos apos kpos : Pos} {e o : Expr} {es : List Expr} {kws : List Keyword} {te ta : TE} {t tk : TA} {nm : Option Str}
theorem pk_nil : PK X [] tNil := fun _ _ _ _ H Q I h => wpAny_evalAll_nil ⟨[], H, I, .nil, h⟩
theorem pk_cons (ha : PE X e te) (hr : PK X kws t) : PK X (⟨nm, e, kpos⟩ :: kws) (tCons te t) := by
  intro pos pins s σ H Q I h
  show wpAny _ _ (evalAll ((do let v ← eval e X.env; standAt pos; pure v) :: (backToKw pos (keywordEach kws X.env)).map (·.2))) _ _ s
  refine wpAny_evalAll_cons (wpAny_bind (thn (ha pins s σ H _ I h) fun u s1 ⟨x, H1, I1, r1, q1⟩ => wpAny_bind (wpAny_standAt (wpAny_pure ?_))))
  exact thn (hr pos pins s1 σ H1 _ I1 q1) fun us s2 ⟨xs, H2, I2, r2, q2⟩ => ⟨x :: xs, H2, I2, .cons r1 r2, q2⟩

/-- how a call with keywords binds: g puts the positional values us and the keywords' values ws (names ks) in the parameters' order, defaults among them -/
structure KBinds (K : PySem.W.Frag) (fd : FuncData) (ps ks : List Str) (g : List Value → List Value → List Value) (gV : List V → List V → List V) : Prop where
  to : ∀ (s : Shared) (us ws : List Value), K.In s.heap → (g us ws).length = ps.length → BindsTo s fd ⟨us, ks.zip ws⟩ (ps.zip (g us ws))
  rel : ∀ {vs : List V} {us : List Value} {zs : List V} {ws : List Value}, Vals vs us → Vals zs ws → Vals (gV vs zs) (g us ws)
def tCallK (sp : Sp) (gV : List V → List V → List V) (E : XK) (t tk : TA) : TE := fun σ H Q => t σ H fun vs H1 => tk σ H1 fun zs H2 => sp (gV vs zs) H2 Q E
variable {g : List Value → List Value → List Value} {gV : List V → List V → List V}
theorem run_fnk {pins : List (Addr × Obj)} {σ : St} {H : Hp} {s : Shared} {Q : VK} {us ws : List Value} {vs zs : List V} (F : FnOk X.prog X.w X.K X.mg X.base CX k f fd ps sp) (hr : Room k X.A) (hb : KBinds X.K fd ps ks g gV) (hx : Passes CX X E)
    (I : Inv X pins σ H s) (r : Vals vs us) (rz : Vals zs ws) (h : sp (gV vs zs) H Q E) : wpAny (model X.prog X.w) X.A (call (.ref f) us (ks.zip ws)) (EP X pins σ Q) X.xe s := by
  have r2 := hb.rel r rz
  have hl : (g us ws).length = ps.length := by rw [← r2.length]; exact F.len _ _ _ _ h
  refine wpAny_call (codeAny_mono (F.run X.A X.stack s H ⟨us, ks.zip ws⟩ (g us ws) (gV vs zs) Q E hr I.env0 (hb.to s us ws I.kIn hl) r2 h) fun r s' hq => ?_)
  cases r with
  | error e => exact hx pins σ H s e s' I hq
  | ok fl =>
    cases fl with
    | ret u => exact I.after hq
    | next => exact False.elim hq
    | brk => exact False.elim hq
    | cont => exact False.elim hq
/-- f(e, .., k = v, ..) -/
theorem pe_callK (F : FnOk X.prog X.w X.K X.mg X.base CX k f fd ps sp) (hr : Room k X.A) (hg : Gl X x) (hm : X.mg x = some (.ref f)) (hk : PySem.W.keepIn X.K (.ref f) = true) (hb : KBinds X.K fd ps ks g gV) (hx : Passes CX X E)
    (ha : PA X (e :: es) t) (hkw : PK X kws tk) (hall : (backToKw pos (keywordEach kws X.env)).all (·.1.isSome) = true := by rfl) (hks : (backToKw pos (keywordEach kws X.env)).filterMap (·.1) = ks := by rfl)
    (hdb : (x == ("__debug__" : Str)) = false := by decide) (he : starEach (e :: es) X.env = (false, eval e X.env) :: starEach es X.env := by rfl)
    (hpl : ((backTo pos (starEach (e :: es) X.env)).any (·.1) || (backToKw pos (keywordEach kws X.env)).any (·.1.isNone)) = false := by rfl) :
    PE X (.Call (.Name x p) (e :: es) kws pos) (tCallK sp gV E t tk) := by
  intro pins s σ H Q I h
  refine wpAny_Call_Name_kw (ld_glob I hg hm ?_ hdb)
  refine PySem.W.callWith_KW (h₀ := X.base) I.ok.mod.kin hk hall (thn (ha pos pins s σ H _ I h) fun us s1 ⟨vs, H1, I1, r, q⟩ => ?_) hpl he
  refine thn (hkw pos pins s1 σ H1 _ I1 q) fun ws s2 ⟨zs, H2, I2, rz, q2⟩ => ⟨I2.kIn, ?_⟩
  rw [hks]
  exact run_fnk F hr hb hx I2 r rz q2
end

/-! ### a def's body keeps its promise -/
/-- names: the parameters first -/
structure FnScope (N P : List Str) (sc : Scope) : Prop where
  kind : sc.kind = .function
  co : sc.isCoroutine = false
  gen : sc.isGenerator = false
  nd : N.Nodup
  pre : N.take P.length = P
  par : ∀ x ∈ P, sc.names.lookup x = some .local ∨ sc.names.lookup x = some .cell
  nofree : ∀ y ∈ sc.names, y.2 ≠ .free

theorem bindL_out {kindOf : Str → Option NameKind} {x : Str} : ∀ {binds : List (Str × Value)} {m : Str → Option Value}, (∀ v, (x, v) ∉ binds) → bindL kindOf binds m x = m x
  | [], _, _ => rfl
  | (n, v) :: r, m, h => by
    unfold bindL
    rw [bindL_out fun w hw => h w (List.mem_cons_of_mem _ hw)]
    split
    · have : x ≠ n := by rintro rfl; exact h v List.mem_cons_self
      simp [this]
    · rfl
theorem bindC_out {kindOf : Str → Option NameKind} {x : Str} : ∀ {binds : List (Str × Value)} {m : Str → Option Value}, (∀ v, (x, v) ∉ binds) → bindC kindOf binds m x = m x
  | [], _, _ => rfl
  | (n, v) :: r, m, h => by
    unfold bindC
    rw [bindC_out fun w hw => h w (List.mem_cons_of_mem _ hw)]
    split
    · rfl
    · have : x ≠ n := by rintro rfl; exact h v List.mem_cons_self
      simp [this]
theorem bindL_get {kindOf : Str → Option NameKind} {x : Str} {v : Value} : ∀ {P : List Str} {vs : List Value} {i : Nat} {m : Str → Option Value}, P.Nodup → P[i]? = some x → vs[i]? = some v → kindOf x = some .local →
    bindL kindOf (P.zip vs) m x = some v
  | [], _, _, _, _, h, _, _ => by simp at h
  | _ :: _, [], _, _, _, _, h, _ => by simp at h
  | p :: P, w :: vs, 0, m, nd, h1, h2, hk => by
    simp at h1 h2; subst h1; subst h2
    show bindL kindOf ((p, w) :: P.zip vs) m p = _
    unfold bindL
    rw [bindL_out fun v hv => (List.nodup_cons.mp nd).1 (List.of_mem_zip hv).1, if_pos hk]
    simp
  | p :: P, w :: vs, i + 1, m, nd, h1, h2, hk => by
    show bindL kindOf ((p, w) :: P.zip vs) m x = _
    unfold bindL
    exact bindL_get (i := i) (List.nodup_cons.mp nd).2 (by simpa using h1) (by simpa using h2) hk
theorem bindC_get {kindOf : Str → Option NameKind} {x : Str} {v : Value} : ∀ {P : List Str} {vs : List Value} {i : Nat} {m : Str → Option Value}, P.Nodup → P[i]? = some x → vs[i]? = some v → kindOf x ≠ some .local →
    bindC kindOf (P.zip vs) m x = some v
  | [], _, _, _, _, h, _, _ => by simp at h
  | _ :: _, [], _, _, _, _, h, _ => by simp at h
  | p :: P, w :: vs, 0, m, nd, h1, h2, hk => by
    simp at h1 h2; subst h1; subst h2
    show bindC kindOf ((p, w) :: P.zip vs) m p = _
    unfold bindC
    rw [bindC_out fun v hv => (List.nodup_cons.mp nd).1 (List.of_mem_zip hv).1, if_neg hk]
    simp
  | p :: P, w :: vs, i + 1, m, nd, h1, h2, hk => by
    show bindC kindOf ((p, w) :: P.zip vs) m x = _
    unfold bindC
    exact bindC_get (i := i) (List.nodup_cons.mp nd).2 (by simpa using h1) (by simpa using h2) hk

/-- the names' values at the entry -/
def start (N : List Str) (vs : List V) : St := vs.map some ++ List.replicate (N.length - vs.length) none

/-- the context of a def's body, at its entry; an exception leaves the frame, then lies as CX says -/
def cxOf (CX : CXT) (P : Program) (w : World) (K : PySem.W.Frag) (mg : Str → Option Value) (base : Heap) (N : List Str) (qual : Str) (scope : Scope) (f : Addr) (cd : Value) (A : Around) (outer : List Env) (s : Shared) (H : Hp) (E : XK) : Cx where
  prog := P
  w := w
  K := K
  mg := mg
  base := base
  A := A.deeper (envOfC qual scope s.heap.objs.size f cd)
  N := N
  s₀ := s
  H₀ := H
  env := envOfC qual scope s.heap.objs.size f cd
  outer := outer
  stack := envOfC qual scope s.heap.objs.size f cd :: outer
  ex := []
  calm := true
  fn := fun _ => true
  pn := []
  xe := fun e s' => wpAny (model P w) (A.deeper (envOfC qual scope s.heap.objs.size f cd)) (leaving (envOfC qual scope s.heap.objs.size f cd) e) (fun _ s'' => CX outer H s E e s'') (fun e' s'' => CX outer H s E e' s'') s'

theorem cell_has {sc : Scope} {n : Nat} {x : Str} (h : sc.names.lookup x = some .cell) : ∃ c, (cellsFrom n sc.names []).lookup x = some c := by
  have q := PySem.W.cellsFrom_some sc.names n [] (.inl h)
  exact Option.isSome_iff_exists.mp q

theorem inv_start {CX : CXT} {P : Program} {w : World} {K : PySem.W.Frag} {mg : Str → Option Value} {base : Heap} {N ps : List Str} {qual : Str} {scope : Scope} {f : Addr} {cd : Value} {A : Around} {outer : List Env} {s s1 : Shared} {H : Hp} {E : XK} {us : List Value} {vs : List V}
    (S : FnScope N ps scope) (hd : A.handled = none) (e0 : Env0 P w K mg base A outer s H) (hl : vs.length = ps.length) (r : Vals vs us)
    (x : InCallC s s.heap.objs.size (bindL (envOfC qual scope s.heap.objs.size f cd).kindOf (ps.zip us) fun _ => none) (cellsFrom (s.heap.objs.size + 1) scope.names []) (bindC (envOfC qual scope s.heap.objs.size f cd).kindOf (ps.zip us) fun _ => none) s1) :
    Inv (cxOf CX P w K mg base N qual scope f cd A outer s H E) [] (start N vs) H s1 := by
  have hpl : ps.length ≤ N.length := by have := congrArg List.length S.pre; rw [List.length_take] at this; omega
  obtain ⟨h1, tk, rfl, hk⟩ := x.done
  have noA : ∀ b : Addr, b ∉ (cxOf CX P w K mg base N qual scope f cd A outer s H E).ex := fun b z => absurd (show b ∈ ([] : List Addr) from z) (by simp)
  refine ⟨⟨e0.mod, S.kind, rfl, rfl, Nat.le_refl _, fun y z c h1 h2 => ?_, fun y hy => ?_, fun y c _ h => ?_, fun _ => hd, Around.frames_deeper e0.frames, .inr ⟨rfl, rfl⟩, fun b z => absurd z (noA b), e0.bs, e0.bsz, fun b _ _ => noA b, fun b z => absurd z (noA b), e0.funs, e0.frf⟩,
    rfl, e0.bare, Un.kept hk, ⟨_, x.toInCall.ns, fun i y v h1 h2 h3 => ?_⟩, fun y c h => ⟨_, x.cell y c h⟩, e0.hok.fresh (Nat.le_refl _), fun y c h => ?_, fun p hp => absurd (show p ∈ ([] : List (Addr × Obj)) from hp) (by simp), e0.hok.kept hk, ?_⟩
  · exact name_of_addr x.apart (PySem.mem_of_lookup h1) (PySem.mem_of_lookup h2)
  · have hy : scope.names.lookup y = some .cell ∨ scope.names.lookup y = some .free := hy
    rcases hy with hy | hy
    · exact cell_has hy
    · exact absurd rfl (S.nofree _ (PySem.mem_of_lookup hy))
  · exact Nat.le_of_lt (x.above y c (PySem.mem_of_lookup h))
  · have hi : i < vs.length := by
      unfold start at h2
      by_cases hi : i < vs.length
      · exact hi
      · rw [List.getElem?_append_right (by simpa using hi)] at h2
        rw [List.getElem?_replicate] at h2
        split at h2 <;> cases h2
    have ha : vs[i]? = some v := by
      unfold start at h2
      rw [List.getElem?_append_left (by simpa using hi), List.getElem?_map] at h2
      cases e : vs[i]? with
      | none => rw [e] at h2; cases h2
      | some a => rw [e] at h2; cases h2; rfl
    obtain ⟨u, hu, rv⟩ := r.get ha
    have hp : ps[i]? = some y := by
      rw [← S.pre, List.getElem?_take_of_lt (by omega)]; exact h1
    have ndP : ps.Nodup := by rw [← S.pre]; exact S.nd.sublist (List.take_sublist _ _)
    refine ⟨u, rv, ?_⟩
    rcases S.par y (List.mem_of_getElem? hp) with k | k
    · exact .inl ⟨k, bindL_get ndP hp hu k⟩
    · obtain ⟨c, e⟩ := cell_has (n := s.heap.objs.size + 1) k
      refine .inr ⟨.inl k, c, e, ?_⟩
      have q := x.cell y c e
      rw [bindC_get ndP hp hu (by show scope.names.lookup y ≠ _; rw [k]; decide)] at q
      exact q
  · exact e0.hok.fresh (Nat.le_of_lt (x.above y c (PySem.mem_of_lookup h)))
  · unfold start
    show _ = N.length
    rw [List.length_append, List.length_map, List.length_replicate]
    omega

/-- THE RULE: a def (or a method) of the text, by its body. The body's reading t is chosen for each entry; it is run at the parameters' values -/
theorem fn_of {CX : CXT} {P : Program} {w : World} {K : PySem.W.Frag} {mg : Str → Option Value} {base : Heap} {k : Nat} {f : Addr} {name qual : Str} {params : Arguments} {body : List Stmt} {scope : Scope} {dV kV doc pm cdv ct oc : Value} {an od : Option Addr}
    {osl : Array (Option Value)} {N ps : List Str} {sp : Sp} (lk : K.lookup f = some ⟨oc, od, .func (PySem.W.fnOf name qual params body scope dV kV doc pm an cdv ct), osl⟩) (hcd : PySem.W.codeIn K cdv qual = true) (S : FnScope N ps scope)
    (len : ∀ vs H Q E, sp vs H Q E → vs.length = ps.length)
    (hbody : ∀ (A : Around) (outer : List Env) (s : Shared) (H : Hp) (vs : List V) (Q : VK) (E : XK), Room k (A.deeper (envOfC qual scope s.heap.objs.size f cdv)) → sp vs H Q E →
      ∃ t, PSs (cxOf CX P w K mg base N qual scope f cdv A outer s H E) body t ∧ t { nx := fun _ H' => Q .non H', rt := Q } (start N vs) H) :
    FnOk P w K mg base CX (k + 1) f (PySem.W.fnOf name qual params body scope dV kV doc pm an cdv ct) ps sp := by
  refine ⟨len, fun A outer s H args us vs Q E hr e0 hb r hsp => ?_⟩
  have hl := len _ _ _ _ hsp
  have KX : K.In s.heap := e0.mod.kin.keeps fun b o e => (e0.bs b o e).1
  have lim : s.heap.NoLimit := e0.mod.nolimit.keeps fun b o e => (e0.bs b o e).1
  have hkind : ∀ y ∈ ps.zip us, scope.names.lookup y.1 = some .local ∨ (scope.names.lookup y.1 = some .cell ∧ ((cellsFrom (s.heap.objs.size + 1) scope.names []).lookup y.1).isSome = true) := fun ⟨n, v⟩ hy => by
    rcases S.par n (List.of_mem_zip hy).1 with q | q
    · exact .inl q
    · exact .inr ⟨q, PySem.W.cellsFrom_some _ _ _ (.inl q)⟩
  refine codeAny_call_function hr.depth (KX _ _ lk) rfl S.co S.gen rfl (PySem.W.codeRec_of KX hcd) (hb _ _ _ _ ?_)
  refine wpAny_newFunctionEnv_cells S.kind hkind fun env he s1 x => ?_
  subst he
  refine ⟨lim.keeps x.toInCall.keep, codeAny_func ?_⟩
  obtain ⟨t, ht, hq⟩ := hbody A outer s H vs Q E (hr.deeper _) hsp
  have I : Inv (cxOf CX P w K mg base N qual scope f cdv A outer s H E) [] (start N vs) H s1 := inv_start S hr.hd e0 hl r x
  refine wpAny_mono (ht [] s1 (start N vs) H _ I hq) (fun fl s' hs => ?_) fun e s' hs => hs
  have fin : ∀ {σ' : St} {H' : Hp} {v : V} {u : Value}, Inv (cxOf CX P w K mg base N qual scope f cdv A outer s H E) [] σ' H' s' → RelV v u → Q v H' → CE outer P w H s Q u s' :=
    fun {σ' H' v u} J rv q => ⟨v, H', J.os, J.bare, J.base, J.hok, rv, q⟩
  cases fl with
  | ret u =>
    obtain ⟨v, σ', H', J, rv, q⟩ := hs
    exact fin J rv q
  | next =>
    obtain ⟨σ', H', J, q⟩ := hs
    exact fin (v := V.non) (u := Value.none) J rfl q
  | brk =>
    obtain ⟨_, _, _, q⟩ := hs
    exact False.elim q
  | cont =>
    obtain ⟨_, _, _, q⟩ := hs
    exact False.elim q
end L2

namespace L2
open PySem PySem.Spec PyProof.Rows
section
variable {X : Cx} {x : Str} {p pos : Pos} {e : Expr} {es : List Expr} {t : TA} {id T : String} {r : List V → Hp → VK → Prop}

def tCB (r : List V → Hp → VK → Prop) (t : TA) : TE := fun σ H Q => t σ H fun vs H1 => r vs H1 Q
/-- f(e, ..), f a built-in function -/
theorem pe_callB (hc : CallR X (.builtin id) r) (hg : Gl X x) (hm : X.mg x = none) (hv : bootBuiltins x = some (.builtin id)) (ha : PA X (e :: es) t) (hn : x ≠ "__name__" := by decide) (hdb : (x == ("__debug__" : Str)) = false := by decide)
    (he : starEach (e :: es) X.env = (false, eval e X.env) :: starEach es X.env := by rfl) (hpl : (backTo pos (starEach es X.env)).any (·.1) = false := by rfl) : PE X (.Call (.Name x p) (e :: es) [] pos) (tCB r t) := by
  intro pins s σ H Q I h
  refine wpAny_Call_Name_kw (ld_blt I hg hm hv ?_ hn hdb)
  exact PyProof.Rows.callWith_builtin1 (thn (ha pos pins s σ H _ I h) fun us s1 ⟨vs, H1, I1, r1, q1⟩ => hc pins s1 σ H1 vs us Q I1 r1 q1) he hpl
/-- T(e, ..), T a built-in type -/
theorem pe_callTy (hc : CallR X (.type T) r) (hg : Gl X x) (hm : X.mg x = none) (hv : bootBuiltins x = some (.type T)) (ha : PA X (e :: es) t) (hn : x ≠ "__name__" := by decide) (hdb : (x == ("__debug__" : Str)) = false := by decide)
    (he : starEach (e :: es) X.env = (false, eval e X.env) :: starEach es X.env := by rfl) (hpl : (backTo pos (starEach es X.env)).any (·.1) = false := by rfl) : PE X (.Call (.Name x p) (e :: es) [] pos) (tCB r t) := by
  intro pins s σ H Q I h
  refine wpAny_Call_Name_kw (ld_blt I hg hm hv ?_ hn hdb)
  exact PyProof.Rows.callWith_type1 (thn (ha pos pins s σ H _ I h) fun us s1 ⟨vs, H1, I1, r1, q1⟩ => hc pins s1 σ H1 vs us Q I1 r1 q1) he hpl
/-- T() -/
theorem pe_callTy0 (hc : CallR X (.type T) r) (hg : Gl X x) (hm : X.mg x = none) (hv : bootBuiltins x = some (.type T)) (hn : x ≠ "__name__" := by decide) (hdb : (x == ("__debug__" : Str)) = false := by decide) :
    PE X (.Call (.Name x p) [] [] pos) (tCB r tNil) := by
  intro pins s σ H Q I h
  refine wpAny_Call_Name_kw (ld_blt I hg hm hv ?_ hn hdb)
  exact PyProof.Rows.callWith_type0 (hc pins s σ H [] [] Q I .nil h)
end
end L2

namespace HT
open PySem PyProof.Rows

/-- t < u of tuples of ints -/
def lexLt : List Int → List Int → Bool
  | [], [] => false
  | [], _ :: _ => true
  | _ :: _, [] => false
  | x :: xs, y :: ys => if x = y then lexLt xs ys else decide (x < y)
theorem lexLt_cons (x y : Int) (xs ys : List Int) : lexLt (x :: xs) (y :: ys) = if x = y then lexLt xs ys else decide (x < y) := rfl
theorem lexLt_nil_nil : lexLt [] [] = false := rfl
theorem lexLt_nil_cons (y : Int) (ys : List Int) : lexLt [] (y :: ys) = true := rfl
theorem lexLt_cons_nil (x : Int) (xs : List Int) : lexLt (x :: xs) [] = false := rfl

theorem eqAt_int (A : Around) (s : Shared) (a : Int) (t : Tok) (c : Int) (u : Tok) : ∃ e, SeqAt.EqAt A s (.int a t) (.int c u) e ∧ (e = true ↔ a = c) :=
  ⟨(a == c), SeqAt.EqAt.int_int a t c u, by simp⟩
theorem rcLt_int (A : Around) (s : Shared) (a : Int) (t : Tok) (c : Int) (u : Tok) (prog : Program) (w : World) (E : Value → Shared → Prop) (Q : Value → Shared → Prop) (h : Q (.bool (decide (a < c))) s) :
    wpAny (model prog w) A (richCompare .Lt (.int a t) (.int c u)) Q E s :=
  (PyProof.Rows.lt_int h : wpAny (model prog w) A (compareOp .Lt (.int a t) (.int c u)) Q E s)

section
open PySem.SeqAt
open PySem.AutoSeq1 (wpAny_loadPart')
open PySem.MeetsSeq PySem.MeetsSeq2 PySem.MeetsSeq3

theorem tuple_lt_ints (l b : Addr) (items items2 : Array Value) (n n2 : Nat) (dd dd2 : Option Addr) (sl sl2 : Array (Option Value)) (ns ms : List Int) (hi : IntsAre items.toList ns) (hj : IntsAre items2.toList ms) :
    Meets (Builtin.«tuple.__lt__» ⟨[.ref l, .ref b], []⟩)
      (fun _ R s => s.heap.get? l = some { cls := .type "tuple", dict := dd, data := .seq items n, slots := sl } ∧ s.heap.get? b = some { cls := .type "tuple", dict := dd2, data := .seq items2 n2, slots := sl2 } ∧
        R (.ok (.ret (.bool (lexLt ns ms)))) s) :=
  .of_wp fun prog w A R s h => by
    obtain ⟨hp, g, d, tk, os⟩ := s; obtain ⟨hl, hb, h⟩ := h
    have f2 := AutoSeq1.sub_tuple_tuple
    have z1 : items.size = ns.length := by rw [← hi.length]; simp
    have z2 : items2.size = ms.length := by rw [← hj.length]; simp
    wp_walk using wpAny_loadPart' hl, wpAny_loadPart' hb, wpAny_forIn_list _ (fun rest b s' => b.1 = none ∧ s' = ⟨hp, g, d, tk, os⟩ ∧ ∃ (vs ws : List Value) (ns' ms' : List Int), rest = vs.zip ws ∧
      IntsAre vs ns' ∧ IntsAre ws ms' ∧ ns'.length + items2.size = ms'.length + items.size ∧ R (.ok (.ret (.bool (lexLt ns' ms')))) ⟨hp, g, d, tk, os⟩) _
    case turn =>
      rintro ⟨y, x⟩ rest b s' ⟨hb', rfl, vs, ws, ns', ms', hz, hvi, hwi, hlen, hR⟩
      cases hvi with
      | nil => rw [List.zip_nil_left] at hz; cases hz
      | cons a t hvi' =>
        cases hwi with
        | nil => rw [List.zip_nil_right] at hz; cases hz
        | cons c u hwi' =>
          rw [List.zip_cons_cons] at hz
          injection hz with hyx hrest
          injection hyx with hy hx
          subst hy hx
          rw [lexLt_cons] at hR
          simp only [List.length_cons] at hlen
          obtain ⟨e, he, hiff⟩ := eqAt_int A.in1 ⟨hp, g, d, tk, os⟩ a t c u
          refine wpAny_bind (he prog w _ _ ?_)
          cases e with
          | true =>
            rw [if_pos (hiff.mp rfl)] at hR
            wp_walk
            exact ⟨rfl, rfl, _, _, _, _, hrest, hvi', hwi', by omega, hR⟩
          | false =>
            rw [if_neg (fun q => absurd (hiff.mpr q) Bool.false_ne_true)] at hR
            have hri := rcLt_int A.in1 ⟨hp, g, d, tk, os⟩ a t c u prog w
            wp_walk using hri
            exact ⟨_, rfl, by simpa using hR⟩
    case fin =>
      rintro ⟨b1, b2⟩ s' ⟨hb', rfl, vs, ws, ns', ms', hz, hvi, hwi, hlen, hR⟩
      simp only at hb'
      subst hb'
      have hv : lexLt ns' ms' = decide (items.size < items2.size) := by
        cases hvi with
        | nil =>
          cases hwi with
          | nil =>
            simp only [List.length_nil] at hlen
            rw [lexLt_nil_nil]
            exact (decide_eq_false (by omega)).symm
          | cons c u hw =>
            simp only [List.length_nil, List.length_cons] at hlen
            rw [lexLt_nil_cons]
            exact (decide_eq_true (by omega)).symm
        | cons a t hv =>
          cases hwi with
          | nil =>
            simp only [List.length_nil, List.length_cons] at hlen
            rw [lexLt_cons_nil]
            exact (decide_eq_false (by omega)).symm
          | cons c u hw =>
            rw [List.zip_cons_cons] at hz
            cases hz
      rw [hv] at hR
      wp_walk
      exact ⟨_, rfl, by simpa [Builtin.Tuple.tupleCompareSizes] using hR⟩
    case h =>
      exact ⟨rfl, rfl, items.toList, items2.toList, ns, ms, rfl, hi, hj, by omega, h⟩
end

section
variable {prog : Program} {w : World} {A : Around} {E : Value → Shared → Prop} {s : Shared}

theorem lt_tupInts {l b : Addr} {items items2 : Array Value} {ns ms : List Int} {Q : Value → Shared → Prop} (hl : IsTup s.heap l items) (hb : IsTup s.heap b items2) (hi : IntsAre items.toList ns) (hj : IntsAre items2.toList ms)
    (hu : A.units < cLine) (h : Q (.bool (lexLt ns ms)) s) : wpAny (model prog w) A (compareOp .Lt (.ref l) (.ref b)) Q E s := by
  obtain ⟨⟨cls, dd, data, sl⟩, ho, hc, n, hd⟩ := id hl
  obtain ⟨⟨cls2, dd2, data2, sl2⟩, ho2, hc2, n2, hd2⟩ := id hb
  simp only at hc hd hc2 hd2
  subst hc hd hc2 hd2
  exact richCompare_meets_room (op := .Lt) ⟨_, ho, rfl⟩ ⟨_, ho2, rfl⟩ PySem.F.slot_tuple_lt PySem.F.entry_tuple_lt (PySem.F.args_tuple_lt_2 _ _) (tuple_lt_ints l b items items2 n n2 dd dd2 sl sl2 ns ms hi hj)
    ⟨ho, ho2, show Value.bool (lexLt ns ms) ≠ Value.notImplemented ∧ Q (.bool (lexLt ns ms)) s from ⟨(fun x => nomatch x), h⟩⟩ hu

/-- t + u, t not empty -/
theorem cat_tup {t b : Addr} {vs ws : List Value} {Q : Value → Shared → Prop} (ht : IsTup s.heap t vs.toArray) (hb : IsTup s.heap b ws.toArray) (hv : vs ≠ [])
    (h1 : ws = [] → Q (.ref t) s) (h2 : ws ≠ [] → Q (.ref s.heap.objs.size) { s with heap := s.heap.push { cls := .type "tuple", data := .seq (vs ++ ws).toArray } })
    (hsz : vs.length + ws.length ≤ sizeLine) : wpAny (model prog w) A (binaryOp .Add (.ref t) (.ref b)) Q E s := by
  obtain ⟨⟨cls, dd, data, sl⟩, ho, hc, n, hd⟩ := id ht
  obtain ⟨⟨cls2, dd2, data2, sl2⟩, ho2, hc2, n2, hd2⟩ := id hb
  simp only at hc hd hc2 hd2
  subst hc hd hc2 hd2
  have e : vs.toArray ++ ws.toArray = (vs ++ ws).toArray := by simp
  by_cases hw : ws = []
  · exact concat_meets ⟨_, ho, rfl⟩ ⟨_, ho2, rfl⟩ noFill_tuple_add seq_tuple_add PySem.F.slot_tuple_add PySem.F.entry_tuple_add (PySem.F.args_tuple_add_2 _ _)
      (tuple_addW1 t b vs.toArray ws.toArray n n2 dd dd2 sl sl2 (by simpa using hv) (by simp [hw])) ⟨ho, ho2, h1 hw⟩
  · refine concat_meets ⟨_, ho, rfl⟩ ⟨_, ho2, rfl⟩ noFill_tuple_add seq_tuple_add PySem.F.slot_tuple_add PySem.F.entry_tuple_add (PySem.F.args_tuple_add_2 _ _)
      (tuple_addW2 t b vs.toArray ws.toArray n n2 dd dd2 sl sl2 (by simpa using hv) (by simpa using hw) (by rw [List.size_toArray, List.size_toArray]; exact hsz)) ⟨ho, ho2, ?_⟩
    rw [e]
    exact h2 hw

/-! ### t[a:b], not the whole -/
/-- a slice's bound as a place among n (d where it is left out) -/
def sIx (n d : Nat) : Option Int → Nat
  | none => d
  | some v => if v < 0 then (v + (n : Int)).toNat else min v.toNat n
theorem sIx_none (n d : Nat) : sIx n d none = d := rfl
theorem sIx_nat (n d k : Nat) : sIx n d (some (k : Int)) = min k n := by
  show (if (k : Int) < 0 then ((k : Int) + (n : Int)).toNat else min (k : Int).toNat n) = min k n
  rw [if_neg (by omega), Int.toNat_natCast]
theorem sIx_le (n d : Nat) (hd : d ≤ n) (o : Option Int) : sIx n d o ≤ n := by
  cases o with
  | none => exact hd
  | some v =>
    show (if v < 0 then (v + (n : Int)).toNat else min v.toNat n) ≤ n
    by_cases hv : v < 0
    · rw [if_pos hv]; omega
    · rw [if_neg hv]; exact Nat.min_le_right _ _
theorem clip_eq (v : Int) (n d : Nat) : (if v < 0 then max (v + (n : Int)) 0 else min v (n : Int)) = ((sIx n d (some v) : Nat) : Int) := by
  show (if v < 0 then max (v + (n : Int)) 0 else min v (n : Int)) = (((if v < 0 then (v + (n : Int)).toNat else min v.toNat n) : Nat) : Int)
  by_cases hv : v < 0
  · simp only [if_pos hv]; omega
  · simp only [if_neg hv]; omega
theorem adjust_gen (lo hi : Option Int) (n : Nat) : Builtin.Slice.sliceAdjust lo hi 1 (n : Int) = (((sIx n 0 lo : Nat) : Int), ((sIx n n hi : Nat) : Int)) := by
  have h1 : ¬ ((1 : Int) < 0) := by omega
  unfold Builtin.Slice.sliceAdjust
  simp only [h1, if_false]
  refine Prod.ext ?_ ?_
  · cases lo with
    | none => rfl
    | some v => exact clip_eq v n 0
  · cases hi with
    | none => rfl
    | some v => exact clip_eq v n n
theorem places_gen (i j : Nat) : Builtin.Slice.slicePlaces (i : Int) (j : Int) 1 = j - i := by
  unfold Builtin.Slice.slicePlaces
  have h1 : (1 : Int) > 0 := by omega
  simp only [h1, if_true, Int.ediv_one]
  split <;> omega
theorem slicePart_ {v : Value} {o : Option Int} {Q : Option Int → Shared → Prop} (p : IsPart v o) (h : Q o s) : wpAny (model prog w) A (Builtin.Slice.slicePartIndex v) Q E s := by
  cases p with
  | none => exact slicePart_none h
  | int i t => exact slicePart_int h
theorem sliceApplied_gen {sl : Addr} {vl vu : Value} {lo hi : Option Int} {n : Nat} {Q : Int × Int × Nat → Shared → Prop} (hs : s.heap.IsSliceOf sl vl vu .none) (pl : IsPart vl lo) (pu : IsPart vu hi)
    (h : Q (((sIx n 0 lo : Nat) : Int), 1, sIx n n hi - sIx n 0 lo) s) : wpAny (model prog w) A (Builtin.Slice.sliceApplied (.ref sl) (pure (n : Int))) Q E s := by
  obtain ⟨os, hos, hcs, hds⟩ := id hs
  unfold Builtin.Slice.sliceApplied Builtin.Slice.sliceFields
  refine wpAny_bind (wpAny_bind (wpAny_field hos hds (x := vl) rfl (wpAny_bind (wpAny_field hos hds (x := vu) rfl (wpAny_bind (wpAny_field hos hds (x := .none) rfl (wpAny_pure ?_)))))))
  refine wpAny_bind (slicePart_none ?_)
  show wpAny _ _ (if ((1 : Int) == 0) = true then _ else _) _ _ s
  rw [if_neg (by decide)]
  refine wpAny_bind (slicePart_ pl (wpAny_bind (slicePart_ pu (wpAny_bind (wpAny_pure ?_)))))
  show wpAny _ _ (match Builtin.Slice.sliceAdjust lo hi 1 (n : Int) with | (lo, hi) => pure (lo, (1 : Int), Builtin.Slice.slicePlaces lo hi 1)) _ _ s
  rw [adjust_gen lo hi n]
  show wpAny _ _ (pure (((sIx n 0 lo : Nat) : Int), (1 : Int), Builtin.Slice.slicePlaces ((sIx n 0 lo : Nat) : Int) ((sIx n n hi : Nat) : Int) 1)) _ _ s
  rw [places_gen]
  exact wpAny_pure h
theorem pick_gen (xs : Array Value) (i k : Nat) : ((List.range k).filterMap fun (m : Nat) => xs[((i : Int) + (m : Int) * 1).toNat]?).toArray = ((xs.toList.drop i).take k).toArray := by
  have e : (fun (m : Nat) => xs[((i : Int) + (m : Int) * 1).toNat]?) = fun m => xs[i + m]? := by
    funext m
    have : ((i : Int) + (m : Int) * 1).toNat = i + m := by omega
    rw [this]
  rw [e]
  have := pick_run xs i k
  rw [List.filterMap_map] at this
  have e2 : ((fun x => xs[x]?) ∘ fun x => i + x) = fun m => xs[i + m]? := rfl
  rw [e2] at this
  rw [this]

theorem getItem_tuple_cut {t sl : Addr} {items : Array Value} {vl vu : Value} {lo hi : Option Int} {Q : Value → Shared → Prop} (ht : IsTup s.heap t items) (hs : s.heap.IsSliceOf sl vl vu .none) (pl : IsPart vl lo) (pu : IsPart vu hi)
    (hw : ¬ (sIx items.size 0 lo = 0 ∧ sIx items.size items.size hi = items.size))
    (h : Q (.ref s.heap.objs.size) { s with heap := s.heap.push { cls := .type "tuple", data := .seq ((items.toList.drop (sIx items.size 0 lo)).take (sIx items.size items.size hi - sIx items.size 0 lo)).toArray } })
    (hsz : items.size ≤ sizeLine) : wpAny (model prog w) A (getItem (.ref t) (.ref sl)) Q E s := by
  have htake : sizeOk (.seq ((items.toList.drop (sIx items.size 0 lo)).take (sIx items.size items.size hi - sIx items.size 0 lo)).toArray) := by
    show ((items.toList.drop (sIx items.size 0 lo)).take (sIx items.size items.size hi - sIx items.size 0 lo)).toArray.size ≤ sizeLine
    rw [List.size_toArray, List.length_take, List.length_drop, Array.length_toList]
    omega
  have hj : sIx items.size items.size hi ≤ items.size := sIx_le _ _ (Nat.le_refl _) hi
  obtain ⟨os, hos, hcs, hds⟩ := id hs
  have hTs : s.TypeIs (.ref sl) "slice" := ⟨os, hos, hcs⟩
  unfold getItem
  try with_reducible refine wpAny_holding ?_
  first | refine wpAny_bind (wpAny_pure ?_) | skip
  refine wpAny_bind (wpAny_sequenceKey ht.typeIs (by decide) ?_)
  refine wpAny_bind (wpAny_callSpecial?_slot (name := Str.ofString "__getitem__") ht.typeIs PyProof.Rows.slot_tuple_getitem
    (wpAny_call_entry PyProof.Rows.slot_tuple_getitem ht.typeIs entry_tuple_getitem ?_ (args_tuple_getitem _ _)))
  show wpAny _ _ (Builtin.Tuple.tupleItemsOf (.ref t) >>= _) _ _ s
  refine wpAny_bind (tupleItemsOf_ ht ?_)
  refine wpAny_bind (wpAny_typeOf hTs ?_)
  rw [if_pos (by decide)]
  refine wpAny_bind (sliceApplied_gen hs pl pu ?_)
  have hno : ¬ ((((sIx items.size 0 lo : Nat) : Int) == 0 && (1 : Int) == 1 && (sIx items.size items.size hi - sIx items.size 0 lo) == items.size) = true) := by
    intro q
    rw [Bool.and_eq_true, Bool.and_eq_true] at q
    have q1 : ((sIx items.size 0 lo : Nat) : Int) = 0 := eq_of_beq q.1.1
    have q2 : sIx items.size items.size hi - sIx items.size 0 lo = items.size := eq_of_beq q.2
    exact hw ⟨by omega, by omega⟩
  show wpAny _ _ (if (((sIx items.size 0 lo : Nat) : Int) == 0 && (1 : Int) == 1 && (sIx items.size items.size hi - sIx items.size 0 lo) == items.size) = true then _ else _) _ _ s
  rw [if_neg hno, pick_gen]
  first
    | exact wpAny_bind (m := Builtin.Tuple.tupleExact _) (wpAny_newObj_type (wpAny_pure ⟨_, rfl, wpAny_pure h⟩) htake)
    | exact wpAny_bind (m := Builtin.Tuple.tupleExact _) (wpAny_newObj_type (wpAny_bind (wpAny_pure (wpAny_pure ⟨_, rfl, wpAny_pure h⟩))) htake)
    | exact wpAny_bind (wpAny_bind (m := Builtin.Tuple.tupleExact _) (wpAny_newObj_type (wpAny_pure (wpAny_pure ⟨_, rfl, wpAny_pure h⟩)) htake))
    | exact wpAny_bind (wpAny_bind (m := Builtin.Tuple.tupleExact _) (wpAny_newObj_type (wpAny_pure ⟨_, rfl, wpAny_pure h⟩) htake))
end
end HT

namespace L2
open PySem PySem.Spec PyProof.Rows

/-! ### the parts of a slice -/
abbrev TO := St → Hp → (Option Int → Hp → Prop) → Prop
/-- a slice's part (left out, or an int) -/
def PO (X : Cx) (e : Option Expr) (t : TO) : Prop :=
  ∀ (pins : List (Addr × Obj)) (s : Shared) (σ : St) (H : Hp) (Q : Option Int → Hp → Prop), Inv X pins σ H s → t σ H Q →
    wpAny (model X.prog X.w) X.A (evalPart e X.env) (fun u s' => ∃ o H', Inv X pins σ H' s' ∧ IsPart u o ∧ Q o H') X.xe s
def tNoPart : TO := fun _ H Q => Q none H
def tPart (t : TE) : TO := fun σ H Q => t σ H fun x H1 => ∃ i, x = .int i ∧ Q (some i) H1

theorem intsAre_of {ns : List Int} : ∀ {us : List Value}, Vals (ns.map V.int) us → IntsAre us ns := by
  induction ns with
  | nil => intro us r; rw [List.map_nil] at r; cases r; exact .nil
  | cons n ns ih =>
    intro us r
    rw [List.map_cons] at r
    cases r with
    | cons r1 r2 =>
      obtain ⟨t, e⟩ := r1
      subst e
      exact .cons n t (ih r2)

section
variable {X : Cx} {e : Expr} {te : TE} {lo hi : Option Expr} {tl th : TO} {pos p2 : Pos}

theorem po_none : PO X none tNoPart := by
  intro pins s σ H Q I h
  rw [evalPart_none]
  exact wpAny_pure ⟨none, H, I, .none, h⟩
theorem po_some (h : PE X e te) : PO X (some e) (tPart te) := by
  intro pins s σ H Q I hw
  rw [evalPart_some]
  refine thn (h pins s σ H _ I hw) fun u s1 ⟨x, H1, I1, r1, q1⟩ => ?_
  obtain ⟨i, rfl, q⟩ := q1
  obtain ⟨t, rfl⟩ := r1
  exact ⟨some i, H1, I1, .int i t, q⟩

/-- what a slice of a value is, by values: the slice object stands at sl -/
def SlR (X : Cx) (r : V → Option Int → Option Int → Hp → VK → Prop) : Prop :=
  ∀ (pins : List (Addr × Obj)) (s : Shared) (σ : St) (H : Hp) (x : V) (v vl vu : Value) (lo hi : Option Int) (sl : Addr) (Q : VK), Inv X pins σ H s → RelV x v → s.heap.IsSliceOf sl vl vu .none → IsPart vl lo → IsPart vu hi → r x lo hi H Q →
    ∃ T id, typeLookup (.type T) "__getitem__" = pure (some (.builtin id)) ∧ s.TypeIs v T ∧ wpAny (model X.prog X.w) X.A (getItem v (.ref sl)) (EP X pins σ Q) X.xe s
theorem SlR.or {r r' : V → Option Int → Option Int → Hp → VK → Prop} (h : SlR X r) (h' : SlR X r') : SlR X (fun x lo hi H Q => r x lo hi H Q ∨ r' x lo hi H Q) := by
  intro pins s σ H x v vl vu lo hi sl Q I rx hs pl pu q
  rcases q with q | q
  · exact h pins s σ H x v vl vu lo hi sl Q I rx hs pl pu q
  · exact h' pins s σ H x v vl vu lo hi sl Q I rx hs pl pu q
def tSl (r : V → Option Int → Option Int → Hp → VK → Prop) (te : TE) (tl th : TO) : TE := fun σ H Q => te σ H fun x H1 => tl σ H1 fun l H2 => th σ H2 fun u H3 => r x l u H3 Q
/-- a[lo:hi], any a -/
theorem pe_slice {r : V → Option Int → Option Int → Hp → VK → Prop} (hr : SlR X r) (he : PE X e te) (hl : PO X lo tl) (hu : PO X hi th) : PE X (.Subscript e (.Slice lo hi none p2) pos) (tSl r te tl th) := by
  intro pins s σ H Q I h
  refine Subscript_ (thn (he pins s σ H _ I h) fun v s1 ⟨x, H1, I1, r1, q1⟩ => ?_)
  refine wpAny_Slice (thn (hl pins s1 σ H1 _ I1 q1) fun vl s2 ⟨l, H2, I2, pl, q2⟩ => thn (hu pins s2 σ H2 _ I2 q2) fun vu s3 ⟨u, H3, I3, pu, q3⟩ => ?_)
  rw [evalPart_none]
  refine wpAny_pure ?_
  have I4 : Inv X pins σ H3 { s3 with heap := s3.heap.push { cls := .type "slice", data := .fields #[vl, vu, .none] } } := I3.kept (t' := s3.toks) fun b ob q => Heap.get?_push_of_some _ q
  obtain ⟨T, id, hT, ht, hg⟩ := hr pins { s3 with heap := s3.heap.push { cls := .type "slice", data := .fields #[vl, vu, .none] } } σ H3 x v vl vu l u s3.heap.objs.size Q I4 r1 (Heap.IsSliceOf.new ..) pl pu q3
  show wpAny (model X.prog X.w) X.A (subscriptTail e (.Slice lo hi none p2) v (.ref s3.heap.objs.size)) (EP X pins σ Q) X.xe { s3 with heap := s3.heap.push { cls := .type "slice", data := .fields #[vl, vu, .none] } }
  exact tail_any (ops := [.ref s3.heap.objs.size, v]) ht hT hg (by with_unfolding_all rfl)

/-- the items of xs[lo:hi] -/
def cutV (xs : List V) (lo hi : Option Int) : List V := (xs.drop (HT.sIx xs.length 0 lo)).take (HT.sIx xs.length xs.length hi - HT.sIx xs.length 0 lo)
theorem cutV_length (xs : List V) (lo hi : Option Int) : (cutV xs lo hi).length ≤ xs.length := by
  unfold cutV
  rw [List.length_take, List.length_drop]
  omega
/-- t[lo:hi], not the whole of it (the whole would be t itself) -/
def rSlT (K : PySem.W.Frag) : V → Option Int → Option Int → Hp → VK → Prop := fun x lo hi H Q => ∃ a xs, x = .ref a ∧ SqT K H a xs ∧
  ¬ (HT.sIx xs.length 0 lo = 0 ∧ HT.sIx xs.length xs.length hi = xs.length) ∧ ∀ p, H p = none → Q (.ref p) (upd H p (.tup (cutV xs lo hi)))
theorem sl_tup : SlR X (rSlT X.K) := by
  intro pins s σ H x v vl vu lo hi sl Q I rx hs pl pu h
  obtain ⟨a, xs, rfl, hx, hw, q⟩ := h
  cases rx
  obtain ⟨its, r, ht, hz⟩ := I.tuple hx
  have hlen : its.toArray.size = xs.length := by rw [List.size_toArray]; exact r.length.symm
  refine ⟨"tuple", _, PyProof.Rows.slot_tuple_getitem.lookup, ht.typeIs, ?_⟩
  refine HT.getItem_tuple_cut ht hs pl pu (by rw [hlen]; exact hw) ?_ (by rw [hlen]; exact hz)
  rw [hlen]
  refine ⟨.ref s.heap.objs.size, _, I.laid (t' := s.toks) (o := .tup (cutV xs lo hi)) (fun b ob q => Heap.get?_push_of_some _ q) (Nat.le_refl _) ?_, rfl, q _ (I.hok.fresh (Nat.le_refl _))⟩
  exact ⟨Nat.le_trans (cutV_length xs lo hi) hz, _, (r.drop (HT.sIx xs.length 0 lo)).take (HT.sIx xs.length xs.length hi - HT.sIx xs.length 0 lo), IsTup.new _ _⟩

/-! ### t < u, t + u -/
def rLtT (K : PySem.W.Frag) : R2 := fun x y H Q => ∃ a b ns ms, x = .ref a ∧ y = .ref b ∧ SqT K H a (ns.map V.int) ∧ SqT K H b (ms.map V.int) ∧ Q (.bl (HT.lexLt ns ms)) H
theorem op_ltT (hu : X.A.units < cLine) : OpR X (compareOp .Lt) (rLtT X.K) := by
  intro pins s σ H x y v u Q I rx ry h
  obtain ⟨a, b, ns, ms, rfl, rfl, ha, hb, q⟩ := h
  cases rx
  cases ry
  obtain ⟨its, r1, p1, _⟩ := I.tuple ha
  obtain ⟨its2, r2, p2, _⟩ := I.tuple hb
  have i1 : IntsAre its.toArray.toList ns := intsAre_of r1
  have i2 : IntsAre its2.toArray.toList ms := intsAre_of r2
  exact HT.lt_tupInts p1 p2 i1 i2 hu ⟨.bl (HT.lexLt ns ms), H, I, rfl, q⟩
/-- t + u, t not empty: u empty gives t itself -/
def rCatT (K : PySem.W.Frag) : R2 := fun x y H Q => ∃ a b xs ys, x = .ref a ∧ y = .ref b ∧ SqT K H a xs ∧ SqT K H b ys ∧ xs ≠ [] ∧ xs.length + ys.length ≤ sizeLine ∧
  (ys = [] → Q (.ref a) H) ∧ (ys ≠ [] → ∀ p, H p = none → Q (.ref p) (upd H p (.tup (xs ++ ys))))
theorem Vals.nil_iff {xs : List V} {us : List Value} (r : Vals xs us) : us = [] ↔ xs = [] := by
  cases r with
  | nil => simp
  | cons _ _ => simp
theorem op_catT : OpR X (binaryOp .Add) (rCatT X.K) := by
  intro pins s σ H x y v u Q I rx ry h
  obtain ⟨a, b, xs, ys, rfl, rfl, ha, hb, hx, hz, q1, q2⟩ := h
  cases rx
  cases ry
  obtain ⟨its, r1, p1, _⟩ := I.tuple ha
  obtain ⟨its2, r2, p2, _⟩ := I.tuple hb
  refine HT.cat_tup p1 p2 (fun z => hx (r1.nil_iff.mp z)) (fun z => ⟨.ref a, H, I, rfl, q1 (r2.nil_iff.mp z)⟩) (fun z => ?_) (by rw [← r1.length, ← r2.length]; exact hz)
  refine ⟨.ref s.heap.objs.size, _, I.laid (t' := s.toks) (o := .tup (xs ++ ys)) (fun b ob q => Heap.get?_push_of_some _ q) (Nat.le_refl _) ?_, rfl, q2 (fun w => z (r2.nil_iff.mpr w)) _ (I.hok.fresh (Nat.le_refl _))⟩
  exact ⟨by rw [List.length_append]; exact hz, _, r1.append r2, IsTup.new _ _⟩
/-- tuple(t) -/
theorem call_tupleT : CallR X (.type "tuple") (fun xs H Q => ∃ a ys, xs = [.ref a] ∧ SqT X.K H a ys ∧ Q (.ref a) H) := by
  intro pins s σ H xs us Q I r h
  obtain ⟨a, ys, rfl, ha, q⟩ := h
  obtain ⟨u, rfl, ru⟩ := vals1 r
  cases ru
  obtain ⟨its, _, p1, _⟩ := I.tuple ha
  exact call_tuple_same (items := its.toArray) p1 ⟨.ref a, H, I, rfl, q⟩
end
end L2

namespace L2
open PySem PySem.Spec PyProof.Rows

/-! ### places -/
/-- the place that an index of any sign means -/
def ixN (n : Nat) (i : Int) : Option Nat := if 0 ≤ i then (if i < n then some i.toNat else none) else if -(n : Int) ≤ i then some (i + n).toNat else none
def atI {α : Type} (xs : List α) (i : Int) : Option α := (ixN xs.length i).bind fun j => xs[j]?
theorem ixN_seq {n : Nat} {i : Int} {j : Nat} (h : ixN n i = some j) : seqIndex? i n = some j ∧ j < n ∧ -(n : Int) ≤ i ∧ i < n := by
  unfold ixN at h
  by_cases h0 : 0 ≤ i
  · rw [if_pos h0] at h
    by_cases h1 : i < n
    · rw [if_pos h1] at h
      have e : i.toNat = j := Option.some.inj h
      exact ⟨by rw [seqIndex_of h0 h1, e], by omega, by omega, h1⟩
    · rw [if_neg h1] at h; cases h
  · rw [if_neg h0] at h
    by_cases h1 : -(n : Int) ≤ i
    · rw [if_pos h1] at h
      have e : (i + n).toNat = j := Option.some.inj h
      exact ⟨by rw [seqIndex_neg (by omega) h1, e], by omega, h1, by omega⟩
    · rw [if_neg h1] at h; cases h
theorem atI_get {α : Type} {xs : List α} {i : Int} {v : α} (h : atI xs i = some v) : ∃ j, seqIndex? i xs.length = some j ∧ xs[j]? = some v ∧ j < xs.length ∧ -(xs.length : Int) ≤ i ∧ i < xs.length := by
  unfold atI at h
  cases e : ixN xs.length i with
  | none => rw [e] at h; cases h
  | some j =>
    rw [e] at h
    obtain ⟨h1, h2, h3, h4⟩ := ixN_seq e
    exact ⟨j, h1, h, h2, h3, h4⟩
theorem atI_nat {α : Type} {xs : List α} {j : Nat} {v : α} (h : xs[j]? = some v) : atI xs (j : Int) = some v := by
  have hj : j < xs.length := (List.getElem?_eq_some_iff.mp h).1
  have e : ixN xs.length (j : Int) = some j := by
    unfold ixN
    rw [if_pos (by omega), if_pos (by omega)]; simp
  unfold atI; rw [e]; exact h
theorem atI_last {α : Type} (xs : List α) (v : α) : atI (xs ++ [v]) (-1) = some v := by
  have hl : (xs ++ [v]).length = xs.length + 1 := by simp
  have e : ixN (xs ++ [v]).length (-1) = some xs.length := by
    unfold ixN
    rw [hl, if_neg (by decide), if_pos (by omega)]
    congr 1
    omega
  unfold atI
  rw [e]
  show (xs ++ [v])[xs.length]? = some v
  simp

/-! ### what may be subscripted -/
/-- what stands as an index of a plain subscript -/
def PlainIx (b : Expr) : Prop := ∀ o i, subscripted b false o i = operate [o, i] (getItem o i)
/-- a subscript by values -/
def IxR (X : Cx) (r : R2) : Prop :=
  ∀ (value slice : Expr) (pins : List (Addr × Obj)) (s : Shared) (σ : St) (H : Hp) (x y : V) (v u : Value) (Q : VK), Inv X pins σ H s → RelV x v → RelV y u → r x y H Q →
    subscripted slice false v u = operate [v, u] (getItem v u) → wpAny (model X.prog X.w) X.A (subscriptTail value slice v u) (EP X pins σ Q) X.xe s
/-- a call of a builtin's method by values: the receiver, the arguments -/
def MtR (X : Cx) (id : String) (r : V → List V → Hp → VK → Prop) : Prop :=
  ∀ (pins : List (Addr × Obj)) (s : Shared) (σ : St) (H : Hp) (x : V) (xs : List V) (v : Value) (us : List Value) (Q : VK), Inv X pins σ H s → RelV x v → Vals xs us → r x xs H Q →
    wpAny (model X.prog X.w) X.A (call (.builtin id) (v :: us)) (EP X pins σ Q) X.xe s
section
variable {X : Cx} {a b : Expr} {ta tb : TE} {pos : Pos}
theorem IxR.or {r r' : R2} (h : IxR X r) (h' : IxR X r') : IxR X (fun x y H Q => r x y H Q ∨ r' x y H Q) := by
  intro value slice pins s σ H x y v u Q I rx ry q hs
  rcases q with q | q
  · exact h value slice pins s σ H x y v u Q I rx ry q hs
  · exact h' value slice pins s σ H x y v u Q I rx ry q hs
theorem MtR.or {id : String} {r r' : V → List V → Hp → VK → Prop} (h : MtR X id r) (h' : MtR X id r') : MtR X id (fun x xs H Q => r x xs H Q ∨ r' x xs H Q) := by
  intro pins s σ H x xs v us Q I rx rs q
  rcases q with q | q
  · exact h pins s σ H x xs v us Q I rx rs q
  · exact h' pins s σ H x xs v us Q I rx rs q
/-- a[b] -/
theorem pe_ix {r : R2} (hr : IxR X r) (ha : PE X a ta) (hb : PE X b tb) (hs : PlainIx b) : PE X (.Subscript a b pos) (tOp r ta tb) := by
  intro pins s σ H Q I h
  exact Subscript_ (binT ha hb I h fun v u s2 x y H2 I2 rx ry q => hr a b pins s2 σ H2 x y v u Q I2 rx ry q (hs _ _))

def rIxL (K : PySem.W.Frag) : R2 := fun x y H Q => ∃ p xs i v, x = .ref p ∧ y = .int i ∧ SqL K H p xs ∧ atI xs i = some v ∧ Q v H
def rIxT (K : PySem.W.Frag) : R2 := fun x y H Q => ∃ p xs i v, x = .ref p ∧ y = .int i ∧ SqT K H p xs ∧ atI xs i = some v ∧ Q v H
def rIxS : R2 := fun x y H Q => ∃ z i c, x = .str z ∧ y = .int i ∧ z.length ≤ sizeLine ∧ atI z.cps.toList i = some c ∧ Q (.str ⟨#[c]⟩) H
theorem ix_list : IxR X (rIxL X.K) := by
  intro value slice pins s σ H x y v u Q I rx ry h hs
  obtain ⟨p, xs, i, z, rfl, rfl, hq, he, q⟩ := h
  cases rx
  obtain ⟨t, rfl⟩ := ry
  obtain ⟨its, r, pl, hz⟩ := I.list hq
  obtain ⟨j, h1, h2, h3, h4, h5⟩ := atI_get he
  obtain ⟨w, ew, rw'⟩ := r.get h2
  have hl := r.length
  have hn := line63
  have fin : EP X pins σ Q w s := ⟨z, H, I, rw', q⟩
  by_cases h0 : 0 ≤ i
  · have hj : i.toNat = j := by
      rw [seqIndex_of h0 h5] at h1
      exact Option.some.inj h1
    exact item_listR pl.isList h0 (by omega) (by rw [hj]; simpa using ew) fin hs
  · have hj : (i + (its.toArray.size : Int)).toNat = j := by
      rw [seqIndex_neg (by omega) h4] at h1
      rw [List.size_toArray, ← hl]
      exact Option.some.inj h1
    exact subscriptTail_builtinR (x := w) pl.isList.typeIs slot_list_getitem.lookup
      (wpAny_getItem_list_neg (Q := fun r s' => r = w ∧ EP X pins σ Q r s') pl.isList (by omega) (by rw [List.size_toArray] <;> omega) (by omega) (by rw [hj]; simpa using ew) ⟨rfl, fin⟩) hs
theorem ix_tup : IxR X (rIxT X.K) := by
  intro value slice pins s σ H x y v u Q I rx ry h hs
  obtain ⟨p, xs, i, z, rfl, rfl, hq, he, q⟩ := h
  cases rx
  obtain ⟨t, rfl⟩ := ry
  obtain ⟨its, r, pl, hz⟩ := I.tuple hq
  obtain ⟨j, h1, h2, h3, h4, h5⟩ := atI_get he
  obtain ⟨w, ew, rw'⟩ := r.get h2
  have hl := r.length
  have hn := line63
  have fin : EP X pins σ Q w s := ⟨z, H, I, rw', q⟩
  exact subscriptTail_builtinR (x := w) pl.typeIs slot_tuple_getitem.lookup
    (getItem_tuple (j := j) (Q := fun r s' => r = w ∧ EP X pins σ Q r s') pl (by omega) (by omega) (by rw [List.size_toArray, ← hl]; exact h1) (by simpa using ew) ⟨rfl, fin⟩) hs
theorem ix_str : IxR X rIxS := by
  intro value slice pins s σ H x y v u Q I rx ry h hs
  obtain ⟨z, i, c, rfl, rfl, hz, he, q⟩ := h
  obtain ⟨t, rfl⟩ := rx
  obtain ⟨t', rfl⟩ := ry
  obtain ⟨j, h1, h2, h3, h4, h5⟩ := atI_get he
  have hl : z.cps.toList.length = z.length := by simp [Str.length]
  rw [hl] at h1 h4 h5
  have hn := line63
  exact tail_any (typeIs_str s z t) slot_str_getitem.lookup (getItem_str (c := c) (by
    have e1 : decide (i < -(2 ^ 63 : Int)) = false := decide_eq_false (by omega)
    have e2 : decide (i ≥ 2 ^ 63) = false := decide_eq_false (by omega)
    rw [e1, e2, Bool.or_false]) (by rw [h1]; simpa using h2) ⟨.str ⟨#[c]⟩, H, I.tok _, ⟨_, rfl⟩, q⟩) hs
/-- list, tuple or str -/
def rIx (K : PySem.W.Frag) : R2 := fun x y H Q => rIxL K x y H Q ∨ rIxT K x y H Q ∨ rIxS x y H Q
theorem ix_seq : IxR X (rIx X.K) := ix_list.or (ix_tup.or ix_str)

/-! ### xs[i] = v, any sign -/
/-- the list's object behind a store -/
theorem mapSeq_set (its : List Value) (n j : Nat) (u : Value) : Obj.mapSeq (·.setIfInBounds j u) { cls := .type "list", data := .seq its.toArray n } = { cls := .type "list", data := .seq (its.set j u).toArray n } := by
  simp [Obj.mapSeq]
theorem Inv.lst {pins : List (Addr × Obj)} {σ : St} {H : Hp} {s : Shared} {p : Addr} {xs : List V} (I : Inv X pins σ H s) (h : H p = some (.lst xs)) :
    ∃ (its : List Value) (n : Nat), Vals xs its ∧ s.heap.get? p = some { cls := .type "list", data := .seq its.toArray n } ∧ xs.length ≤ sizeLine := by
  obtain ⟨z, its, n, r, e⟩ := I.hok p _ h
  exact ⟨its, n, r, e, z⟩
/-- the list at p is written by an update of its object -/
theorem Inv.lstUpd {pins : List (Addr × Obj)} {σ : St} {H : Hp} {s : Shared} {p : Addr} {xs ys : List V} {its its' : List Value} {n n' : Nat} {f : Obj → Obj} (I : Inv X pins σ H s) (h : H p = some (.lst xs))
    (ho : s.heap.get? p = some { cls := .type "list", data := .seq its.toArray n }) (hf : f { cls := .type "list", data := .seq its.toArray n } = { cls := .type "list", data := .seq its'.toArray n' }) (r : Vals ys its') (hz : ys.length ≤ sizeLine) (t : Nat) :
    Inv X pins σ (upd H p (.lst ys)) { s with heap := s.heap.update p f, toks := t } := by
  have e : (s.heap.update p f).get? p = some { cls := .type "list", data := .seq its'.toArray n' } := by
    rw [Heap.get?_update_self f ho (by rw [hf] <;> rfl), hf]
  refine I.write (x := p) (e := p) (by rw [h]; trivial) (.inl rfl) (fun b u hb q => (Heap.get?_update_other _ _ (Ne.symm hb)).trans q) ⟨_, e⟩ ?_
  exact ⟨hz, its', n', r, e⟩
def rSetL : V → V → V → Hp → (Hp → Prop) → Prop := fun o i v H Q => ∃ p xs k j, o = .ref p ∧ i = .int k ∧ H p = some (.lst xs) ∧ ixN xs.length k = some j ∧ Q (upd H p (.lst (xs.set j v)))
theorem set_list : PSet X rSetL := by
  intro pins s σ H o i v ov iv u Q I ro ri rv h
  obtain ⟨p, xs, k, j, rfl, rfl, hp, hj, q⟩ := h
  cases ro
  obtain ⟨t, rfl⟩ := ri
  obtain ⟨its, n, r, ho, hz⟩ := I.lst hp
  obtain ⟨h1, h2, h3, h4⟩ := ixN_seq hj
  have hl := r.length
  have hn := line63
  have I' : Inv X pins σ (upd H p (.lst (xs.set j v))) { s with heap := s.heap.update p (Obj.mapSeq (·.setIfInBounds j u)) } :=
    I.lstUpd hp ho (mapSeq_set its n j u) (r.set rv j) (by rw [List.length_set]; exact hz) s.toks
  by_cases h0 : 0 ≤ k
  · have hk : k.toNat = j := by
      rw [seqIndex_of h0 h4] at h1
      exact Option.some.inj h1
    exact PySem.W.ki_setAt ho h0 (by omega) (by rw [List.size_toArray, ← hl]; exact h4) (by rw [hk]; exact ⟨_, I', q⟩)
  · have hk : (k + (its.toArray.size : Int)).toNat = j := by
      rw [seqIndex_neg (by omega) h3] at h1
      rw [List.size_toArray, ← hl]
      exact Option.some.inj h1
    exact PySem.W.ki_setBack ho (by omega) (by rw [List.size_toArray, ← hl]; exact h3) (by omega) (by rw [hk]; exact ⟨_, I', q⟩)

/-! ### slices -/
theorem slice_bounds (lo hi : Option Int) (n : Nat) : (sliceBounds lo hi none n).1 = ((HT.sIx n 0 lo : Nat) : Int) ∧ (sliceBounds lo hi none n).2.1 = ((HT.sIx n n hi : Nat) : Int) ∧ (sliceBounds lo hi none n).2.2 = 1 := by
  refine ⟨?_, ?_, rfl⟩
  · cases lo with
    | none => simp [sliceBounds, HT.sIx]
    | some i =>
      simp only [sliceBounds, HT.sIx, Option.getD_none, show (1 : Int) > 0 by decide, if_true]
      by_cases h : i < 0
      · simp only [h, if_true] <;> omega
      · simp only [h, if_false] <;> omega
  · cases hi with
    | none => simp [sliceBounds, HT.sIx]
    | some i =>
      simp only [sliceBounds, HT.sIx, Option.getD_none, show (1 : Int) > 0 by decide, if_true]
      by_cases h : i < 0
      · simp only [h, if_true] <;> omega
      · simp only [h, if_false] <;> omega
theorem slicePick_cut (its : List Value) (lo hi : Option Int) : slicePick its.toArray lo hi none = ((its.drop (HT.sIx its.length 0 lo)).take (HT.sIx its.length its.length hi - HT.sIx its.length 0 lo)).toArray := by
  obtain ⟨h1, h2, h3⟩ := slice_bounds lo hi its.toArray.size
  unfold slicePick
  rw [h1, h2, h3]
  simp only [sliceRange_one, pick_run, List.size_toArray] <;> rfl
/-- xs[lo:hi] of a list: a new list -/
def rSlL (K : PySem.W.Frag) : V → Option Int → Option Int → Hp → VK → Prop := fun x lo hi H Q => ∃ a xs, x = .ref a ∧ SqL K H a xs ∧ ∀ p, H p = none → Q (.ref p) (upd H p (.lst (cutV xs lo hi)))
theorem sl_list : SlR X (rSlL X.K) := by
  intro pins s σ H x v vl vu lo hi sl Q I rx hs pl pu h
  obtain ⟨a, xs, rfl, hx, q⟩ := h
  cases rx
  obtain ⟨its, r, ht, hz⟩ := I.list hx
  have hlen := r.length
  refine ⟨"list", _, slot_list_getitem.lookup, ht.isList.typeIs, ?_⟩
  refine wpAny_getItem_list_slice ht.isList hs pl pu .none (by simp) ?_ (by rw [List.size_toArray] <;> omega)
  rw [slicePick_cut, ← hlen]
  refine ⟨.ref s.heap.objs.size, _, I.laid (t' := s.toks) (o := .lst (cutV xs lo hi)) (fun b ob q => Heap.get?_push_of_some _ q) (Nat.le_refl _) ?_, rfl, q _ (I.hok.fresh (Nat.le_refl _))⟩
  exact ⟨Nat.le_trans (cutV_length xs lo hi) hz, _, 0, (r.drop (HT.sIx xs.length 0 lo)).take (HT.sIx xs.length xs.length hi - HT.sIx xs.length 0 lo), Heap.get?_push_size _ rfl⟩

/-! ### in, not in: flat items -/
def flatV : V → Bool
  | .non => true
  | .bl _ => true
  | .int _ => true
  | .str _ => true
  | _ => false
/-- == of flat values -/
def eqV : V → V → Bool
  | .non, .non => true
  | .bl a, .bl b => a == b
  | .bl a, .int b => (if a then 1 else 0) == b
  | .int a, .bl b => a == (if b then 1 else 0)
  | .int a, .int b => a == b
  | .str a, .str b => a == b
  | _, _ => false
theorem eqAt_V {A : Around} {s : Shared} {y x : V} {u v : Value} (ry : RelV y u) (rx : RelV x v) (fy : flatV y = true) (fx : flatV x = true) : SeqAt.EqAt A s u v (eqV y x) := by
  cases y with
  | non =>
    cases ry
    cases x with
    | non => cases rx; exact SeqAt.EqAt.same _
    | bl b => cases rx; exact SeqAt.EqAt.none_bool b
    | int b => obtain ⟨t, rfl⟩ := rx; exact SeqAt.EqAt.none_int b t
    | str b => obtain ⟨t, rfl⟩ := rx; exact SeqAt.EqAt.none_str b t
    | _ => exact absurd (show false = true from fx) Bool.false_ne_true
  | bl a =>
    cases ry
    cases x with
    | non => cases rx; exact SeqAt.EqAt.bool_none a
    | bl b => cases rx; exact SeqAt.EqAt.bool_bool a b
    | int b => obtain ⟨t, rfl⟩ := rx; exact SeqAt.EqAt.bool_int a b t
    | str b => obtain ⟨t, rfl⟩ := rx; exact SeqAt.EqAt.bool_str a b t
    | _ => exact absurd (show false = true from fx) Bool.false_ne_true
  | int a =>
    obtain ⟨t', rfl⟩ := ry
    cases x with
    | non => cases rx; exact SeqAt.EqAt.int_none a t'
    | bl b => cases rx; exact SeqAt.EqAt.int_bool a t' b
    | int b => obtain ⟨t, rfl⟩ := rx; exact SeqAt.EqAt.int_int a t' b t
    | str b => obtain ⟨t, rfl⟩ := rx; exact SeqAt.EqAt.int_str a t' b t
    | _ => exact absurd (show false = true from fx) Bool.false_ne_true
  | str a =>
    obtain ⟨t', rfl⟩ := ry
    cases x with
    | non => cases rx; exact SeqAt.EqAt.str_none a t'
    | bl b => cases rx; exact SeqAt.EqAt.str_bool a t' b
    | int b => obtain ⟨t, rfl⟩ := rx; exact SeqAt.EqAt.str_int a t' b t
    | str b => obtain ⟨t, rfl⟩ := rx; exact SeqAt.EqAt.str_str a t' b t
    | _ => exact absurd (show false = true from fx) Bool.false_ne_true
  | _ => exact absurd (show false = true from fy) Bool.false_ne_true
/-- the items' answers, read off the values (a value's own answer does not lean on its token) -/
def eqU (x : V) (u : Value) : Bool := match u with
  | .none => eqV .non x
  | .bool b => eqV (.bl b) x
  | .int i _ => eqV (.int i) x
  | .str z _ => eqV (.str z) x
  | _ => false
theorem eqU_of {x y : V} {u : Value} (r : RelV y u) (f : flatV y = true) : eqU x u = eqV y x := by
  cases y with
  | non => cases r; rfl
  | bl b => cases r; rfl
  | int i => obtain ⟨t, rfl⟩ := r; rfl
  | str z => obtain ⟨t, rfl⟩ := r; rfl
  | _ => exact absurd (show false = true from f) Bool.false_ne_true
theorem any_eqU {x : V} : ∀ {xs : List V} {us : List Value}, Vals xs us → xs.all flatV = true → us.any (eqU x) = xs.any fun y => eqV y x
  | _, _, .nil, _ => rfl
  | y :: xs, u :: us, .cons r t, f => by
    rw [List.all_cons, Bool.and_eq_true] at f
    rw [List.any_cons, List.any_cons, eqU_of r f.1, any_eqU t f.2]
theorem mem_eqAt {A : Around} {s : Shared} {x : V} {v : Value} (rx : RelV x v) (fx : flatV x = true) : ∀ {xs : List V} {us : List Value}, Vals xs us → xs.all flatV = true → ∀ u ∈ us, SeqAt.EqAt A s u v (eqU x u)
  | _, _, .nil, _ => fun u hu => by cases hu
  | y :: xs, u :: us, .cons r t, f => fun u' hu => by
    rw [List.all_cons, Bool.and_eq_true] at f
    rcases List.mem_cons.mp hu with rfl | hu
    · rw [eqU_of r f.1]; exact eqAt_V r rx f.1 fx
    · exact mem_eqAt rx fx t f.2 u' hu
def inV (x : V) (xs : List V) : Bool := xs.any fun y => eqV y x
/-- x in a list or tuple of flat items -/
def rIn (K : PySem.W.Frag) (neg : Bool) : R2 := fun x y H Q => ∃ p xs, y = .ref p ∧ (SqL K H p xs ∨ SqT K H p xs) ∧ flatV x = true ∧ xs.all flatV = true ∧ Q (.bl (if neg then !inV x xs else inV x xs)) H
theorem op_in_seq : OpR X (compareOp .In) (rIn X.K false) := by
  intro pins s σ H x y v u Q I rx ry h
  obtain ⟨p, xs, rfl, hq, fx, fs, q⟩ := h
  cases ry
  rcases hq with hq | hq
  · obtain ⟨its, r, pl, hz⟩ := I.list hq
    refine SeqAt.in_listAt (eqU x) pl.isList (fun w hw => mem_eqAt rx fx r fs w (by simpa using hw)) ⟨.bl _, H, I, rfl, ?_⟩
    rw [show its.toArray.any (eqU x) = its.any (eqU x) by simp, any_eqU r fs]
    exact q
  · obtain ⟨its, r, pl, hz⟩ := I.tuple hq
    refine SeqAt.in_tupleAt (eqU x) pl (fun w hw => mem_eqAt rx fx r fs w (by simpa using hw)) ⟨.bl _, H, I, rfl, ?_⟩
    rw [show its.toArray.any (eqU x) = its.any (eqU x) by simp, any_eqU r fs]
    exact q
theorem op_notIn_seq : OpR X (compareOp .NotIn) (rIn X.K true) := by
  intro pins s σ H x y v u Q I rx ry h
  obtain ⟨p, xs, rfl, hq, fx, fs, q⟩ := h
  cases ry
  rcases hq with hq | hq
  · obtain ⟨its, r, pl, hz⟩ := I.list hq
    refine SeqAt.notIn_listAt (eqU x) pl.isList (fun w hw => mem_eqAt rx fx r fs w (by simpa using hw)) ⟨.bl _, H, I, rfl, ?_⟩
    rw [show its.toArray.any (eqU x) = its.any (eqU x) by simp, any_eqU r fs]
    exact q
  · obtain ⟨its, r, pl, hz⟩ := I.tuple hq
    refine SeqAt.notIn_tupleAt (eqU x) pl (fun w hw => mem_eqAt rx fx r fs w (by simpa using hw)) ⟨.bl _, H, I, rfl, ?_⟩
    rw [show its.toArray.any (eqU x) = its.any (eqU x) by simp, any_eqU r fs]
    exact q
theorem op_notIn_str : OpR X (compareOp .NotIn) (fun x y H Q => ∃ i j, x = .str i ∧ y = .str j ∧ Q (.bl (!(!(Builtin.Str.occurrences j i 0 j.length 1).isEmpty))) H) := by
  intro pins s σ H x y v u Q I rx ry h
  obtain ⟨i, j, rfl, rfl, q⟩ := h
  obtain ⟨t, rfl⟩ := rx
  obtain ⟨t', rfl⟩ := ry
  exact notIn_str ⟨.bl _, H, I, rfl, q⟩

/-! ### len, list(x), tuple(x) of any list or tuple that is read -/
theorem call_len_seq : CallR X (.builtin "len") (fun xs H Q => ∃ p ys, xs = [.ref p] ∧ (SqL X.K H p ys ∨ SqT X.K H p ys) ∧ Q (.int ys.length) H) := by
  intro pins s σ H xs us Q I r h
  obtain ⟨p, ys, rfl, hq, q⟩ := h
  obtain ⟨u, rfl, rx⟩ := vals1 r
  cases rx
  have hn := line63
  rcases hq with hq | hq
  · obtain ⟨its, r', pl, hz⟩ := I.list hq
    have hlen := r'.length
    exact Calls.call_len_list pl.isList (by simp only [List.size_toArray] <;> omega) ⟨.int ys.length, H, I.tok _, ⟨s.toks + 1, by rw [List.size_toArray, hlen]⟩, q⟩
  · obtain ⟨its, r', pl, hz⟩ := I.tuple hq
    have hlen := r'.length
    exact len_tuple pl (by simp only [List.size_toArray] <;> omega) ⟨.int ys.length, H, I.tok _, ⟨s.toks + 1, by rw [List.size_toArray, hlen]⟩, q⟩
theorem call_len_str : CallR X (.builtin "len") (fun xs H Q => ∃ z, xs = [.str z] ∧ z.length ≤ sizeLine ∧ Q (.int z.length) H) := by
  intro pins s σ H xs us Q I r h
  obtain ⟨z, rfl, hz, q⟩ := h
  obtain ⟨u, rfl, t, rfl⟩ := vals1 r
  have hn := line63
  exact len_str (by omega) ⟨.int z.length, H, I.tok _, ⟨_, rfl⟩, q⟩
theorem CallR.or {f : Value} {r r' : List V → Hp → VK → Prop} (h : CallR X f r) (h' : CallR X f r') : CallR X f (fun xs H Q => r xs H Q ∨ r' xs H Q) := by
  intro pins s σ H xs us Q I rs q
  rcases q with q | q
  · exact h pins s σ H xs us Q I rs q
  · exact h' pins s σ H xs us Q I rs q
theorem call_list_of : CallR X (.type "list") (fun xs H Q => ∃ p ys, xs = [.ref p] ∧ (SqL X.K H p ys ∨ SqT X.K H p ys) ∧ ∀ l, H l = none → Q (.ref l) (upd H l (.lst ys))) := by
  intro pins s σ H xs us Q I r h
  obtain ⟨p, ys, rfl, hq, q⟩ := h
  obtain ⟨u, rfl, rx⟩ := vals1 r
  cases rx
  have fin : ∀ (its : List Value), Vals ys its → ys.length ≤ sizeLine → ∀ (h' : Heap) (c' : Nat), (∀ b o', s.heap.get? b = some o' → h'.get? b = some o') →
      h'.get? s.heap.objs.size = some { cls := .type "list", dict := none, data := .seq its.toArray c', slots := #[] } → EP X pins σ Q (.ref s.heap.objs.size) { s with heap := h' } := fun its r' hz h' c' kp e =>
    ⟨.ref s.heap.objs.size, _, I.laid (t' := s.toks) kp (Nat.le_refl _) (show ObjOk X.prog X.w _ h' _ (.lst ys) from ⟨hz, its, c', r', e⟩), rfl, q _ (I.hok.fresh (Nat.le_refl _))⟩
  rcases hq with hq | hq
  · obtain ⟨its, r', pl, hz⟩ := I.list hq
    have hlen := r'.length
    obtain ⟨o, ho, hc, n, hd⟩ := pl.isList
    exact call_list_seq p (.inl rfl) ho hc hd (fun h' c' kp e => fin its r' hz h' c' kp e) (by simp only [List.size_toArray] <;> omega)
  · obtain ⟨its, r', pl, hz⟩ := I.tuple hq
    have hlen := r'.length
    obtain ⟨o, ho, hc, n, hd⟩ := pl
    exact call_list_seq p (.inr rfl) ho hc hd (fun h' c' kp e => fin its r' hz h' c' kp e) (by simp only [List.size_toArray] <;> omega)
theorem call_tuple_of : CallR X (.type "tuple") (fun xs H Q => ∃ p ys, xs = [.ref p] ∧ ((SqL X.K H p ys ∧ ∀ l, H l = none → Q (.ref l) (upd H l (.tup ys))) ∨ (SqT X.K H p ys ∧ Q (.ref p) H))) := by
  intro pins s σ H xs us Q I r h
  obtain ⟨p, ys, rfl, h⟩ := h
  obtain ⟨u, rfl, rx⟩ := vals1 r
  cases rx
  rcases h with ⟨hq, q⟩ | ⟨hq, q⟩
  · obtain ⟨its, r', pl, hz⟩ := I.list hq
    have hlen := r'.length
    refine call_tuple_list pl.isList (fun h' kp => ?_) (by simp only [List.size_toArray] <;> omega)
    have I1 : Inv X pins σ H { s with heap := h' } := I.kept (t' := s.toks) kp
    have I2 : Inv X pins σ (upd H h'.objs.size (.tup ys)) { s with heap := h'.push { cls := .type "tuple", data := .seq its.toArray } } :=
      I1.laid (t' := s.toks) (fun b o e => Heap.get?_push_of_some _ e) (Nat.le_refl _) (show ObjOk X.prog X.w _ _ _ (.tup ys) from ⟨hz, its, r', IsTup.new _ _⟩)
    exact ⟨.ref h'.objs.size, _, I2, rfl, q _ (I1.hok.fresh (Nat.le_refl _))⟩
  · obtain ⟨its, r', pl, hz⟩ := I.tuple hq
    exact call_tuple_same pl ⟨.ref p, H, I, rfl, q⟩

/-! ### the call of a builtin's method: o.m(..) -/
/-- the value is of that builtin type -/
def tyV (K : PySem.W.Frag) (T : String) (x : V) (H : Hp) : Prop := match x with
  | .str _ => T = "str"
  | .int _ => T = "int"
  | .ref p => (T = "list" ∧ ∃ xs, SqL K H p xs) ∨ (T = "tuple" ∧ ∃ o, K.lookup p = some o ∧ o.cls = .type "tuple" ∧ o.dict = none) ∨
      (T = "dict" ∧ ((∃ kvs, H p = some (.dK kvs)) ∨ ∃ kvs, H p = some (.dT kvs))) ∨ (T = "set" ∧ ∃ S n, H p = some (.set S n))
  | _ => False
theorem tyV_is {pins : List (Addr × Obj)} {σ : St} {H : Hp} {s : Shared} {T : String} {x : V} {v : Value} (I : Inv X pins σ H s) (r : RelV x v) (ty : tyV X.K T x H) :
    s.TypeIs v T ∧ ∀ a, v = .ref a → ∃ ob, s.heap.get? a = some ob ∧ ob.dict = none := by
  cases x with
  | str z =>
    obtain ⟨t, rfl⟩ := r
    cases (show T = "str" from ty)
    exact ⟨typeIs_str s z t, fun _ e => nomatch e⟩
  | int i =>
    obtain ⟨t, rfl⟩ := r
    cases (show T = "int" from ty)
    exact ⟨typeIs_int s i t, fun _ e => nomatch e⟩
  | ref p =>
    cases r
    rcases ty with ⟨rfl, xs, hq⟩ | ⟨rfl, o, hk, hc, hd⟩ | ⟨rfl, hk⟩ | ⟨rfl, S, n, hk⟩
    · obtain ⟨its, _, pl, _⟩ := I.list hq
      refine ⟨pl.isList.typeIs, fun a e => ?_⟩
      cases e
      obtain ⟨o, n, e, c, hd, _⟩ := pl
      exact ⟨o, e, hd⟩
    · refine ⟨⟨o, I.kIn p o hk, hc⟩, fun a e => ?_⟩
      cases e
      exact ⟨o, I.kIn _ o hk, hd⟩
    · have z : ∃ o, s.heap.get? p = some o ∧ o.ExactDict := by
        rcases hk with ⟨kvs, hk⟩ | ⟨kvs, hk⟩
        · obtain ⟨_, _, _, _, o, _, _, e, ex, _⟩ := I.hok p _ hk
          exact ⟨o, e, ex⟩
        · obtain ⟨_, _, _, _, o, _, _, e, ex, _⟩ := I.hok p _ hk
          exact ⟨o, e, ex⟩
      obtain ⟨o, e, ex⟩ := z
      refine ⟨⟨o, e, ex.1⟩, fun a e2 => ?_⟩
      cases e2
      exact ⟨o, e, ex.2.1⟩
    · obtain ⟨o, _, _, _, e, ex, _⟩ := I.hok p _ hk
      refine ⟨⟨o, e, ex.1⟩, fun a e2 => ?_⟩
      cases e2
      exact ⟨o, e, ex.2.1⟩
  | _ => exact False.elim ty
def tBM0 (K : PySem.W.Frag) (T : String) (r : V → List V → Hp → VK → Prop) (to : TE) : TE := fun σ H Q => to σ H fun x H1 => tyV K T x H1 ∧ r x [] H1 Q
def tBM (K : PySem.W.Frag) (T : String) (r : V → List V → Hp → VK → Prop) (to : TE) (t : TA) : TE := fun σ H Q => to σ H fun x H1 => tyV K T x H1 ∧ t σ H1 fun xs H2 => r x xs H2 Q
variable {o e : Expr} {es : List Expr} {to : TE} {t : TA} {name : Str} {apos cpos : Pos} {T id : String} {r : V → List V → Hp → VK → Prop}
theorem pe_bm0 (pa : PlainAttrs T) (slot : Slot T name id) (hty : typeOf (.builtin id) = pure (.type "method_descriptor")) (hm : MtR X id r) (ho : PE X o to)
    (hbase : attributeBase o name X.env (eval o X.env) = eval o X.env := by rfl) (hline : (apos.endLine == cpos.line) = true := by rfl) : PE X (.Call (.Attribute o name apos) [] [] cpos) (tBM0 X.K T r to) := by
  intro pins s σ H Q I h
  refine wpAny_Call_method0_late hbase hline (thn (ho pins s σ H _ I h) fun v s1 ⟨x, H1, I1, r1, ty, q1⟩ => ?_)
  obtain ⟨h1, h2⟩ := tyV_is I1 r1 ty
  exact ⟨T, id, pa, slot, hty, h1, h2, Calls.callWith_builtin rfl (PySem.evalArgs_none (hm pins s1 σ H1 x [] v [] Q I1 r1 .nil q1))⟩
theorem pe_bm (pa : PlainAttrs T) (slot : Slot T name id) (hty : typeOf (.builtin id) = pure (.type "method_descriptor")) (hm : MtR X id r) (ho : PE X o to) (ha : PA X (e :: es) t)
    (hbase : attributeBase o name X.env (eval o X.env) = eval o X.env := by rfl)
    (hfew : ((backTo cpos (starEach (e :: es) X.env)).all (fun x => !x.1) && (backToKw cpos (keywordEach [] X.env)).all (fun x => x.1.isSome)
      && decide ((e :: es).length + ([] : List Keyword).length + (if ([] : List Keyword).isEmpty then 0 else 1) < 30)) = true := by rfl)
    (hline : (apos.endLine == cpos.line) = true := by rfl) (hs : starEach (e :: es) X.env = (false, eval e X.env) :: starEach es X.env := by rfl) (hplain : (backTo cpos (starEach es X.env)).any (·.1) = false := by rfl) :
    PE X (.Call (.Attribute o name apos) (e :: es) [] cpos) (tBM X.K T r to t) := by
  intro pins s σ H Q I h
  refine wpAny_Call_method_late hbase hfew hline rfl (thn (ho pins s σ H _ I h) fun v s1 ⟨x, H1, I1, r1, ty, q1⟩ => ?_)
  obtain ⟨h1, h2⟩ := tyV_is I1 r1 ty
  refine ⟨T, id, pa, slot, hty, h1, h2, ?_⟩
  have hA := ha cpos pins s1 σ H1 _ I1 q1
  rw [hs] at hA ⊢
  refine Calls.callWith_builtin (by show (false || (backTo cpos (starEach es X.env)).any (·.1)) = false; rw [hplain] <;> rfl) (Calls.evalArgs_plain ?_)
  exact thn hA fun us s2 ⟨vs, H2, I2, r2, q2⟩ => hm pins s2 σ H2 x vs v us Q I2 r1 r2 q2
/- xs.append(e), list.index on a module's tuple .. are MtR facts of 06m -/
end
end L2

namespace L2
open PySem PySem.Spec PyProof.Rows

def MtM (X : Cx) (id : String) (r : V → List V → Hp → VK → Prop) : Prop :=
  ∀ (pins : List (Addr × Obj)) (s : Shared) (σ : St) (H : Hp) (x : V) (xs : List V) (v : Value) (us : List Value) (Q : VK), Inv X pins σ H s → RelV x v → Vals xs us → r x xs H Q →
    wpAny (model X.prog X.w) X.A (call (.builtin id) (v :: us)) (EP X pins σ Q) X.xe s

/-! ### lists of values -/
theorem Vals.one : ∀ {x : V} {us : List Value}, Vals [x] us → ∃ u, us = [u] ∧ RelV x u
  | _, _, .cons r .nil => ⟨_, rfl, r⟩
theorem Vals.two : ∀ {x y : V} {us : List Value}, Vals [x, y] us → ∃ u v, us = [u, v] ∧ RelV x u ∧ RelV y v
  | _, _, _, .cons r (.cons q .nil) => ⟨_, _, rfl, r, q⟩
theorem Vals.zero : ∀ {us : List Value}, Vals [] us → us = []
  | _, .nil => rfl
theorem Vals.dropLast {xs : List V} {us : List Value} (h : Vals xs us) : Vals xs.dropLast us.dropLast := by
  induction h with
  | nil => exact .nil
  | cons r t ih =>
    cases t with
    | nil => exact .nil
    | cons q t' => exact .cons r ih
theorem Vals.eraseIdx : ∀ {xs : List V} {us : List Value} (i : Nat), Vals xs us → Vals (xs.eraseIdx i) (us.eraseIdx i)
  | _, _, _, .nil => .nil
  | _, _, 0, .cons _ t => t
  | _, _, i + 1, .cons r t => .cons r (Vals.eraseIdx i t)
theorem Vals.reverse {xs : List V} {us : List Value} (h : Vals xs us) : Vals xs.reverse us.reverse := by
  induction h with
  | nil => exact .nil
  | cons r t ih => rw [List.reverse_cons, List.reverse_cons]; exact Vals.append ih (.cons r .nil)
theorem Vals.rep {xs : List V} {us : List Value} (h : Vals xs us) : ∀ k : Nat, Vals (List.replicate k xs).flatten (List.replicate k us).flatten
  | 0 => .nil
  | k + 1 => by
    rw [List.replicate_succ, List.replicate_succ, List.flatten_cons, List.flatten_cons]
    exact Vals.append h (Vals.rep h k)
theorem erase_last {α : Type} (l : List α) : l.eraseIdx (l.length - 1) = l.dropLast := by
  induction l with
  | nil => rfl
  | cons a r ih =>
    cases r with
    | nil => rfl
    | cons b r =>
      have e : (a :: b :: r).length - 1 = ((b :: r).length - 1) + 1 := by
        have h1 : (a :: b :: r).length = r.length + 2 := rfl
        have h2 : (b :: r).length = r.length + 1 := rfl
        omega
      rw [e, List.eraseIdx_cons_succ, ih]
      all_goals rfl
theorem len_erase {α : Type} : ∀ (l : List α) (i : Nat), (l.eraseIdx i).length ≤ l.length
  | [], _ => Nat.le_refl _
  | _ :: _, 0 => Nat.le_succ _
  | _ :: r, i + 1 => Nat.succ_le_succ (len_erase r i)
theorem foldl_rep (its : List Value) : ∀ (k : Nat) (acc : List Value),
    List.foldl (fun x1 x2 => x1 ++ x2) acc.toArray (List.replicate k its.toArray) = (acc ++ (List.replicate k its).flatten).toArray
  | 0, acc => by simp
  | k + 1, acc => by
    have e : acc.toArray ++ its.toArray = (acc ++ its).toArray := by simp
    have e2 : (acc ++ its) ++ (List.replicate k its).flatten = acc ++ (List.replicate (k + 1) its).flatten := by
      rw [List.replicate_succ, List.flatten_cons, List.append_assoc]
    rw [← e2, ← foldl_rep its k (acc ++ its), ← e, List.replicate_succ, List.foldl_cons]

section
variable {X : Cx} {pins : List (Addr × Obj)} {σ : St} {H : Hp} {s : Shared} {l b : Addr} {xs ys zs : List V}

/-! ### the two steps: a tracked list is rewritten, a new list is laid -/
theorem Inv.lset {its its' : List Value} {n : Nat} {f : Array Value → Array Value} {t' : Nat} (I : Inv X pins σ H s) (hH : H l = some (.lst xs))
    (e : s.heap.get? l = some { cls := .type "list", data := .seq its.toArray n }) (hf : f its.toArray = its'.toArray) (hv : Vals ys its') (hz : ys.length ≤ sizeLine) :
    Inv X pins σ (upd H l (.lst ys)) { s with heap := s.heap.update l (Obj.mapSeq f), toks := t' } := by
  have q := PySem.IsL.update e f
  rw [hf] at q
  refine I.write (x := l) (e := l) (by rw [hH]; exact trivial) (.inl rfl) (fun b' u hb hu => (Heap.get?_update_other s.heap (Obj.mapSeq f) (Ne.symm hb)).trans hu) ⟨_, q⟩ ?_
  exact ⟨hz, its', _, hv, q⟩
theorem Inv.lnew {its : List Value} {t' : Nat} (I : Inv X pins σ H s) (hv : Vals ys its) (hz : ys.length ≤ sizeLine) :
    Inv X pins σ (upd H s.heap.objs.size (.lst ys)) { s with heap := s.heap.push { cls := .type "list", data := .seq its.toArray }, toks := t' } :=
  I.laid (fun _ _ q => Heap.get?_push_of_some _ q) (Nat.le_refl _) ⟨hz, its, 0, hv, Heap.get?_push_size _ rfl⟩
theorem Inv.fresh (I : Inv X pins σ H s) : H s.heap.objs.size = none := I.hok.fresh (Nat.le_refl _)
theorem Inv.lstM (I : Inv X pins σ H s) (hH : H l = some (.lst xs)) : xs.length ≤ sizeLine ∧ ∃ (its : List Value) (n : Nat), Vals xs its ∧ xs.length = its.length ∧ s.heap.get? l = some { cls := .type "list", data := .seq its.toArray n } := by
  obtain ⟨z, its, n, r, e⟩ := I.hok l _ hH
  exact ⟨z, its, n, r, r.length, e⟩

theorem notLongL {n : Nat} (h : n ≤ sizeLine) : Builtin.List.listTooLong n = false := by
  unfold Builtin.List.listTooLong
  exact decide_eq_false (by omega)
end

section
variable {X : Cx}

/-! ### methods -/
def rAppend : V → List V → Hp → VK → Prop := fun x vs H Q => ∃ l xs y, x = .ref l ∧ vs = [y] ∧ H l = some (.lst xs) ∧ xs.length < sizeLine ∧ Q .non (upd H l (.lst (xs ++ [y])))
theorem mt_append : MtM X "list.append" rAppend := by
  intro pins s σ H x vs v us Q I rx rv h
  obtain ⟨l, xs, y, rfl, rfl, hH, hz, q⟩ := h
  cases rx
  obtain ⟨u, rfl, ru⟩ := rv.one
  obtain ⟨z, its, n, r, hl, e⟩ := I.lstM hH
  refine call_meets F.slot_list_append ⟨_, e, rfl⟩ F.entry_list_append (F.args_list_append_2 _ _) (PySem.list_append l its.toArray n u (by rw [List.size_toArray]; omega)) ⟨e, ?_⟩
  refine ⟨.non, _, I.lset (its' := its ++ [u]) hH e (by simp) (r.append (.cons ru .nil)) ?_, rfl, q⟩
  rw [List.length_append, List.length_singleton]
  omega

def rExtend : V → List V → Hp → VK → Prop := fun x vs H Q => ∃ l b xs zs, x = .ref l ∧ vs = [.ref b] ∧ H l = some (.lst xs) ∧ H b = some (.lst zs) ∧ xs.length + zs.length ≤ sizeLine ∧ Q .non (upd H l (.lst (xs ++ zs)))
theorem mt_extend : MtM X "list.extend" rExtend := by
  intro pins s σ H x vs v us Q I rx rv h
  obtain ⟨l, b, xs, zs, rfl, rfl, hH, hB, hz, q⟩ := h
  cases rx
  obtain ⟨u, rfl, ru⟩ := rv.one
  cases ru
  obtain ⟨z, its, n, r, hl, e⟩ := I.lstM hH
  obtain ⟨z2, its2, n2, r2, hl2, e2⟩ := I.lstM hB
  have hsz : its.toArray.size + its2.toArray.size ≤ sizeLine := by rw [List.size_toArray, List.size_toArray]; omega
  have hlong : ¬ (!its.toArray.isEmpty && Builtin.List.listTooLong (its.toArray.size + its2.toArray.size)) = true := by
    rw [notLongL hsz, Bool.and_false]
    exact Bool.false_ne_true
  refine call_meets F.slot_list_extend ⟨_, e, rfl⟩ F.entry_list_extend (F.args_list_extend_2 _ _)
    (AutoSeq1.list_extend_list_list_0 l its.toArray n b its2.toArray n2 hlong (by rw [List.size_toArray]; omega) (by omega)) ⟨e, e2, ?_⟩
  refine ⟨.non, _, I.lset (its' := its ++ its2) hH e (by simp) (r.append r2) ?_, rfl, q⟩
  rw [List.length_append]
  omega

def rPop : V → List V → Hp → VK → Prop := fun x vs H Q => ∃ l xs y, x = .ref l ∧ vs = [] ∧ H l = some (.lst xs) ∧ xs[xs.length - 1]? = some y ∧ Q y (upd H l (.lst xs.dropLast))
theorem mt_pop : MtM X "list.pop" rPop := by
  intro pins s σ H x vs v us Q I rx rv h
  obtain ⟨l, xs, y, rfl, rfl, hH, hy, q⟩ := h
  cases rx
  have hus := rv.zero
  subst hus
  obtain ⟨z, its, n, r, hl, e⟩ := I.lstM hH
  obtain ⟨u, hu, ru⟩ := r.get hy
  have hy' : its.toArray[its.toArray.size - 1]? = some u := by
    show its.toArray[its.length - 1]? = some u
    rw [← Array.getElem?_toList, ← hl]
    exact hu
  refine call_meets F.slot_list_pop ⟨_, e, rfl⟩ F.entry_list_pop (F.args_list_pop_1 _) (MeetsSeq.list_pop_last l its.toArray n u hy' (by rw [List.size_toArray]; omega)) ⟨e, ?_⟩
  refine ⟨y, _, I.lset (its' := its.dropLast) hH e ?_ r.dropLast ?_, ru, q⟩
  · show its.toArray.eraseIdxIfInBounds (its.toArray.size - 1) = its.dropLast.toArray
    rw [List.size_toArray, List.eraseIdxIfInBounds_toArray, erase_last]
  · rw [List.length_dropLast]
    omega

def rPopAt : V → List V → Hp → VK → Prop := fun x vs H Q => ∃ l xs i k y, x = .ref l ∧ vs = [.int i] ∧ H l = some (.lst xs) ∧ -(2 ^ 63) ≤ i ∧ i < 2 ^ 63 ∧ seqIndex? i xs.length = some k ∧ xs[k]? = some y ∧ Q y (upd H l (.lst (xs.eraseIdx k)))
theorem mt_popAt : MtM X "list.pop" rPopAt := by
  intro pins s σ H x vs v us Q I rx rv h
  obtain ⟨l, xs, i, k, y, rfl, rfl, hH, h1, h2, hk, hy, q⟩ := h
  cases rx
  obtain ⟨u, rfl, ru⟩ := rv.one
  obtain ⟨t, rfl⟩ := ru
  obtain ⟨z, its, n, r, hl, e⟩ := I.lstM hH
  obtain ⟨w, hw, rw'⟩ := r.get hy
  refine call_meets F.slot_list_pop ⟨_, e, rfl⟩ F.entry_list_pop (F.args_list_pop_2 _ _)
    (MeetsSeq.list_pop_at l its.toArray n i t k w (fitsIndex_both h1 h2) (by rw [List.size_toArray, ← hl]; exact hk) (by rw [← Array.getElem?_toList]; exact hw) (by rw [List.size_toArray]; omega)) ⟨e, ?_⟩
  refine ⟨y, _, I.lset (its' := its.eraseIdx k) hH e ?_ (r.eraseIdx k) ?_, rw', q⟩
  · show its.toArray.eraseIdxIfInBounds k = (its.eraseIdx k).toArray
    rw [List.eraseIdxIfInBounds_toArray]
  · have := len_erase xs k
    omega

def rReverse : V → List V → Hp → VK → Prop := fun x vs H Q => ∃ l xs, x = .ref l ∧ vs = [] ∧ H l = some (.lst xs) ∧ Q .non (upd H l (.lst xs.reverse))
theorem mt_reverse : MtM X "list.reverse" rReverse := by
  intro pins s σ H x vs v us Q I rx rv h
  obtain ⟨l, xs, rfl, rfl, hH, q⟩ := h
  cases rx
  have hus := rv.zero
  subst hus
  obtain ⟨z, its, n, r, hl, e⟩ := I.lstM hH
  refine call_meets F.slot_list_reverse ⟨_, e, rfl⟩ F.entry_list_reverse (F.args_list_reverse_1 _) (AutoSeq1.list_reverse_list_0 l its.toArray n (by rw [List.size_toArray]; omega)) ⟨e, ?_⟩
  refine ⟨.non, _, I.lset (its' := its.reverse) hH e (by simp) r.reverse ?_, rfl, q⟩
  rw [List.length_reverse]
  omega

def rClear : V → List V → Hp → VK → Prop := fun x vs H Q => ∃ l xs, x = .ref l ∧ vs = [] ∧ H l = some (.lst xs) ∧ Q .non (upd H l (.lst []))
theorem mt_clear : MtM X "list.clear" rClear := by
  intro pins s σ H x vs v us Q I rx rv h
  obtain ⟨l, xs, rfl, rfl, hH, q⟩ := h
  cases rx
  have hus := rv.zero
  subst hus
  obtain ⟨z, its, n, r, hl, e⟩ := I.lstM hH
  refine call_meets F.slot_list_clear ⟨_, e, rfl⟩ F.entry_list_clear (F.args_list_clear_1 _) (AutoSeq1.list_clear_list_0 l its.toArray n (by rw [List.size_toArray]; omega)) ⟨e, ?_⟩
  exact ⟨.non, _, I.lset (its' := []) (ys := []) hH e rfl .nil (Nat.zero_le _), rfl, q⟩

/-! ### list + list, list += list, list * int -/
def rCat : R2 := fun x y H Q => ∃ l b xs zs, x = .ref l ∧ y = .ref b ∧ H l = some (.lst xs) ∧ H b = some (.lst zs) ∧ xs.length + zs.length ≤ sizeLine ∧ ∀ p, H p = none → Q (.ref p) (upd H p (.lst (xs ++ zs)))
theorem op_cat : OpR X (binaryOp .Add) rCat := by
  intro pins s σ H x y v u Q I rx ry h
  obtain ⟨l, b, xs, zs, rfl, rfl, hH, hB, hz, q⟩ := h
  cases rx
  cases ry
  obtain ⟨z, its, n, r, hl, e⟩ := I.lstM hH
  obtain ⟨z2, its2, n2, r2, hl2, e2⟩ := I.lstM hB
  refine PySem.P.add_list e e2 ?_ (by rw [List.size_toArray, List.size_toArray]; omega)
  have ea : its.toArray ++ its2.toArray = (its ++ its2).toArray := by simp
  rw [ea]
  exact ⟨.ref _, _, I.lnew (t' := s.toks) (r.append r2) (by rw [List.length_append]; omega), rfl, q _ I.fresh⟩
/-- a list times an int (a negative one is nothing) -/
def rRep : R2 := fun x y H Q => ∃ l k xs, x = .ref l ∧ y = .int k ∧ H l = some (.lst xs) ∧ -(2 ^ 63) ≤ k ∧ k < 2 ^ 63 ∧ xs.length * k.toNat ≤ sizeLine ∧
  ∀ p, H p = none → Q (.ref p) (upd H p (.lst (List.replicate k.toNat xs).flatten))
theorem len_rep {α : Type} (xs : List α) (k : Nat) : (List.replicate k xs).flatten.length = k * xs.length := by
  induction k with
  | zero => simp
  | succ k ih => rw [List.replicate_succ, List.flatten_cons, List.length_append, ih, Nat.succ_mul, Nat.add_comm]
theorem op_rep : OpR X (binaryOp .Mult) rRep := by
  intro pins s σ H x y v u Q I rx ry h
  obtain ⟨l, k, xs, rfl, rfl, hH, h1, h2, hz, q⟩ := h
  cases rx
  obtain ⟨t, rfl⟩ := ry
  obtain ⟨z, its, n, r, hl, e⟩ := I.lstM hH
  have hlen : its.toArray.size * k.toNat ≤ sizeLine := by rw [List.size_toArray, ← hl]; exact hz
  have hcap : ¬ its.toArray.size * k.toNat > (2 ^ 63 - 1) / 8 := by
    have : (sizeLine : Nat) ≤ (2 ^ 63 - 1) / 8 := by decide
    omega
  have hfit : ¬ (!Builtin.List.listFitsIndex k) = true := by
    rw [fitsIndex_both h1 h2]
    exact Bool.false_ne_true
  have hlong : ¬ Builtin.List.listTooLong (its.toArray.size * k.toNat) = true := by
    rw [notLongL hlen]
    exact Bool.false_ne_true
  have hnew : List.foldl (fun x1 x2 => x1 ++ x2) #[] (List.replicate (if its.toArray.isEmpty = true then 0 else k.toNat) its.toArray) = (List.replicate k.toNat its).flatten.toArray := by
    have f0 : ∀ m : Nat, List.foldl (fun x1 x2 => x1 ++ x2) #[] (List.replicate m its.toArray) = (List.replicate m its).flatten.toArray := fun m => by
      have := foldl_rep its m []
      rw [List.nil_append] at this
      exact this
    rw [f0]
    cases its with
    | nil => simp
    | cons a r' => rw [if_neg (by simp)]
  refine wpAny_binaryOp_repeat_ref (T := "list") (U := "int") (by decide) ⟨_, e, rfl⟩ (fun s' => typeIs_int s' k t) noFill_list_mul F.fills_int_mul F.slot_int_rmul repeat_list F.slot_int_index.lookup
    (call_meets F.slot_int_rmul (typeIs_int s k t) F.entry_int_rmul (F.args_int_rmul_2 _ _) (int___rmul___int_list k t l its.toArray n)
      ⟨e, rfl, ⟨_, e, rfl⟩, call_meets F.slot_list_mul ⟨_, e, rfl⟩ F.entry_list_mul (F.args_list_mul_2 _ _) (AutoListH.list___mul___list_int_3 l its.toArray n k t hfit hcap hlong) ⟨e, ?_⟩⟩)
  rw [hnew]
  exact ⟨.ref _, _, I.lnew (t' := s.toks) (r.rep k.toNat) (by rw [len_rep, Nat.mul_comm]; exact hz), rfl, q _ I.fresh⟩

/-! ### del xs[i] -/
theorem del_list {pins : List (Addr × Obj)} {s : Shared} {σ : St} {H : Hp} {l : Addr} {xs : List V} {i : Int} {t : Tok} {k : Nat} {Q : Unit → Shared → Prop} (I : Inv X pins σ H s) (hH : H l = some (.lst xs))
    (h1 : -(2 ^ 63) ≤ i) (h2 : i < 2 ^ 63) (hk : seqIndex? i xs.length = some k) (h : ∀ s', Inv X pins σ (upd H l (.lst (xs.eraseIdx k))) s' → Q () s') :
    wpAny (model X.prog X.w) X.A (delItem (.ref l) (.int i t)) Q X.xe s := by
  obtain ⟨z, its, n, r, hl, e⟩ := I.lstM hH
  refine PySem.P.delItem_list (k := k) e (fitsIndex_both h1 h2) (by rw [List.size_toArray, ← hl]; exact hk) (h _ ?_) (by rw [List.size_toArray]; omega)
  refine I.lset (its' := its.eraseIdx k) (t' := s.toks) hH e ?_ (r.eraseIdx k) ?_
  · show its.toArray.eraseIdxIfInBounds k = (its.eraseIdx k).toArray
    rw [List.eraseIdxIfInBounds_toArray]
  · have := len_erase xs k
    omega
end

/-! ### xs[a:b] = ys -/
section
variable {prog : Program} {w : World} {A : Around} {E : Value → Shared → Prop} {s : Shared}
theorem splice_eq (its its2 : List Value) (a c : Nat) : its.toArray.extract 0 a ++ its2.toArray ++ its.toArray.extract c its.toArray.size = (its.take a ++ its2 ++ its.drop c).toArray := by
  apply Array.toList_inj.mp
  first
    | (simp
       exact List.take_of_length_le (by simp))
    | simp [List.take_of_length_le]
    | simp
theorem bounds_run {a c n : Nat} (hac : a ≤ c) (hc : c ≤ n) : sliceBounds (some (a : Int)) (some (c : Int)) none n = ((a : Int), (c : Int), 1) := by
  simp only [sliceBounds, Option.getD_none]
  have h1 : ¬ ((a : Int) < 0) := by omega
  have h2 : ¬ ((c : Int) < 0) := by omega
  simp only [h1, h2, if_false, show (1 : Int) > 0 by decide, if_true]
  congr 1
  · omega
  · congr 1; omega
set_option maxRecDepth 100000 in
/-- list.__setitem__ with a slice of step one and another list -/
theorem setItem_slice {l b sl : Addr} {items new : Array Value} {n n2 : Nat} {vl vu : Value} {a c : Nat} {Q : Unit → Shared → Prop}
    (e : s.heap.get? l = some { cls := .type "list", data := .seq items n }) (e2 : s.heap.get? b = some { cls := .type "list", data := .seq new n2 }) (hne : l ≠ b)
    (hs : s.heap.IsSliceOf sl vl vu .none) (pl : IsPart vl (some (a : Int))) (pu : IsPart vu (some (c : Int))) (hac : a ≤ c) (hc : c ≤ items.size)
    (hsz : items.size + new.size ≤ sizeLine) (h : Q () { s with heap := s.heap.update l (Obj.mapSeq fun xs => xs.extract 0 a ++ new ++ xs.extract c xs.size) }) :
    wpAny (model prog w) A (setItem (.ref l) (.ref sl) (.ref b)) Q E s := by
  have hl : s.heap.IsList l items := PySem.IsL.isList e
  have hb : s.heap.IsList b new := PySem.IsL.isList e2
  obtain ⟨os, hos, hcs, hds⟩ := id hs
  have hTs : s.TypeIs (.ref sl) "slice" := ⟨os, hos, hcs⟩
  have hstep : ¬ ((rawPart none == rawInt 0) = true) := Bool.false_ne_true
  have hsame : Builtin.List.listSameRef (.ref l) (.ref b) = false := by
    unfold Builtin.List.listSameRef
    exact beq_eq_false_iff_ne.mpr hne
  have hmax : (max (a : Int) (c : Int)).toNat = c := by omega
  have hz' : ((fun xs : Array Value => xs.extract 0 a ++ new ++ xs.extract c xs.size) items).size ≤ sizeLine + 1 := by
    simp only [Array.size_append, Array.size_extract]
    omega
  unfold setItem
  try with_reducible refine wpAny_holding ?_
  first | refine wpAny_bind (wpAny_pure ?_) | skip
  refine wpAny_bind (wpAny_sequenceKey hl.typeIs (by decide) ?_)
  refine wpAny_bind (wpAny_callSpecial?_slot (name := Str.ofString "__setitem__") hl.typeIs slot_list_setitem
    (wpAny_call_entry slot_list_setitem hl.typeIs entry_list_setitem ?_ (args_list_setitem _ _ _)))
  show wpAny _ _ (Builtin.List.listSubscript? (.ref sl) >>= _) _ _ s
  refine wpAny_bind ?_
  unfold Builtin.List.listSubscript?
  refine wpAny_bind (wpAny_specialOf hTs slice_no_index ?_)
  simp only [Option.isNone_none, if_true]
  refine wpAny_pure ?_
  show wpAny _ _ (typeOf (.ref sl) >>= _) _ _ s
  refine wpAny_bind (wpAny_typeOf hTs ?_)
  first
    | rw [if_neg (by decide)]
    | refine PySem.W.KFB.if_not (by decide) ?_
  rw [listSliceParts_eq]
  refine wpAny_bind (wpAny_bind (wpAny_field hos hds (x := .none) rfl (wpAny_bind (wpAny_listPart .none ?_))))
  rw [if_neg hstep]
  refine wpAny_bind (wpAny_field hos hds (x := vl) rfl (wpAny_bind (wpAny_listPart pl ?_)))
  refine wpAny_bind (wpAny_field hos hds (x := vu) rfl (wpAny_bind (wpAny_listPart pu (wpAny_pure ?_))))
  first
    | simp only [hsame, Bool.false_eq_true, if_false]
    | refine PySem.W.KFB.if_not hsame ?_
    | (dsimp only
       rw [if_neg (by rw [hsame]; exact Bool.false_ne_true)])
  refine wpAny_bind (m := Builtin.List.listAllItems (.ref b) "must assign iterable to extended slice") ?_
  unfold Builtin.List.listAllItems
  refine wpAny_bind (wpAny_typeOf hb.typeIs ?_)
  first
    | refine PySem.W.KFB.if_so (by decide) ?_
    | rw [if_pos (by decide)]
    | simp only [beq_self_eq_true, Bool.true_or, if_true]
  unfold Builtin.List.listItems
  refine wpAny_bind (wpAny_seqItems e2 rfl (wpAny_pure ?_))
  refine wpAny_bind (wpAny_bind (wpAny_seqItems e rfl (wpAny_pure ?_)))
  refine wpAny_bind (wpAny_of_eq ((sliceIndices_raw (some (a : Int)) (some (c : Int)) none items.size (by simp)).trans (congrArg (pure : Int × Int × Int → Sem (Int × Int × Int)) (bounds_run hac hc))) ?_)
  show wpAny _ _ (if ((1 : Int) == 1) = true then _ else _) _ _ s
  rw [if_pos (by decide)]
  refine wpAny_bind (wpAny_rule ?_)
  first
    | simp only [notLongL hsz, Bool.false_eq_true, if_false]
    | refine PySem.W.KFB.if_not (notLongL hsz) ?_
  first | refine wpAny_bind (wpAny_pure ?_) | skip
  show wpAny _ _ (updateSeq l (fun xs => xs.extract 0 ((a : Int)).toNat ++ new ++ xs.extract (max (a : Int) (c : Int)).toNat xs.size) >>= _) _ _ s
  rw [hmax, Int.toNat_natCast]
  refine wpAny_bind (wpAny_updateSeq (hz := Nat.le_trans (Nat.le_add_right _ _) hsz) (_hz' := hz') e rfl ?_)
  refine wpAny_bind (wpAny_letGo ?_)
  first
    | exact wpAny_bind (wpAny_pure (wpAny_pure ⟨.none, rfl, wpAny_pure h⟩))
    | exact wpAny_pure ⟨.none, rfl, wpAny_pure h⟩
end

section
variable {X : Cx}
/-- xs[a:c] = ys of another list, at the value level: sl is the slice object that was just made -/
theorem set_slice {pins : List (Addr × Obj)} {s : Shared} {σ : St} {H : Hp} {l b sl : Addr} {xs ys : List V} {a c : Int} {vl vu : Value} {Q : Unit → Shared → Prop} (I : Inv X pins σ H s)
    (hH : H l = some (.lst xs)) (hB : H b = some (.lst ys)) (hne : l ≠ b) (hs : s.heap.IsSliceOf sl vl vu .none) (ra : RelV (.int a) vl) (rc : RelV (.int c) vu) (h0 : 0 ≤ a) (hac : a ≤ c) (hc : c ≤ xs.length)
    (hz : xs.length + ys.length ≤ sizeLine) (h : ∀ s', Inv X pins σ (upd H l (.lst (xs.take a.toNat ++ ys ++ xs.drop c.toNat))) s' → Q () s') :
    wpAny (model X.prog X.w) X.A (setItem (.ref l) (.ref sl) (.ref b)) Q X.xe s := by
  obtain ⟨ta, rfl⟩ := ra
  obtain ⟨tc, rfl⟩ := rc
  obtain ⟨z, its, n, r, hl, e⟩ := I.lstM hH
  obtain ⟨z2, its2, n2, r2, hl2, e2⟩ := I.lstM hB
  obtain ⟨a', rfl⟩ := Int.eq_ofNat_of_zero_le h0
  obtain ⟨c', rfl⟩ := Int.eq_ofNat_of_zero_le (Int.le_trans h0 hac)
  simp only [Int.toNat_natCast] at h
  refine setItem_slice (a := a') (c := c') e e2 hne hs (.int _ _) (.int _ _) (by omega) (by rw [List.size_toArray]; omega) (by rw [List.size_toArray, List.size_toArray]; omega) (h _ ?_)
  refine I.lset (its' := its.take a' ++ its2 ++ its.drop c') (t' := s.toks) hH e ?_ (Vals.append (Vals.append (r.take _) r2) (r.drop _)) ?_
  · exact splice_eq its its2 a' c'
  · rw [List.length_append, List.length_append, List.length_take, List.length_drop]
    omega
end
end L2

namespace Att
open PySem PySem.W PySem.Calls PyProof.Rows

/-! ### the script -/
theorem ints_of_wellAll {P : Params} {h : Heap} : ∀ (ns : List Int) (vs : List Value), WellAll P h vs (ns.map WData.int) → IntsAre vs ns := by
  intro ns
  induction ns with
  | nil =>
    intro vs w
    rw [List.map_nil] at w
    cases w
    exact .nil
  | cons n ns ih =>
    intro vs w
    rw [List.map_cons] at w
    cases w with
    | cons a b =>
      cases a
      exact .cons _ _ (ih _ b)

theorem script_of {l : OpenLaw} {n : Nat} (hn : l.most = some n) {P : Params} {h : Heap} {args : List WData} {vals : List Value}
    (hpre : l.row.toRowW.claim.pre args = true) (hwl : WellAll P h vals args) :
    ∃ a vs ns, vals = [Value.ref a] ∧ args = [WData.list (ns.map WData.int)] ∧ h.get? a = some { cls := .type "list", data := .seq vs.toArray } ∧ IntsAre vs ns ∧ ns.length ≤ n := by
  have hsh : WShape.hasAll [] args [.list .int] = true := (pre_splitW hpre).1
  have hc : l.pre.holds [] { args := args } = true := (pre_splitW hpre).2
  obtain ⟨d, r, rfl, h1, h2⟩ := hasAllW_cons hsh
  obtain rfl := hasAllW_nil h2
  obtain ⟨xs, rfl, h3⟩ := hasW_list h1
  obtain ⟨ns, rfl⟩ := items_int h3
  have hlen : ns.length ≤ n := by
    unfold OpenLaw.pre at hc
    have h4 : (WTm.not (.lt (.lit (.int (n : Int))) (.len (.arg 0)))).holds [] { args := [.list (ns.map .int)] } = true := by
      have h4 := (holds_andW hc).1
      rw [hn] at h4
      exact h4
    have h5 := condW_of h4 (w_not (w_lt w_lit (w_len_list (w_arg rfl))))
    rw [List.length_map] at h5
    refine Nat.le_of_not_lt fun q => ?_
    have q' : (n : Int) < ((ns.length : Nat) : Int) := by omega
    first
      | (rw [decide_eq_true q'] at h5; exact absurd h5 (by decide))
      | (simp at h5; omega)
  cases hwl with
  | cons w1 w2 =>
    cases w2
    cases w1 with
    | list ho hall => exact ⟨_, _, ns, rfl, rfl, ho, ints_of_wellAll ns _ hall, hlen⟩

theorem post_true (l : OpenLaw) (args : List WData) : l.row.toRowW.claim.post args (.bool true) args = true :=
  postW_of (r := l.row.toRowW) (X := (true == true))
    (show WShape.has [] (.bool true) .bool = true by first | rfl | decide | simp [WShape.has, WShape.arms, WShape.armsAll])
    (show (WTm.eq .res (.lit (.bool true))).value [] { args := args, res := some (.bool true), after := args } = some (.bool (true == true)) from w_eq_bool (w_res rfl) w_lit) rfl

/-! ### the attachment: holds_open's last premise (the goal 'hc' behind k_head) from a wpAny of the law's body -/
theorem attach {l : OpenLaw} {n : Nat} {q : Program} {loose : List Str} {XP : (Str → Option Value) → Heap → Prop} {YP : World → Heap → Prop} {d : DefRec} {x : Str}
    (hn : l.most = some n) (hdf : d.params.defaults = [])
    (hbind : ∀ pm cd doc v : Value, bindArgs (docDef d.name d.params d.body d.scope pm cd doc) ⟨[v], []⟩ = pure [(x, v)])
    (hx : d.scope.names.lookup x = some .local ∨ d.scope.names.lookup x = some .cell)
    (hk : d.scope.kind = .function) (hco : d.scope.isCoroutine = false) (hgen : d.scope.isGenerator = false)
    (body : ∀ (w : World) (s₀ s₁ s : Shared) (mg mb : Str → Option Value) (fa : Addr) (o : Obj) (pm cd doc : Value) (a : Addr) (vs : List Value) (ns : List Int),
      Ground q loose [] XP w s₀ mg mb s₁.heap → YP w s₁.heap →
      s₁.heap.get? fa = some o → o.data = .func (docDef d.name d.params d.body d.scope pm cd doc) → s₁.heap.CodeRec cd d.name → mg d.name = some (.ref fa) →
      s₁.heap.get? a = some { cls := .type "list", data := .seq vs.toArray } → IntsAre vs ns → ns.length ≤ n →
      s.gens = #[] → s.os = s₁.os →
      Fr s₁.heap s₁.heap.objs.size s.heap (bindL (envOfC d.name d.scope s₁.heap.objs.size fa cd).kindOf [(x, .ref a)] fun _ => none) →
      Cl s₁.heap.objs.size (cellsFrom (s₁.heap.objs.size + 1) d.scope.names []) s.heap (bindC (envOfC d.name d.scope s₁.heap.objs.size fa cd).kindOf [(x, .ref a)] fun _ => none) →
      wpAny (model l.prog w) (callerA.deeper (envOfC d.name d.scope s₁.heap.objs.size fa cd)) (execs d.body (envOfC d.name d.scope s₁.heap.objs.size fa cd))
        (fun f s' => f = .ret (.bool true) ∧ OldK s₁.heap s'.heap ∧ s'.os = s₁.os ∧ AllBare s'.gens) (fun _ _ => False) s) :
    WalkO q loose XP YP l.row.toRowW d [] (fun f vs => PySem.call f vs) := by
  intro w s₀ s₁ mg mb G Y fa o pm cd doc dV kV ho hd hcd hD hmg hg args vals as hpre hlay hrd hwl hlo
  obtain rfl : dV = .none := Dflts.none hD hdf
  obtain rfl : kV = .none := Dflts.noKw hD
  obtain ⟨a, vs, ns, rfl, rfl, hobj, hints, hlen⟩ := script_of hn hpre hwl
  refine enter_call ?_
  refine call_cells_ret (o := o) (by rw [depth_caller]; decide) ho (fd_plain hd) G.T.nolimit hcd (hbind pm cd doc (.ref a)) (fun y hy => ?_) (fun h₁ tk F X => ?_) hco hgen hk
  · obtain rfl : y = (x, Value.ref a) := List.mem_singleton.mp hy
    rcases hx with e | e
    · exact .inl e
    · exact .inr ⟨e, cellsFrom_some _ _ _ (.inl e)⟩
  · refine wpAny_mono (body w s₀ s₁ { s₁ with heap := h₁, toks := tk } mg mb fa o pm cd doc a vs ns G Y ho (fd_plain hd) hcd hmg hobj hints hlen hg rfl F X) (fun f s' hq => ?_) (fun _ _ hq => hq)
    obtain ⟨rfl, h2, h3, h4⟩ := hq
    exact ⟨.inl ⟨.bool true, .bool true, [], rfl, fun _ => rfl, .bool true, post_true l _, fun _ => ⟨List.Pairwise.nil, fun _ hm => (nomatch hm)⟩⟩, h2, h3, h4⟩

/-- the same from a codeAny of the CALL (for a layer whose function contracts speak of calls) -/
theorem attach_call {l : OpenLaw} {n : Nat} {q : Program} {loose : List Str} {XP : (Str → Option Value) → Heap → Prop} {YP : World → Heap → Prop} {d : DefRec}
    (hn : l.most = some n) (hdf : d.params.defaults = [])
    (call : ∀ (w : World) (s₀ s₁ : Shared) (mg mb : Str → Option Value) (fa : Addr) (o : Obj) (pm cd doc : Value) (a : Addr) (vs : List Value) (ns : List Int),
      Ground q loose [] XP w s₀ mg mb s₁.heap → YP w s₁.heap →
      s₁.heap.get? fa = some o → o.data = .func (docDef d.name d.params d.body d.scope pm cd doc) → s₁.heap.CodeRec cd d.name → mg d.name = some (.ref fa) →
      s₁.heap.get? a = some { cls := .type "list", data := .seq vs.toArray } → IntsAre vs ns → ns.length ≤ n → s₁.gens = #[] →
      codeAny (model l.prog w) callerA (.call (.ref fa) ⟨[.ref a], []⟩) (fun r s' => r = .ok (.ret (.bool true)) ∧ OldK s₁.heap s'.heap ∧ s'.os = s₁.os ∧ AllBare s'.gens) s₁) :
    WalkO q loose XP YP l.row.toRowW d [] (fun f vs => PySem.call f vs) := by
  intro w s₀ s₁ mg mb G Y fa o pm cd doc dV kV ho hd hcd hD hmg hg args vals as hpre hlay hrd hwl hlo
  obtain rfl : dV = .none := Dflts.none hD hdf
  obtain rfl : kV = .none := Dflts.noKw hD
  obtain ⟨a, vs, ns, rfl, rfl, hobj, hints, hlen⟩ := script_of hn hpre hwl
  refine enter_call (codeAny_mono (call w s₀ s₁ mg mb fa o pm cd doc a vs ns G Y ho (fd_plain hd) hcd hmg hobj hints hlen hg) fun r s' hq => ?_)
  obtain ⟨rfl, h2, h3, h4⟩ := hq
  exact ⟨.inl ⟨.bool true, .bool true, [], rfl, fun _ => rfl, .bool true, post_true l _, fun _ => ⟨List.Pairwise.nil, fun _ hm => (nomatch hm)⟩⟩, h2, h3, h4⟩

/-- the same where the top left finished generators (o_head chose holds_openN): nothing may have changed at all and no generator may be left -/
theorem attachN {l : OpenLaw} {n : Nat} {q : Program} {loose : List Str} {XP : (Str → Option Value) → Heap → Prop} {YP : World → Heap → Prop} {d : DefRec} {x : Str}
    (hn : l.most = some n) (hdf : d.params.defaults = [])
    (hbind : ∀ pm cd doc v : Value, bindArgs (docDef d.name d.params d.body d.scope pm cd doc) ⟨[v], []⟩ = pure [(x, v)])
    (hx : d.scope.names.lookup x = some .local ∨ d.scope.names.lookup x = some .cell)
    (hk : d.scope.kind = .function) (hco : d.scope.isCoroutine = false) (hgen : d.scope.isGenerator = false)
    (body : ∀ (w : World) (s₀ s₁ s : Shared) (mg mb : Str → Option Value) (fa : Addr) (o : Obj) (pm cd doc : Value) (a : Addr) (vs : List Value) (ns : List Int),
      Ground q loose [] XP w s₀ mg mb s₁.heap → YP w s₁.heap →
      s₁.heap.get? fa = some o → o.data = .func (docDef d.name d.params d.body d.scope pm cd doc) → s₁.heap.CodeRec cd d.name → mg d.name = some (.ref fa) →
      s₁.heap.get? a = some { cls := .type "list", data := .seq vs.toArray } → IntsAre vs ns → ns.length ≤ n →
      s.gens = #[] → s.os = s₁.os →
      Fr s₁.heap s₁.heap.objs.size s.heap (bindL (envOfC d.name d.scope s₁.heap.objs.size fa cd).kindOf [(x, .ref a)] fun _ => none) →
      Cl s₁.heap.objs.size (cellsFrom (s₁.heap.objs.size + 1) d.scope.names []) s.heap (bindC (envOfC d.name d.scope s₁.heap.objs.size fa cd).kindOf [(x, .ref a)] fun _ => none) →
      wpAny (model l.prog w) (callerA.deeper (envOfC d.name d.scope s₁.heap.objs.size fa cd)) (execs d.body (envOfC d.name d.scope s₁.heap.objs.size fa cd))
        (fun f s' => f = .ret (.bool true) ∧ (∀ b o, s₁.heap.get? b = some o → s'.heap.get? b = some o) ∧ s'.os = s₁.os ∧ s'.gens = #[]) (fun _ _ => False) s) :
    WalkN q loose XP YP l.row.toRowW d [] (fun f vs => PySem.call f vs) := by
  intro w s₀ s₁ mg mb G Y fa o pm cd doc dV kV ho hd hcd hD hmg hg args vals as hpre hlay hrd hwl hlo
  obtain rfl : dV = .none := Dflts.none hD hdf
  obtain rfl : kV = .none := Dflts.noKw hD
  obtain ⟨a, vs, ns, rfl, rfl, hobj, hints, hlen⟩ := script_of hn hpre hwl
  refine enter_callW ?_
  refine call_cells_ret (o := o) (by rw [depth_caller]; decide) ho (fd_plain hd) G.T.nolimit hcd (hbind pm cd doc (.ref a)) (fun y hy => ?_) (fun h₁ tk F X => ?_) hco hgen hk
  · obtain rfl : y = (x, Value.ref a) := List.mem_singleton.mp hy
    rcases hx with e | e
    · exact .inl e
    · exact .inr ⟨e, cellsFrom_some _ _ _ (.inl e)⟩
  · refine wpAny_mono (body w s₀ s₁ { s₁ with heap := h₁, toks := tk } mg mb fa o pm cd doc a vs ns G Y ho (fd_plain hd) hcd hmg hobj hints hlen hg rfl F X) (fun f s' hq => ?_) (fun _ _ hq => hq)
    obtain ⟨rfl, h2, h3, h4⟩ := hq
    exact ⟨.inl ⟨.bool true, .bool true, [], rfl, fun _ => rfl, .bool true, post_true l _, fun _ => ⟨List.Pairwise.nil, fun _ hm => (nomatch hm)⟩⟩, h2, h3, h4⟩

/-! ### rules over ANY heap (no ledger) from facts about the written part K: the library's own take a ledger (News) for what they write -/
section
variable {prog : Program} {w : World} {A : Around} {E : Value → Shared → Prop} {s : Shared} {K : Frag}

/-- a def of the module, or a method (qual 'C.m'), entered: the frame is the next address; cells behind it -/
theorem call_fn {R : Result → Shared → Prop} {name qual : Str} {params : Arguments} {body : List Stmt} {scope : Scope} {dV kV doc pm cdv ct oc : Value} {an od : Option Addr} {osl : Array (Option Value)} {f : Addr} {args : Args} {binds : List (Str × Value)}
    (X : K.In s.heap) (hlim : s.heap.NoLimit) (ho : K.lookup f = some ⟨oc, od, .func (fnOf name qual params body scope dV kV doc pm an cdv ct), osl⟩) (hcd : codeIn K cdv qual = true) (hroom : A.depth < recursionLimit)
    (hbind : BindsTo s (fnOf name qual params body scope dV kV doc pm an cdv ct) args binds)
    (hkind : (binds.all fun y => scope.names.lookup y.1 == some .local || scope.names.lookup y.1 == some .cell) = true)
    (h : ∀ s₁, InCallC s s.heap.objs.size (bindL (envOfC qual scope s.heap.objs.size f cdv).kindOf binds fun _ => none) (cellsFrom (s.heap.objs.size + 1) scope.names [])
        (bindC (envOfC qual scope s.heap.objs.size f cdv).kindOf binds fun _ => none) s₁ →
      wpAny (model prog w) (A.deeper (envOfC qual scope s.heap.objs.size f cdv)) (execs body (envOfC qual scope s.heap.objs.size f cdv))
        (fun fl s' => R (.ok (.ret (match fl with | .ret v => v | _ => .none))) s')
        (fun e s' => wpAny (model prog w) (A.deeper (envOfC qual scope s.heap.objs.size f cdv)) (leaving (envOfC qual scope s.heap.objs.size f cdv) e) (fun _ s'' => R (.error e) s'') (fun e' s'' => R (.error e') s'') s') s₁)
    (hco : scope.isCoroutine = false) (hgen : scope.isGenerator = false) (hk : scope.kind = .function) : codeAny (model prog w) A (.call (.ref f) args) R s := by
  refine codeAny_call_function hroom (X _ _ ho) rfl hco hgen rfl (codeRec_of X hcd) (hbind _ _ _ _ ?_)
  refine wpAny_newFunctionEnv_cells hk (kindsX hkind _) fun env he s₁ x => ?_
  subst he
  exact ⟨hlim.keeps x.toInCall.keep, codeAny_func (h s₁ x)⟩

/-- C(..): dict at size, instance at size + 1, then __init__ -/
theorem make_obj {R : Result → Shared → Prop} {C fI : Addr} {rest : List Value} {kw : List (Str × Value)}
    (X : K.In s.heap) (hm : makesIn K C = true) (hi : findIn K (.ref C) "__init__" = some (some (.ref fI))) (hf : isFn K (.ref fI) = true)
    (h : codeAny (model prog w) (A.under (.builtin "type.__call__" ⟨.ref C :: rest, kw⟩)) (.call (.ref fI) ⟨.ref (s.heap.objs.size + 1) :: rest, kw⟩) (InitBack (s.heap.objs.size + 1) R)
      { s with heap := (s.heap.push emptyDict).push (instObj C s.heap.objs.size) }) : codeAny (model prog w) A (.call (.ref C) ⟨rest, kw⟩) R s := by
  obtain ⟨hh, g, d, t, os⟩ := s
  exact make_core (makes_of X hm) (looks_findIn X hi) (fun self => bind_fn X self (beq_iff_eq.mp hf)) (.inl rfl) h

/-- x.name where the instance's dict holds the name and the class does not -/
theorem get_field {x C : Addr} {ox : Obj} {es : List DictEntry} {n : Nat} {name : Str} {expr : Bool} {v : Value} {Q : Value → Shared → Prop}
    (X : K.In s.heap) (I : PySem.W.InstAt s.heap x ox C (some (dictOf es n))) (hg : plainGet K C name = true) (hh : hasDictIn K C = true) (ha : findIn K (.ref C) name = some none)
    (hl : getL name es = some (some v)) (hv : handedIn v = true) (h : Q v { s with toks := s.toks + 1 }) : wpAny (model prog w) A (getAttr (.ref x) name expr) Q E s :=
  get_value X I (plainGet_of hg).1 (findObj_own hh ha rfl hl) hv h

/-- x.m(..): the method found in the class -/
theorem get_method {x C f : Addr} {ox : Obj} {es : List DictEntry} {n : Nat} {name : Str} {pl : Sem Bool} {Q : Value × List Value → Shared → Prop}
    (X : K.In s.heap) (I : PySem.W.InstAt s.heap x ox C (some (dictOf es n))) (hg : plainGet K C name = true) (hf : findIn K (.ref C) name = some (some (.ref f))) (ht : isFn K (.ref f) = true)
    (hl : getL name es = some none) (h : Q (.ref f, [.ref x]) s) : wpAny (model prog w) A (getMethod (.ref x) name pl) Q E s :=
  method_fn X I (plainGet_of hg).1 (plainGet_of hg).2 hf (beq_iff_eq.mp ht) (by show (lookIn name (dictOf es n)).map _ = _; rw [lookIn_dict, hl]; rfl) h

/-! the whole heap as the ledger: makes every rule that writes through a ledger a rule over any heap -/
def noObjs (h : Heap) : Heap := { h with objs := #[] }
theorem noObjs_get (h : Heap) (b : Addr) : (noObjs h).get? b = none := by
  cases e : (noObjs h).get? b with
  | none => rfl
  | some o => exact absurd (Heap.lt_size e) (Nat.not_lt_zero _)
def ledger (h : Heap) (L d : Addr) : List (Addr × Obj) := (List.range h.objs.size).filterMap fun a => if a = L ∨ a = d then none else (h.get? a).map fun o => (a, o)
theorem mem_ledger {h : Heap} {L d a : Addr} {o : Obj} : (a, o) ∈ ledger h L d ↔ a ≠ L ∧ a ≠ d ∧ h.get? a = some o := by
  unfold ledger
  rw [List.mem_filterMap]
  constructor
  · rintro ⟨b, _, e⟩
    split at e
    · cases e
    · rename_i hb
      obtain ⟨o', ho, e'⟩ := Option.map_eq_some_iff.mp e
      cases e'
      exact ⟨fun q => hb (.inl q), fun q => hb (.inr q), ho⟩
  · rintro ⟨n1, n2, ho⟩
    refine ⟨a, List.mem_range.mpr (Heap.lt_size ho), ?_⟩
    rw [if_neg (show ¬ (a = L ∨ a = d) from fun q => q.elim n1 n2), ho] <;> rfl
theorem news_ledger {h : Heap} {L d : Addr} {od : Obj} (hne : d ≠ L) (ho : h.get? d = some od) : News (noObjs h) L h ([] ++ (d, od) :: ledger h L d) := by
  rintro ⟨a, o⟩ hp
  rcases List.mem_cons.mp hp with e | hp
  · cases e
    exact ⟨ho, hne, noObjs_get _ _⟩
  · obtain ⟨n1, n2, e⟩ := mem_ledger.mp hp
    exact ⟨e, n1, noObjs_get _ _⟩
theorem fr_all {h : Heap} {L : Addr} {m : Str → Option Value} (n : h.Ns L m) : Fr (noObjs h) L h m :=
  ⟨n, fun b o e => (by rw [noObjs_get] at e; cases e), Nat.zero_le _⟩
/-- Upd of the head entry (for append_K, setItem_K ..) -/
theorem upd_ledger {h : Heap} {L d : Addr} {o o' : Obj} : Upd d o o' ((d, o) :: ledger h L d) ((d, o') :: ledger h L d) :=
  .head fun ⟨_, _⟩ hp => (mem_ledger.mp hp).2.1

/-- x.name = v over any heap: L is any namespace of the heap (the frame's, say): its map stays, its object is not told; all else but the dict stays -/
theorem set_field {x C dx L : Addr} {ox : Obj} {m : Str → Option Value} {es es' : List DictEntry} {n n' : Nat} {name : Str} {v : Value} {Q : Unit → Shared → Prop}
    (X : K.In s.heap) (I : PySem.W.InstAt s.heap x ox C (some (dictOf es n))) (hd : ox.dict = some dx) (hL : s.heap.Ns L m) (hne : dx ≠ L)
    (hs : findIn K (.ref C) "__setattr__" = some (some (.builtin "object.__setattr__"))) (hp : plainOver K C = true) (ht : takerIn K C name = some none) (hh : hasDictIn K C = true) (hl : (getL name es).isSome = true)
    (e : (putL name (PyData.keyHash w.params name) (.str name (s.toks + 1)) v es, putN name es n) = (es', n')) (hz : es'.length ≤ 1000)
    (h : ∀ h' : Heap, h'.Ns L m → h'.get? dx = some (dictOf es' n') → (∀ b o, b ≠ dx → b ≠ L → s.heap.get? b = some o → h'.get? b = some o) → Q () { s with heap := h', toks := s.toks + 2 }) :
    wpAny (model prog w) A (setAttr (.ref x) name v) Q E s := by
  obtain ⟨e1, e2⟩ := Prod.mk.inj e
  have hdx : s.heap.get? dx = some (dictOf es n) := by
    have := I.dict
    rw [hd] at this
    exact this
  refine set_plain X I hs (osa_dict (s := { s with toks := s.toks + 1 }) (h₀ := noObjs s.heap) (L := L) (m := m) (od := dictOf es n) (od' := dictOf es' n') (es := es') (n := n') (pre := []) (post := ledger s.heap L dx)
    (fr_all hL) (news_ledger hne hdx) X I hd hp ht hh hl (fun _ q => nomatch q) (fun ⟨_, _⟩ q => (mem_ledger.mp q).2.1) (by rw [putName_dict, e1, e2]) rfl hz fun h' F' N' => ?_)
  exact h h' F'.ns (N'.get (List.Mem.head _)) fun b o n1 n2 ho => N'.get (List.Mem.tail _ (mem_ledger.mpr ⟨n2, n1, ho⟩))
end
end Att

namespace L2
open PySem PySem.Spec PyProof.Rows

theorem vals_ints : ∀ {vs : List Value} {ns : List Int}, IntsAre vs ns → Vals (ns.map V.int) vs
  | _, _, .nil => .nil
  | _, _, .cons n t h => .cons ⟨t, rfl⟩ (vals_ints h)

/-- nothing is tracked but the script, known to the object (or it is an object of the module) -/
def Only (H : Hp) : Prop := ∀ b, H b = none ∨ ∃ o xs, H b = some (.frz o (.lst xs))

/-- THE HEAD: the law's promise, at the heap behind the top. F, the promise of the law's def, may use that base is part of the heap (so K.In base, base.Ns mainGlobals mg stand in Mod) -/
theorem law_call {P : Program} {w : World} {K : PySem.W.Frag} {mg mb : Str → Option Value} {CX : CXT} {k : Nat} {fa a : Addr} {fd : FuncData} {x : Str} {sp : Sp} {s₁ : Shared} {vs : List Value} {ns : List Int}
    (KX : K.In s₁.heap) (hns : s₁.heap.Ns mainGlobals mg) (hb : s₁.heap.Ns builtinsNs mb) (hbb : ∀ x : Str, x ≠ "__name__" → mb x = bootBuiltins x) (hlim : s₁.heap.NoLimit) (hg : s₁.gens = #[])
    (ha : s₁.heap.get? a = some { cls := .type "list", data := .seq vs.toArray }) (hi : IntsAre vs ns) (hl : ns.length ≤ sizeLine) (hr : Room k callerA)
    (F : ∀ base : Heap, K.In base → base.Ns mainGlobals mg → FnOk P w K mg base CX k fa fd [x] sp) (hbind : ∀ (s : Shared) (u : Value), BindsTo s fd ⟨[u], []⟩ [(x, u)])
    (hsp : ∀ H : Hp, Only H → SqL K H a (ns.map V.int) → sp [.ref a] H (fun v _ => v = .bl true) fun _ _ _ => False)
    (hCX : ∀ H e s', CX [] H s₁ (fun _ _ _ => False) e s' → False) :
    codeAny (model P w) callerA (.call (.ref fa) ⟨[.ref a], []⟩) (fun r s' => r = .ok (.ret (.bool true)) ∧ OldK s₁.heap s'.heap ∧ s'.os = s₁.os ∧ AllBare s'.gens) s₁ := by
  have rv := vals_ints hi
  have lenV := hi.length
  -- from an abstract heap in which nothing but the script may be tracked
  have core : ∀ H : Hp, Only H → SqL K H a (ns.map V.int) → HOk P w H s₁.heap → (∀ b, H b ≠ none → b = a) → (H a ≠ none → K.lookup a = none) →
      codeAny (model P w) callerA (.call (.ref fa) ⟨[.ref a], []⟩) (fun r s' => r = .ok (.ret (.bool true)) ∧ OldK s₁.heap s'.heap ∧ s'.os = s₁.os ∧ AllBare s'.gens) s₁ := by
    intro H hO hS hok hA hK
    have base_of : ∀ {b : Addr} {o : Obj}, s₁.heap.get? b = some o → H b = none → (hidT s₁.heap H).get? b = some o := fun e n => hidT_get e n
    have noA : ∀ {b : Addr} {o : Obj} {es : Array DictEntry} {ep : Nat}, s₁.heap.get? b = some o → o.data = .dict es ep → H b = none := fun {b o es ep} e d => by
      cases q : H b with
      | none => rfl
      | some u =>
        have e' : b = a := hA b (by rw [q]; simp)
        subst e'
        rw [ha] at e; cases e
        have d' : Data.seq vs.toArray _ = Data.dict es ep := d
        cases d'
    have nsK : ∀ {b : Addr} {m : Str → Option Value}, s₁.heap.Ns b m → (hidT s₁.heap H).Ns b m := fun {b m} ⟨o, es, ep, e, d, r⟩ => ⟨o, es, ep, base_of e (noA e d), d, r⟩
    have hKb : K.In (hidT s₁.heap H) := fun b o e => base_of (KX b o e) (by
      cases q : H b with
      | none => rfl
      | some u =>
        have e' : b = a := hA b (by rw [q]; simp)
        subst e'
        rw [hK (by rw [q]; simp)] at e; cases e)
    have hM : Mod K mg (hidT s₁.heap H) := ⟨hKb, nsK hns, ⟨mb, nsK hb, hbb⟩, let ⟨mc, h1, h2⟩ := hlim; ⟨mc, nsK h1, h2⟩⟩
    have e0 : Env0 P w K mg (hidT s₁.heap H) callerA [] s₁ H := ⟨rfl, hM, fun b o e => of_hidT e, Nat.le_of_eq (hidT_size _ _), trivial, fun b hb => absurd (show b ∈ ([] : List Addr) from hb) (by simp), hok, .of_eq hg⟩
    refine codeAny_mono ((F _ hKb (nsK hns)).run callerA [] s₁ H ⟨[.ref a], []⟩ [.ref a] [.ref a] _ _ hr e0 (hbind s₁ (.ref a)) (.cons rfl .nil) (hsp H hO hS)) fun r s' h => ?_
    cases r with
    | error e => exact (hCX H e s' h).elim
    | ok fl =>
      cases fl with
      | next => exact False.elim h
      | brk => exact False.elim h
      | cont => exact False.elim h
      | ret u =>
        obtain ⟨v, H', os, bare, un, hok', r', q⟩ := h
        have q' : v = .bl true := q
        subst q'
        obtain rfl : u = Value.bool true := r'
        refine ⟨rfl, OldK.of_keep fun b o e => ?_, os, bare⟩
        cases q : H b with
        | none => exact un.keep b o e q (by intro z; exact absurd (show b ∈ ([] : List Addr) from z) (by simp)) (by simp)
        | some u =>
          rcases hO b with z | ⟨ob, xs, z⟩
          · rw [q] at z; cases z
          · have z2 := un.frzs b ob _ z
            obtain ⟨e1, _⟩ := hok b _ z
            obtain ⟨e2, _⟩ := hok' b _ z2
            rw [e] at e1; cases e1
            exact e2
  cases hk : K.lookup a with
  | some o =>
    -- the script is one of the module's own objects
    have e := KX a o hk
    rw [ha] at e
    cases e
    refine core (fun _ => none) (fun _ => .inl rfl) (.inr ⟨_, vs.toArray, _, hk, rfl, rfl, rfl, by rw [List.size_toArray, lenV]; exact hl, by simpa using rv⟩) (fun b u z => by have z' : (none : Option HO) = some u := z; cases z') (fun b z => absurd rfl z) fun z => absurd rfl z
  | none =>
    refine core (fun b => if b = a then some (.frz { cls := .type "list", data := .seq vs.toArray } (.lst (ns.map V.int))) else none) (fun b => ?_) (.inl (.inr ⟨{ cls := .type "list", data := .seq vs.toArray }, if_pos rfl⟩)) (fun b u z => ?_) (fun b z => ?_) fun _ => hk
    · by_cases hb : b = a
      · exact .inr ⟨_, _, if_pos hb⟩
      · exact .inl (if_neg hb)
    · by_cases hb : b = a
      · have z' := (if_pos hb).symm.trans z
        cases z'
        subst hb
        exact ⟨ha, by rw [List.length_map]; exact hl, vs, _, rv, ha⟩
      · have z' := (if_neg hb).symm.trans z
        cases z'
    · by_cases hb : b = a
      · exact hb
      · exact absurd (if_neg hb) z
end L2

namespace L2
open PySem PySem.Spec PyProof.Rows

abbrev KOf {K : PySem.W.Frag} {h : Heap} (_ : K.In h) : PySem.W.Frag := K

/-- the goal that k_head leaves (case hc), from the law's promise. F gives the function object fd (K's own) once, then the promise over every base -/
theorem walk_of {l : PySem.W.OpenLaw} {n k : Nat} {q : Program} {loose : List Str} {XP : (Str → Option Value) → Heap → Prop} {YP : World → Heap → Prop} {d : DefRec} {K : Params → PySem.W.Frag} {CX : World → CXT} {sp : World → Sp} {x : Str}
    (hn : l.most = some n) (hn2 : n ≤ sizeLine) (hdf : d.params.defaults = []) (hr : Room k callerA)
    (hY : ∀ (w : World) (h : Heap), YP w h → (K w.params).In h)
    (F : ∀ (w : World) (mg : Str → Option Value) (fa : Addr) (h : Heap), (K w.params).In h → h.Ns mainGlobals mg → mg d.name = some (.ref fa) →
      ∃ fd : FuncData, (∀ (s : Shared) (u : Value), BindsTo s fd ⟨[u], []⟩ [(x, u)]) ∧
        ∀ base : Heap, (K w.params).In base → base.Ns mainGlobals mg → FnOk l.prog w (K w.params) mg base (CX w) k fa fd [x] (sp w))
    (hsp : ∀ (w : World) (H : Hp) (a : Addr) (ns : List Int), ns.length ≤ n → Only H → SqL (K w.params) H a (ns.map V.int) → sp w [.ref a] H (fun v _ => v = .bl true) fun _ _ _ => False)
    (hCX : ∀ (w : World) (H : Hp) (s : Shared) (e : Value) (s' : Shared), CX w [] H s (fun _ _ _ => False) e s' → False) :
    PySem.W.WalkO q loose XP YP l.row.toRowW d [] (fun f vs => PySem.call f vs) := by
  refine Att.attach_call hn hdf fun w s₀ s₁ mg mb fa o pm cd doc a vs ns G Y ho hd hcd hmg hobj hints hlen hg => ?_
  have KX := hY w _ Y
  obtain ⟨fd, hb, hF⟩ := F w mg fa _ KX G.T.g hmg
  exact law_call KX G.T.g G.T.b G.T.builtins G.T.nolimit hg hobj hints (Nat.le_trans hlen hn2) hr hF hb (fun H hO hS => hsp w H a ns hlen hO hS) fun H e s' => hCX w H s₁ e s'
/-- the same where the promise hangs on the written part alone: (sp := My.sp_law), no hole under a binder -/
theorem walk_ofK {l : PySem.W.OpenLaw} {n k : Nat} {q : Program} {loose : List Str} {XP : (Str → Option Value) → Heap → Prop} {YP : World → Heap → Prop} {d : DefRec} {K : Params → PySem.W.Frag} {CX : CXT} {sp : PySem.W.Frag → Sp} {x : Str}
    (hn : l.most = some n) (hn2 : n ≤ sizeLine) (hdf : d.params.defaults = []) (hr : Room k callerA)
    (hY : ∀ (w : World) (h : Heap), YP w h → (K w.params).In h)
    (F : ∀ (w : World) (mg : Str → Option Value) (fa : Addr) (h : Heap), (K w.params).In h → h.Ns mainGlobals mg → mg d.name = some (.ref fa) →
      ∃ fd : FuncData, (∀ (s : Shared) (u : Value), BindsTo s fd ⟨[u], []⟩ [(x, u)]) ∧
        ∀ base : Heap, (K w.params).In base → base.Ns mainGlobals mg → FnOk l.prog w (K w.params) mg base CX k fa fd [x] (sp (K w.params)))
    (hsp : ∀ (K : PySem.W.Frag) (H : Hp) (a : Addr) (ns : List Int), ns.length ≤ n → Only H → SqL K H a (ns.map V.int) → sp K [.ref a] H (fun v _ => v = .bl true) fun _ _ _ => False)
    (hCX : ∀ (H : Hp) (s : Shared) (e : Value) (s' : Shared), CX [] H s (fun _ _ _ => False) e s' → False) :
    PySem.W.WalkO q loose XP YP l.row.toRowW d [] (fun f vs => PySem.call f vs) :=
  walk_of (K := K) (CX := fun _ => CX) (sp := fun w => sp (K w.params)) hn hn2 hdf hr hY F (fun w H a ns h1 h2 h3 => hsp (K w.params) H a ns h1 h2 h3) fun _ H s e s' => hCX H s e s'
end L2



/-! SHORT WORDS over the layer: a def of the text, its body, what a loop and a test want. -/
namespace L2
open PySem PySem.Spec PyProof.Rows

/-! ### the text by places -/
/-- the j-th statement of a class's body -/
def inClass (s : Stmt) (j : Nat) : Stmt := match s with
  | .ClassDef _ _ _ body _ _ _ _ _ _ _ => body.getD j (.Pass ⟨0, 0, 0, 0⟩)
  | _ => .Pass ⟨0, 0, 0, 0⟩
def defArgs (s : Stmt) : Arguments := match s with
  | .FunctionDef _ a _ _ _ _ _ _ _ _ => a
  | _ => { posonlyargs := [], args := [], vararg := none, kwonlyargs := [], kw_defaults := [], kwarg := none, defaults := [] }
def defBody (s : Stmt) : List Stmt := match s with
  | .FunctionDef _ _ b _ _ _ _ _ _ _ => b
  | _ => []
def defScope (s : Stmt) : Scope := match s with
  | .FunctionDef _ _ _ _ _ _ sc _ _ _ => sc
  | _ => { kind := .function, names := [], isGenerator := false, isCoroutine := false }

/-! ### no exception leaves a def -/
abbrev CX0 : CXT := fun _ _ _ _ _ _ => False
abbrev E0 : XK := fun _ _ _ => False
theorem pass0 {X : Cx} : Passes CX0 X E0 := fun _ _ _ _ _ _ _ h => h.elim

/-! ### a def (or method) of the text as it stands behind the top -/
structure Fun (K : PySem.W.Frag) (x qual : Str) (st : Stmt) (f : Addr) (fd : FuncData) : Prop where
  ex : ∃ (oc : Value) (od : Option Addr) (kV doc pm : Value) (an : Option Addr) (cdv ct : Value) (osl : Array (Option Value)),
    fd = PySem.W.fnOf x qual (defArgs st) (defBody st) (defScope st) .none kV doc pm an cdv ct ∧ K.lookup f = some ⟨oc, od, .func fd, osl⟩ ∧ PySem.W.codeIn K cdv qual = true
  kp : PySem.W.keepIn K (.ref f) = true
section
variable {P : Program} {w : World} {K : PySem.W.Frag} {mg : Str → Option Value} {base : Heap}
/-- THE RULE for a def: its body as a term of rules, and the reading of that term -/
theorem Fun.ok {x qual : Str} {st : Stmt} {f : Addr} {fd : FuncData} {N ps : List Str} {k : Nat} {sp : Sp} (F : Fun K x qual st f fd) (S : FnScope N ps (defScope st)) (len : ∀ vs H Q E, sp vs H Q E → vs.length = ps.length)
    (hbody : ∀ (cdv : Value) (A : Around) (outer : List Env) (s : Shared) (H : Hp) (vs : List V) (Q : VK) (E : XK), Room k (A.deeper (envOfC qual (defScope st) s.heap.objs.size f cdv)) → sp vs H Q E →
      ∃ t, PSs (cxOf CX0 P w K mg base N qual (defScope st) f cdv A outer s H E).nox (defBody st) t ∧ t { nx := fun _ H' => Q .non H', rt := Q } (start N vs) H) : FnOk P w K mg base CX0 (k + 1) f fd ps sp := by
  obtain ⟨oc, od, kV, doc, pm, an, cdv, ct, osl, rfl, lk, hcd⟩ := F.ex
  refine fn_of lk hcd S len fun A outer s H vs Q E hr hsp => ?_
  obtain ⟨t, h, q⟩ := hbody cdv A outer s H vs Q E hr hsp
  exact ⟨t, h.nox, q⟩
/-- how its arguments bind (no defaults): h is «fun _ _ _ _ _ _ us hl => match us, hl with | [_, _], _ => rfl», one _ a parameter -/
theorem Fun.binds {x qual : Str} {st : Stmt} {f : Addr} {fd : FuncData} {ps : List Str} (F : Fun K x qual st f fd)
    (h : ∀ (kV doc pm : Value) (an : Option Addr) (cdv ct : Value) (us : List Value), us.length = ps.length → bindArgs (PySem.W.fnOf x qual (defArgs st) (defBody st) (defScope st) .none kV doc pm an cdv ct) ⟨us, []⟩ = pure (ps.zip us)) : Binds K fd ps [] := by
  obtain ⟨oc, od, kV, doc, pm, an, cdv, ct, osl, rfl, lk, hcd⟩ := F.ex
  exact .all (h kV doc pm an cdv ct)
theorem fun_mk {x qual : Str} {st : Stmt} {f : Addr} {oc : Value} {od an : Option Addr} {osl : Array (Option Value)} {kV doc pm cdv ct : Value} (l : K.lookup f = some ⟨oc, od, .func (PySem.W.fnOf x qual (defArgs st) (defBody st) (defScope st) .none kV doc pm an cdv ct), osl⟩)
    (c : PySem.W.codeIn K cdv qual = true) (k : PySem.W.keepIn K (.ref f) = true) : Fun K x qual st f (PySem.W.fnOf x qual (defArgs st) (defBody st) (defScope st) .none kV doc pm an cdv ct) := ⟨⟨oc, od, kV, doc, pm, an, cdv, ct, osl, rfl, l, c⟩, k⟩
end
theorem hu_of {A : Around} {k : Nat} (hr : Room k A) : A.units + 1 < cLine := Nat.lt_of_le_of_lt (Nat.add_le_add_left (by decide : 1 ≤ 64) _) hr.units
theorem small1000 {n : Nat} (h : n ≤ 1000) : n < sizeLine := Nat.lt_of_le_of_lt h (by decide)

/-! ### expressions in short: the name that stands in the i-th slot -/
section
variable {X : Cx}
theorem pv (i : Nat) {x : Str} {pos : Pos} (hN : X.N[i]? = some x := by rfl) (hv : Vis X.env.scope x := by first | exact Or.inl rfl | exact Or.inr (Or.inl rfl) | exact Or.inr (Or.inr rfl)) (hd : (x == ("__debug__" : Str)) = false := by decide)
    (hcd : (x == ("__classdict__" : Str)) = false := by decide) : PE X (.Name x pos) (tVar i) := pe_var hN hv hd hcd
end

/-! ### tests -/
theorem iteF {A B : Prop} (h : B) : if false = true then A else B := by
  rw [if_neg Bool.false_ne_true]
  exact h
theorem iteT {A B : Prop} (h : A) : if true = true then A else B := by
  rw [if_pos rfl]
  exact h
theorem ite2 {c A B : Prop} [Decidable c] (h1 : c → A) (h2 : ¬ c → B) : if c then A else B := by
  by_cases h : c
  · rw [if_pos h]
    exact h1 h
  · rw [if_neg h]
    exact h2 h
theorem iteNS {c A B : Prop} [Decidable c] (hc : c) (h : B) : if (!decide c) = true then A else B := by
  rw [decide_eq_true hc]
  exact iteF h

/-! ### heaps -/
/-- all that was tracked is as it was -/
def Same (H H' : Hp) : Prop := ∀ b o, H b = some o → H' b = some o
theorem Same.refl (H : Hp) : Same H H := fun _ _ h => h
theorem Same.trans {H H1 H2 : Hp} (a : Same H H1) (b : Same H1 H2) : Same H H2 := fun c o h => b c o (a c o h)
theorem Same.free {H H' : Hp} (e : Same H H') {l : Addr} (h : H' l = Option.none) : H l = Option.none := by
  cases q : H l with
  | none => rfl
  | some o =>
    rw [e l o q] at h
    cases h
theorem Same.seq {K : PySem.W.Frag} {H H' : Hp} {a : Addr} {xs : List V} (e : Same H H') (h : SqL K H a xs) : SqL K H' a xs := by
  rcases h with (h | ⟨o, h⟩) | h
  · exact .inl (.inl (e _ _ h))
  · exact .inl (.inr ⟨o, e _ _ h⟩)
  · exact .inr h

end L2

set_option Elab.async false
set_option linter.all false
set_option maxRecDepth 100000
/-! Over the hand layer: sorted, == of lists of ints, isinstance, products by their bits, sum, list comprehensions, the script's bits. -/
namespace PwM
/-- the fullest first; the emptiest first -/
def desc (ns : List Int) : List Int := ns.mergeSort (fun a b => decide (b ≤ a))
def asc (ns : List Int) : List Int := ns.mergeSort (fun a b => decide (a ≤ b))
theorem desc_perm (ns : List Int) : (desc ns).Perm ns := List.mergeSort_perm _ _
theorem asc_perm (ns : List Int) : (asc ns).Perm ns := List.mergeSort_perm _ _
theorem desc_sorted (ns : List Int) : (desc ns).Pairwise (fun a b => b ≤ a) := by
  have h := List.pairwise_mergeSort (le := fun (a b : Int) => decide (b ≤ a)) (by intro a b c h1 h2; simp at *; omega) (by intro a b; simp; omega) ns
  exact h.imp (fun h => by simpa using h)
theorem asc_sorted (ns : List Int) : (asc ns).Pairwise (fun a b => a ≤ b) := by
  have h := List.pairwise_mergeSort (le := fun (a b : Int) => decide (a ≤ b)) (by intro a b c h1 h2; simp at *; omega) (by intro a b; simp; omega) ns
  exact h.imp (fun h => by simpa using h)
theorem desc_of {a ns : List Int} (h : a.Perm ns) (ha : a.Pairwise (fun a b => b ≤ a)) : a = desc ns :=
  (h.trans (desc_perm ns).symm).eq_of_pairwise (fun a b _ _ h1 h2 => by omega) ha (desc_sorted ns)
theorem asc_of {a ns : List Int} (h : a.Perm ns) (ha : a.Pairwise (fun a b => a ≤ b)) : a = asc ns :=
  (h.trans (asc_perm ns).symm).eq_of_pairwise (fun a b _ _ h1 h2 => by omega) ha (asc_sorted ns)
theorem desc_congr {a b : List Int} (h : a.Perm b) : desc a = desc b := desc_of ((desc_perm a).trans h) (desc_sorted a)
theorem asc_congr {a b : List Int} (h : a.Perm b) : asc a = asc b := asc_of ((asc_perm a).trans h) (asc_sorted a)
theorem desc_length (ns : List Int) : (desc ns).length = ns.length := (desc_perm ns).length_eq
theorem asc_length (ns : List Int) : (asc ns).length = ns.length := (asc_perm ns).length_eq
end PwM
namespace L2
open PySem PySem.Spec PyProof.Rows
/-! ### sorted -/
section
variable {X : Cx}
theorem intsOfL {pins : List (Addr × Obj)} {σ : St} {H : Hp} {s : Shared} {p : Addr} {ns : List Int} (I : Inv X pins σ H s) (hq : SqL X.K H p (ns.map V.int)) :
    ∃ its : List Value, IntsAre its ns ∧ s.heap.IsList p its.toArray ∧ its.length = ns.length ∧ ns.length ≤ sizeLine := by
  obtain ⟨its, r', pl, hz⟩ := I.list hq
  have hl := r'.length
  rw [List.length_map] at hl hz
  exact ⟨its, intsAre_of r', pl.isList, hl.symm, hz⟩
theorem sortedLaid {pins : List (Addr × Obj)} {σ : St} {H : Hp} {s : Shared} {its : List Value} {out : Array Value} {ns' : List Int} (I : Inv X pins σ H s) (a1 : IntsAre out.toList ns') (hz : ns'.length ≤ sizeLine) :
    Inv X pins σ (upd H (s.heap.objs.size + 1) (.lst (ns'.map V.int))) { s with heap := sortedAll s.heap its out } := by
  obtain ⟨e, he⟩ := sortedAll_at s.heap its out
  refine I.laid (t' := s.toks) (fun _ _ => sortedAll_old) (Nat.le_succ _) (show ObjOk X.prog X.w _ _ _ (.lst _) from ⟨by rw [List.length_map]; exact hz, out.toList, e, vals_ints a1, ?_⟩)
  exact he
theorem call_sorted : CallR X (.builtin "sorted") (fun xs H Q => ∃ (p : Addr) (ns : List Int), xs = [.ref p] ∧ SqL X.K H p (ns.map V.int) ∧ ns.length < 64 ∧ ∀ l, H l = none → Q (.ref l) (upd H l (.lst ((PwM.asc ns).map V.int)))) := by
  intro pins s σ H xs us Q I r h
  obtain ⟨p, ns, rfl, hq, hlen, q⟩ := h
  obtain ⟨u, rfl, rx⟩ := vals1 r
  cases rx
  obtain ⟨its, hI, hl, hn, hz⟩ := intsOfL I hq
  refine sorted_ints hl hI (by omega) fun out ns' a1 a2 a3 => ?_
  obtain rfl := PwM.asc_of a2 a3
  exact ⟨.ref (s.heap.objs.size + 1), _, sortedLaid I a1 (by rw [PwM.asc_length]; exact hz), rfl, q _ (I.hok.fresh (Nat.le_succ _))⟩
/-- a call with keywords -/
def CallKR (X : Cx) (f : Value) (ks : List Str) (r : List V → List V → Hp → VK → Prop) : Prop :=
  ∀ (pins : List (Addr × Obj)) (s : Shared) (σ : St) (H : Hp) (xs : List V) (us : List Value) (zs : List V) (ws : List Value) (Q : VK), Inv X pins σ H s → Vals xs us → Vals zs ws → r xs zs H Q →
    wpAny (model X.prog X.w) X.A (call f us (ks.zip ws)) (EP X pins σ Q) X.xe s
theorem call_sortedR : CallKR X (.builtin "sorted") [Str.ofString "reverse"] (fun xs zs H Q => ∃ (p : Addr) (ns : List Int), xs = [.ref p] ∧ zs = [.bl true] ∧ SqL X.K H p (ns.map V.int) ∧ ns.length < 64 ∧
    ∀ l, H l = none → Q (.ref l) (upd H l (.lst ((PwM.desc ns).map V.int)))) := by
  intro pins s σ H xs us zs ws Q I r rz h
  obtain ⟨p, ns, rfl, rfl, hq, hlen, q⟩ := h
  obtain ⟨u, rfl, rx⟩ := vals1 r
  obtain ⟨u2, rfl, rx2⟩ := vals1 rz
  cases rx
  obtain rfl : u2 = Value.bool true := rx2
  obtain ⟨its, hI, hl, hn, hz⟩ := intsOfL I hq
  refine sorted_ints_rev (b := true) hl hI (by omega) fun out ns' a1 a2 a3 => ?_
  have a3' : ns'.Pairwise (fun a b => b ≤ a) := a3
  obtain rfl := PwM.desc_of a2 a3'
  exact ⟨.ref (s.heap.objs.size + 1), _, sortedLaid I a1 (by rw [PwM.desc_length]; exact hz), rfl, q _ (I.hok.fresh (Nat.le_succ _))⟩
def tCBK (r : List V → List V → Hp → VK → Prop) (t tk : TA) : TE := fun σ H Q => t σ H fun vs H1 => tk σ H1 fun zs H2 => r vs zs H2 Q
theorem pe_callBK {x : Str} {p pos : Pos} {e : Expr} {es : List Expr} {t tk : TA} {id : String} {ks : List Str} {kws : List Keyword} {r : List V → List V → Hp → VK → Prop}
    (hc : CallKR X (.builtin id) ks r) (hg : Gl X x) (hm : X.mg x = none) (hv : bootBuiltins x = some (.builtin id)) (ha : PA X (e :: es) t) (hk : PK X kws tk)
    (hks : (backToKw pos (keywordEach kws X.env)).filterMap (·.1) = ks := by rfl) (hn : x ≠ "__name__" := by decide) (hdb : (x == ("__debug__" : Str)) = false := by decide)
    (he : backTo pos (starEach (e :: es) X.env) = (false, eval e X.env) :: backTo pos (starEach es X.env) := by rfl) (hpl : (backTo pos (starEach (e :: es) X.env)).any (·.1) = false := by rfl)
    (hall : (backToKw pos (keywordEach kws X.env)).all (·.1.isSome) = true := by rfl) (hkw : (backToKw pos (keywordEach kws X.env)).any (·.1.isNone) = false := by rfl) :
    PE X (.Call (.Name x p) (e :: es) kws pos) (tCBK r t tk) := by
  intro pins s σ H Q I h
  refine wpAny_Call_Name_kw (ld_blt I hg hm hv ?_ hn hdb)
  refine callWith_kw (thn (ha pos pins s σ H _ I h) fun us s1 ⟨vs, H1, I1, r1, q1⟩ => ?_) he hpl hall hkw
  refine thn (hk pos pins s1 σ H1 _ I1 q1) fun ws s2 ⟨zs, H2, I2, rz, q2⟩ => ?_
  rw [hks]
  exact hc pins s2 σ H2 vs us zs ws Q I2 r1 rz q2
/-! ### == and != of two lists of ints -/
def rEqL (K : PySem.W.Frag) (neg : Bool) : R2 := fun x y H Q => ∃ (a b : Addr) (ns ms : List Int), x = .ref a ∧ y = .ref b ∧ SqL K H a (ns.map V.int) ∧ SqL K H b (ms.map V.int) ∧ Q (.bl (if neg then !decide (ns = ms) else decide (ns = ms))) H
theorem op_eqL (hu : X.A.units + 64 < cLine) : OpR X (compareOp .Eq) (rEqL X.K false) := by
  intro pins s σ H x y v u Q I rx ry h
  obtain ⟨a, b, ns, ms, rfl, rfl, ha, hb, q⟩ := h
  cases rx
  cases ry
  obtain ⟨its, hI, hl, _, _⟩ := intsOfL I ha
  obtain ⟨its2, hI2, hl2, _, _⟩ := intsOfL I hb
  exact PySem.W.eq_intsK hl hI hl2 hI2 hu ⟨.bl (decide (ns = ms)), H, I, rfl, q⟩
theorem op_neL (hu : X.A.units + 64 < cLine) : OpR X (compareOp .NotEq) (rEqL X.K true) := by
  intro pins s σ H x y v u Q I rx ry h
  obtain ⟨a, b, ns, ms, rfl, rfl, ha, hb, q⟩ := h
  cases rx
  cases ry
  obtain ⟨its, hI, hl, _, _⟩ := intsOfL I ha
  obtain ⟨its2, hI2, hl2, _, _⟩ := intsOfL I hb
  exact PySem.W.ne_intsK hl hI hl2 hI2 hu ⟨.bl (!decide (ns = ms)), H, I, rfl, q⟩
/-! ### isinstance -/
theorem call_isinst : CallR X (.builtin "isinstance") (fun xs H Q => ∃ x c t cv b, xs = [x, c] ∧ RelV c cv ∧ (∀ u, RelV c u → u = cv) ∧ TyOf X.K H x t ∧ PySem.W.kitOne X.K t cv = some b ∧ Q (.bl b) H) := by
  intro pins s σ H xs us Q I r h
  obtain ⟨x, c, t, cv, b, rfl, rc, huq, ty, e, q⟩ := h
  obtain ⟨u, v, rfl, rx, rv⟩ := vals2 r
  obtain rfl := huq v rv
  exact isinst_ok I rx ty e fun tk => ⟨.bl b, H, I.tok tk, rfl, q⟩
/-! ### a product, by the factors' bits -/
theorem op_mulB : OpR X (binaryOp .Mult) (rI IntMulOk fun i j => .int (i * j)) := opI fun _ _ _ _ _ _ _ hc q => mul_int q hc
/-! ### sum of a list of ints -/
theorem preSum_take {vs : List Value} {ns : List Int} (h : IntsAre vs ns) : ∀ n, n ≤ ns.length → preSum (fun i => ns.getD i 0) n = (ns.take n).sum
  | 0, _ => by simp [preSum]
  | n + 1, hn => by
    have h1 : n < ns.length := by omega
    have e : (ns.take (n + 1)).sum = (ns.take n).sum + ns[n] := by
      rw [List.take_add_one, List.getElem?_eq_getElem h1, List.sum_append]
      simp
    have e2 : ns.getD n 0 = ns[n] := by simp [List.getD, List.getElem?_eq_getElem h1]
    rw [preSum, preSum_take h n (by omega), e, e2]
theorem call_sum (hc : X.calm = true) : CallR X (.builtin "sum") (fun xs H Q => ∃ (p : Addr) (ns : List Int), xs = [.ref p] ∧ SqL X.K H p (ns.map V.int) ∧ Q (.int ns.sum) H) := by
  intro pins s σ H xs us Q I r h
  obtain ⟨p, ns, rfl, hq, q⟩ := h
  obtain ⟨u, rfl, rx⟩ := vals1 r
  cases rx
  obtain ⟨its, hI, hl, hn, hz⟩ := intsOfL I hq
  have hlt : p < s.heap.objs.size := by obtain ⟨_, e, _⟩ := hl; exact Heap.lt_size e
  have hh : X.A.in1.handled = none := I.ok.hd hc
  have val : ∀ i v, its.toArray[i]? = some v → ∃ t, v = Value.int (ns.getD i 0) t := fun i v e => by
    have rv := vals_ints hI
    have e' : its[i]? = some v := by simpa using e
    have hi : i < ns.length := by rw [← hn]; exact (List.getElem?_eq_some_iff.mp e').1
    obtain ⟨u, hu, ru⟩ := rv.get (i := i) (x := V.int ns[i]) (by simp [hi])
    rw [hu] at e'
    cases e'
    obtain ⟨t, rfl⟩ := ru
    exact ⟨t, by simp [List.getD, hi]⟩
  refine call_sum_walkG (wpAny_pyIter_list hl ?_)
  refine ⟨s.heap.objs.size, [s.heap.objs.size, p], [s.heap.objs.size], its.toArray.size, _, _, fun i => ns.getD i 0, rfl, Walks.list (A := X.A.in1) hh _ p (Nat.ne_of_lt hlt) its.toArray, ⟨⟨_, Heap.get?_push_size _ rfl, rfl, rfl⟩, hl.push _⟩, fun b hb => ?_, val, fun h' tk t' hk => ?_⟩
  · show b < (s.heap.push _).objs.size
    rw [Heap.size_push]
    rcases List.mem_cons.mp hb with rfl | hb
    · exact Nat.lt_succ_self _
    · rcases List.mem_cons.mp hb with rfl | hb
      · exact Nat.lt_succ_of_lt hlt
      · cases hb
  · have e : preSum (fun i => ns.getD i 0) its.toArray.size = ns.sum := by
      rw [List.size_toArray, hn, preSum_take hI _ (Nat.le_refl _), List.take_length]
    rw [e]
    refine ⟨.int ns.sum, H, I.kept (h' := h') (t' := tk) (fun b o e => hk b o (fun z => ?_) (Heap.get?_push_of_some _ e)), ⟨t', rfl⟩, q⟩
    have z' : b = s.heap.objs.size := by simpa using z
    exact absurd (Heap.lt_size e) (by rw [z']; exact Nat.lt_irrefl _)
end
end L2

set_option Elab.async false
set_option linter.all false
set_option maxRecDepth 100000
/-! Over the hand layer: list comprehensions. -/
namespace L2
open PySem PySem.Spec PyProof.Rows
/-! ### what the block closes over -/
def closL (env : Env) : List (Str × NameKind) → List (Str × Addr) → List (Str × Addr)
  | [], cs => cs
  | x :: r, cs => closL env r (if x.2 == .free then (match env.cells.lookup x.1 with | some c => (x.1, c) :: cs | none => cs) else cs)
def closC (scope : Scope) (env : Env) : List (Str × Addr) := closL env scope.names []
theorem forIn_fold {env : Env} (f : Str × NameKind → List (Str × Addr) → Sem (ForInStep (List (Str × Addr)))) : ∀ (l : List (Str × NameKind)) (cs : List (Str × Addr)),
    (∀ x ∈ l, ∀ cs, f x cs = pure (.yield (if x.2 == .free then (match env.cells.lookup x.1 with | some c => (x.1, c) :: cs | none => cs) else cs))) → forIn l cs f = pure (closL env l cs)
  | [], cs, _ => by rw [closL]; rfl
  | x :: l, cs, h => by
    rw [List.forIn_cons, h x List.mem_cons_self, pure_bind, closL]
    exact forIn_fold f l _ fun y hy => h y (List.mem_cons_of_mem _ hy)
theorem closureFor_eq {scope : Scope} {env : Env} (h : ∀ x ∈ scope.names, x.2 = .free → ∃ c, env.cells.lookup x.1 = some c) : closureFor scope env = pure (closC scope env) := by
  simp only [closureFor]
  rw [forIn_fold (env := env) _ scope.names [] (fun x hx cs => by
    obtain ⟨n, k⟩ := x
    by_cases hk : k = .free
    · obtain ⟨c, hc⟩ := h _ hx hk
      subst hk
      have hc' : env.cells.lookup n = some c := hc
      simp only [beq_self_eq_true, if_true, cellOf, hc', pure_bind]
    · have hb : (k == NameKind.free) = false := by simpa using hk
      simp only [hb, Bool.false_eq_true, if_false])]
  rfl
theorem closL_sub {env : Env} : ∀ (l : List (Str × NameKind)) (cs : List (Str × Addr)), (∀ x c, cs.lookup x = some c → env.cells.lookup x = some c) → ∀ x c, (closL env l cs).lookup x = some c → env.cells.lookup x = some c
  | [], cs, h, x, c, e => by rw [closL] at e; exact h x c e
  | y :: l, cs, h, x, c, e => by
    rw [closL] at e
    refine closL_sub l _ (fun z d q => ?_) x c e
    split at q
    · split at q
      · rename_i c' hc'
        rw [List.lookup_cons] at q
        split at q
        · rename_i hz
          have hz' : z = y.1 := by simpa using hz
          cases q
          rw [hz']
          exact hc'
        · exact h z d q
      · exact h z d q
    · exact h z d q
theorem closC_sub {scope : Scope} {env : Env} {x : Str} {c : Addr} (e : (closC scope env).lookup x = some c) : env.cells.lookup x = some c := closL_sub scope.names [] (fun x c h => by simp at h) x c e
theorem closL_has {env : Env} {x : Str} : ∀ (l : List (Str × NameKind)) (cs : List (Str × Addr)), (∃ c, env.cells.lookup x = some c) → ((x, NameKind.free) ∈ l ∨ ∃ c, cs.lookup x = some c) → ∃ c, (closL env l cs).lookup x = some c
  | [], cs, _, h => by
    rw [closL]
    rcases h with h | h
    · cases h
    · exact h
  | y :: l, cs, hc, h => by
    rw [closL]
    refine closL_has l _ hc ?_
    rcases h with h | ⟨c, h⟩
    · rcases List.mem_cons.mp h with h | h
      · right
        obtain ⟨c, hc⟩ := hc
        subst h
        have : env.cells.lookup x = some c := hc
        simp only [beq_self_eq_true, if_true, this]
        exact ⟨c, by simp⟩
      · exact .inl h
    · right
      split
      · split
        · rw [List.lookup_cons]
          split
          · exact ⟨_, rfl⟩
          · exact ⟨c, h⟩
        · exact ⟨c, h⟩
      · exact ⟨c, h⟩
theorem closC_has {scope : Scope} {env : Env} {x : Str} (hc : ∃ c, env.cells.lookup x = some c) (h : (x, NameKind.free) ∈ scope.names) : ∃ c, (closC scope env).lookup x = some c := closL_has scope.names [] hc (.inl h)
theorem relabel_free {scope : Scope} {env : Env} {x : Str} (hcell : ∀ y ∈ scope.names, y.2 ≠ .cell) (h : (relabel scope env).names.lookup x = some .cell ∨ (relabel scope env).names.lookup x = some .free) : (x, NameKind.free) ∈ scope.names := by
  have go : ∀ k, (k = NameKind.cell ∨ k = .free) → (relabel scope env).names.lookup x = some k → (x, NameKind.free) ∈ scope.names := by
    intro k hk e
    have m := PySem.mem_of_lookup e
    obtain ⟨⟨n, k0⟩, hy, e2⟩ := List.mem_map.mp m
    dsimp only at e2
    split at e2
    · rename_i hb
      have h1 : (k0 == NameKind.free) = true := by
        rw [Bool.and_eq_true, Bool.and_eq_true] at hb
        exact hb.1.1
      have h2 : k0 = .free := by simpa using h1
      cases e2
      rw [← h2]
      exact hy
    · cases e2
      rcases hk with rfl | rfl
      · exact absurd rfl (hcell _ hy)
      · exact hy
  rcases h with h | h
  · exact go _ (.inl rfl) h
  · exact go _ (.inr rfl) h

theorem lookup_relabel_free {env : Env} : ∀ {names : List (Str × NameKind)} {x : Str}, names.lookup x = some .free →
    (names.map fun (n, k) => if (k == NameKind.free && env.scope.kind == .function && env.kindOf n == some .cell) then (n, NameKind.cell) else (n, k)).lookup x = some .cell ∨
    (names.map fun (n, k) => if (k == NameKind.free && env.scope.kind == .function && env.kindOf n == some .cell) then (n, NameKind.cell) else (n, k)).lookup x = some .free
  | [], _, h => by simp at h
  | (n, k) :: r, x, h => by
    have ih := @lookup_relabel_free env r x
    rw [List.map_cons]
    cases hx : x == n with
    | true =>
      simp only [List.lookup_cons, hx] at h
      cases h
      by_cases hc : (NameKind.free == NameKind.free && env.scope.kind == .function && env.kindOf n == some .cell) = true
      · left
        show List.lookup x ((if (NameKind.free == NameKind.free && env.scope.kind == .function && env.kindOf n == some .cell) = true then (n, NameKind.cell) else (n, NameKind.free)) :: _) = _
        rw [if_pos hc]
        simp only [List.lookup_cons, hx]
      · right
        show List.lookup x ((if (NameKind.free == NameKind.free && env.scope.kind == .function && env.kindOf n == some .cell) = true then (n, NameKind.cell) else (n, NameKind.free)) :: _) = _
        rw [if_neg hc]
        simp only [List.lookup_cons, hx]
    | false =>
      simp only [List.lookup_cons, hx] at h
      show List.lookup x ((if (k == NameKind.free && env.scope.kind == .function && env.kindOf n == some .cell) = true then (n, NameKind.cell) else (n, k)) :: _) = _ ∨ List.lookup x ((if (k == NameKind.free && env.scope.kind == .function && env.kindOf n == some .cell) = true then (n, NameKind.cell) else (n, k)) :: _) = _
      by_cases hc : (k == NameKind.free && env.scope.kind == .function && env.kindOf n == some .cell) = true
      · rw [if_pos hc]
        simp only [List.lookup_cons, hx]
        exact ih h
      · rw [if_neg hc]
        simp only [List.lookup_cons, hx]
        exact ih h

/-! ### the block's context -/
def cxC (X : Cx) (N' : List Str) (scope : Scope) (C : Addr) (s : Shared) (H : Hp) (fp : List Addr) : Cx where
  prog := X.prog
  w := X.w
  K := X.K
  mg := X.mg
  base := X.base
  A := X.A
  N := N'
  s₀ := s
  H₀ := H
  env := compEnvC scope (closC scope X.env) C X.env
  outer := X.stack
  stack := X.stack
  ex := fp
  fn := fun _ => false
  calm := X.calm
  pn := []
  xe := fun _ _ => False
/-- the names' values at the block's entry: fr tells, for each name of the block, where it stands among the names around it -/
def stC (fr : List (Option Nat)) (σ : St) : St := fr.map fun o => o.bind fun j => (σ[j]?).join
def frOk (N N' : List Str) (sc scope : Scope) (fr : List (Option Nat)) : Bool :=
  fr.length == N'.length && (List.range fr.length).all fun i => match fr[i]? with
    | some (some j) => (match N'[i]?, N[j]? with
      | some x, some y => x == y && sc.names.lookup x == some .cell && scope.names.lookup x == some .free
      | _, _ => false)
    | _ => true
structure CompOk (X : Cx) (N' : List Str) (scope : Scope) (fr : List (Option Nat)) : Prop where
  cell : ∀ y ∈ scope.names, y.2 ≠ .cell
  kind : scope.kind = .function
  names : ∀ x ∈ scope.names, x.2 = .local → scope.names.lookup x.1 = some .local
  frees : ∀ x ∈ scope.names, x.2 = .free → X.env.kindOf x.1 = some .cell
  fr : frOk X.N N' X.env.scope scope fr = true
  calm : X.calm = true
def compChk (N N' : List Str) (sc scope : Scope) (fr : List (Option Nat)) : Bool :=
  scope.names.all (fun y => y.2 != .cell) && (scope.kind == .function) && scope.names.all (fun x => x.2 != .local || scope.names.lookup x.1 == some .local) && scope.names.all (fun x => x.2 != .free || sc.names.lookup x.1 == some .cell) && frOk N N' sc scope fr
theorem CompOk.of {X : Cx} {N' : List Str} {scope : Scope} {fr : List (Option Nat)} (h : compChk X.N N' X.env.scope scope fr = true) (hc : X.calm = true) : CompOk X N' scope fr := by
  unfold compChk at h
  rw [Bool.and_eq_true, Bool.and_eq_true, Bool.and_eq_true, Bool.and_eq_true] at h
  obtain ⟨⟨⟨⟨h1, h2⟩, h3⟩, h4⟩, h5⟩ := h
  refine ⟨fun y hy => ?_, by simpa using h2, fun x hx hk => ?_, fun x hx hk => ?_, h5, hc⟩
  · simpa using List.all_eq_true.mp h1 y hy
  · have := List.all_eq_true.mp h3 x hx
    simpa [hk] using this
  · have := List.all_eq_true.mp h4 x hx
    have e : X.env.scope.names.lookup x.1 = some .cell := by simpa [hk] using this
    exact e
theorem frOk_len {N N' : List Str} {sc scope : Scope} {fr : List (Option Nat)} (h : frOk N N' sc scope fr = true) : fr.length = N'.length := by
  unfold frOk at h
  rw [Bool.and_eq_true] at h
  simpa using h.1
theorem frOk_get {N N' : List Str} {sc scope : Scope} {fr : List (Option Nat)} {i j : Nat} {x : Str} (h : frOk N N' sc scope fr = true) (hx : N'[i]? = some x) (hj : fr[i]? = some (some j)) :
    N[j]? = some x ∧ sc.names.lookup x = some .cell ∧ scope.names.lookup x = some .free := by
  unfold frOk at h
  rw [Bool.and_eq_true] at h
  have hi : i < fr.length := (List.getElem?_eq_some_iff.mp hj).1
  have h2 := List.all_eq_true.mp h.2 i (List.mem_range.mpr hi)
  rw [hj, hx] at h2
  dsimp only at h2
  cases e : N[j]? with
  | none => rw [e] at h2; cases h2
  | some y =>
    rw [e] at h2
    dsimp only at h2
    rw [Bool.and_eq_true, Bool.and_eq_true] at h2
    obtain ⟨⟨h3, h4⟩, h5⟩ := h2
    have h3' : x = y := by simpa using h3
    exact ⟨by rw [h3'], by simpa using h4, by simpa using h5⟩
section
variable {X : Cx} {pins : List (Addr × Obj)} {σ : St} {H H' : Hp} {s : Shared} {N' : List Str} {scope : Scope} {fr : List (Option Nat)} {fp : List Addr} {h₁ h' : Heap} {m : Str → Option Value} {tk : Nat}
theorem CompOk.cells (c : CompOk X N' scope fr) (I : Inv X pins σ H s) : ∀ x ∈ scope.names, x.2 = .free → ∃ a, X.env.cells.lookup x.1 = some a := fun x hx hk => I.ok.has x.1 (.inl (c.frees x hx hk))
/-- into the block -/
theorem comp_in (c : CompOk X N' scope fr) (I : Inv X pins σ H s) (hf : ∀ b ∈ fp, FpOk X pins H b ∧ b < s.heap.objs.size) (hns : h₁.Ns s.heap.objs.size m) (hsb : ∀ b o, s.heap.get? b = some o → h₁.get? b = some o) :
    Inv (cxC X N' scope s.heap.objs.size s H fp) [] (stC fr σ) H { s with heap := h₁, toks := tk } := by
  have cl : ∀ x a, (closC scope X.env).lookup x = some a → X.env.cells.lookup x = some a := fun x a e => closC_sub e
  refine ⟨⟨I.ok.mod, c.kind, I.ok.glob, I.ok.blt, Nat.le_refl _, fun x y a e1 e2 => I.ok.inj x y a (cl x a e1) (cl y a e2), fun x hx => ?_, fun x a z => (by cases z), I.ok.hd, I.ok.frames, .inl rfl, fun b hb => ?_, I.bs, Nat.le_trans I.ok.bsz I.sz, fun b o e hb => ?_, fun b hb hs => ?_, I.stack, I.stkFree⟩,
    rfl, I.bare, Un.kept hsb, ⟨m, hns, fun i x v e1 e2 e3 => ?_⟩, fun x a e => ?_, I.fresh, fun x a e => I.freeC x a (cl x a e), fun p hp => absurd (show p ∈ ([] : List (Addr × Obj)) from hp) (by simp), I.hok.kept hsb, ?_⟩
  · have hm := relabel_free c.cell hx
    exact closC_has (c.cells I _ hm rfl) hm
  · obtain ⟨⟨_, _, _, _, f4, _⟩, hlt⟩ := hf b hb
    exact ⟨Nat.ne_of_lt hlt, fun x a e => f4 x a (cl x a e)⟩
  · obtain ⟨⟨_, _, _, f3, _, _⟩, hlt⟩ := hf b hb
    rcases f3 with z | z
    · exact I.ok.noex b o e z
    · exact absurd (Nat.lt_of_lt_of_le (Heap.lt_size (I.ok.bs b o e).1) z) (Nat.lt_irrefl _)
  · obtain ⟨⟨_, f1, f2, _, _, _⟩, hlt⟩ := hf b hb
    rcases List.mem_cons.mp (I.stkSub b hs) with z | z
    · exact f1 z
    · exact f2 z
  · obtain ⟨m0, hn0, hl0⟩ := I.loc
    have e2' : (fr.map fun o => o.bind fun j => (σ[j]?).join)[i]? = some (some v) := e2
    rw [List.getElem?_map] at e2'
    cases ef : fr[i]? with
    | none => rw [ef] at e2'; cases e2'
    | some o =>
      rw [ef] at e2'
      cases o with
      | none => cases e2'
      | some j =>
        obtain ⟨hj, hk, hfree⟩ := frOk_get c.fr e1 ef
        have hmem := PySem.mem_of_lookup hfree
        have e4 : (σ[j]?).join = some v := Option.some.inj e2'
        have e5 : σ[j]? = some (some v) := by
          cases es : σ[j]? with
          | none => rw [es] at e4; cases e4
          | some w => rw [es] at e4; have : w = some v := e4; rw [this]
        obtain ⟨u, ru, lk⟩ := hl0 j x v hj e5 (.inr (.inl hk))
        refine ⟨u, ru, .inr ?_⟩
        rcases lk with ⟨k, _⟩ | ⟨_, a, ea, za⟩
        · have hk' : X.env.kindOf x = some .cell := hk
          rw [hk'] at k
          cases k
        · obtain ⟨a', ea'⟩ := closC_has (env := X.env) ⟨a, ea⟩ hmem
          have : a' = a := Option.some.inj ((cl x a' ea').symm.trans ea)
          subst this
          refine ⟨lookup_relabel_free hfree, a', ea', ?_⟩
          obtain ⟨o, ho, hd⟩ := za
          exact ⟨o, hsb _ o ho, hd⟩
  · obtain ⟨v, o, ho, hd⟩ := I.cell x a (cl x a e)
    exact ⟨v, o, hsb _ o ho, hd⟩
  · show (stC fr σ).length = N'.length
    unfold stC
    rw [List.length_map]
    exact frOk_len c.fr
/-- out of the block -/
theorem comp_out (I : Inv X pins σ H s) (hf : ∀ b ∈ fp, FpOk X pins H b) {s' : Shared} {σ' : St} {C : Addr} (I' : Inv (cxC X N' scope C s H fp) [] σ' H' s') : Inv X pins σ H' s' :=
  I.call' (ch := fp) I'.os I'.base I'.hok I'.bare fun b hb => by
    obtain ⟨_, f1, _, f3, f4, f5⟩ := hf b hb
    exact ⟨f3, f1, f4, f5⟩
/-- the block's own dict lets its names go -/
theorem comp_gone (I : Inv X pins σ H s) {s' : Shared} {σ2 : St} (I2 : Inv X pins σ2 H' s') (hn : H' s.heap.objs.size = none) (hs : Heap.SameBut s.heap.objs.size s'.heap h') : Inv X pins σ2 H' { s' with heap := h' } := by
  obtain ⟨f0, f1, _, f3, f4, f5⟩ := I.fpOk (b := s.heap.objs.size) (Nat.le_refl _) hn
  exact I2.turned (t' := s'.toks) (fun b o hb e => (hs.2 b hb).trans e) f0 f1 f3 f4 f5
end
/-! ### the tests of a clause -/
def PF (X : Cx) (ifs : List Expr) (t : TT) : Prop :=
  ∀ (pins : List (Addr × Obj)) (s : Shared) (σ : St) (H : Hp) (Q : Bool → Hp → Prop), Inv X pins σ H s → t σ H Q →
    wpAny (model X.prog X.w) X.A (forIn ifs true fun c r => if r = true then do let ok ← isTrue c X.env (eval c X.env); pure (ForInStep.yield ok) else pure (ForInStep.yield r)) (TP X pins σ Q) X.xe s
def tTrue : TT := fun _ H Q => Q true H
theorem pf_nil {X : Cx} : PF X [] tTrue := fun _ _ _ H _ I h => wpAny_tests_nil ⟨H, I, h⟩
theorem pf_one {X : Cx} {c : Expr} {t : TT} (h : PT X c t) : PF X [c] t := fun pins s σ H Q I hq => wpAny_tests_one (h pins s σ H Q I hq)
/-! ### the loop -/
section
variable {prog : Program} {w : World} {A : Around} {R : Result → Shared → Prop} {s : Shared}
theorem codeAny_compLoop_go {elt target iter : Expr} {ifs : List Expr} {scope : Scope} {pos : Pos} {it acc : Value} {env : Env} (I : Nat → Shared → Prop)
    (turn : ∀ n s, I n s → wpAny (model prog w) A (pyNext it) (fun r s₁ => match r with
      | none => R (.ok .next) s₁
      | some v => wpAny (model prog w) A (letOwnedTupleGo target it v) (fun _ s₁' => wpAny (model prog w) A (assign target env v) (fun _ s₂ =>
          wpAny (model prog w) A (forIn ifs true fun c r => if r = true then do let ok ← isTrue c env (eval c env); pure (ForInStep.yield ok) else pure (ForInStep.yield r)) (fun ok s₃ =>
            if ok = true then wpAny (model prog w) A (eval elt env) (fun x s₄ =>
              wpAny (model prog w) A (call (.builtin "list.append") [acc, x]) (fun _ s₅ => ∃ m, m < n ∧ I m s₅) (fun _ _ => False) s₄) (fun _ _ => False) s₃
            else ∃ m, m < n ∧ I m s₃) (fun _ _ => False) s₂) (fun _ _ => False) s₁') (fun _ _ => False) s₁) (fun _ _ => False) s)
    (n : Nat) (h : I n s) :
    codeAny (model prog w) A (.compLoop (.ListComp elt [⟨target, iter, ifs, 0⟩] scope pos) 0 it acc env) R s := by
  refine codeAny_loop rfl I (fun n s hI => ?_) n h
  show wpAny _ A ((compTurn (.ListComp elt [⟨target, iter, ifs, 0⟩] scope pos) 0 it acc env).onRaise (fun x => do noteFrame x env; theTreesLotGoes x)) _ _ s
  refine wpAny_noted ?_
  rw [compTurn_list]
  refine wpAny_bind (wpAny_standAt (wpAny_bind (wpAny_mono (turn n s hI) (fun r s₁ h₁ => ?_) fun _ _ h' => h'.elim)))
  cases r with
  | none => exact wpAny_pure h₁
  | some v =>
    refine wpAny_bind (wpAny_mono h₁ (fun _ s₁' h₁' => ?_) fun _ _ h' => h'.elim)
    refine wpAny_bind (wpAny_mono h₁' (fun _ s₂ h₂ => wpAny_bind (wpAny_mono h₂ (fun ok s₃ h₃ => ?_) fun _ _ h' => h'.elim)) fun _ _ h' => h'.elim)
    cases ok with
    | false => exact wpAny_pure ⟨rfl, h₃⟩
    | true =>
      exact wpAny_bind (wpAny_bind (wpAny_mono h₃ (fun x s₄ h₄ => wpAny_bind (wpAny_mono h₄ (fun _ s₅ h₅ => wpAny_pure (wpAny_pure ⟨rfl, h₅⟩)) fun _ _ h' => h'.elim)) fun _ _ h' => h'.elim))
end
/-! ### the reading -/
def CompW (J : It) (g : TG) (tc : TT) (te : TE) (l : Addr) (D : Addr → Hp → Prop) (σ : St) (H : Hp) : Prop :=
  ∃ W : Nat → Nat → St → Hp → Prop, (∃ m, W 0 m σ H) ∧ ∀ i m σ' H', W i m σ' H' →
    (J.stop i H' ∧ D l H') ∨ (J.go i H' ∧ ∃ N : St → Hp → Prop, (∀ σ2 H2, N σ2 H2 → ∃ m', m' < m ∧ W (i + 1) m' σ2 H2) ∧ ∀ x H2, J.yld i H' x H2 → g x σ' H2 fun σ3 H3 => tc σ3 H3 fun b H4 =>
      if b = true then te σ3 H4 fun y H5 => ∃ ys, H5 l = some (.lst ys) ∧ ys.length < sizeLine ∧ N σ3 (upd H5 l (.lst (ys ++ [y]))) else N σ3 H4)
def tCompL (fr : List (Option Nat)) (wi : TI) (g : TG) (tc : TT) (te : TE) (σ : St) (H : Hp) (D : Addr → Hp → Prop) : Prop := wi σ H fun J H1 => ∀ l, H1 l = none → CompW J g tc te l D (stC fr σ) (upd H1 l (.lst []))
section
variable {X : Cx} {N' : List Str} {scope : Scope} {fr : List (Option Nat)} {target iter elt : Expr} {ifs : List Expr} {wi : TI} {g : TG} {tc : TT} {te : TE} {pos : Pos}
theorem comp_block {pins : List (Addr × Obj)} {σ : St} {H : Hp} {s : Shared} {use : Option (Value → Sem Unit)} {Q : Value → Shared → Prop} {D : Addr → Hp → Prop} (c : CompOk X N' scope fr) (hi : PI X target iter wi)
    (hg : ∀ C s H fp, PG (cxC X N' scope C s H fp) target g) (hc : ∀ C s H fp, PF (cxC X N' scope C s H fp) ifs tc) (he : ∀ C s H fp, PE (cxC X N' scope C s H fp) elt te) (I : Inv X pins σ H s) (h : tCompL fr wi g tc te σ H D)
    (hD : ∀ (l C : Addr) (H' : Hp) (s' : Shared) (m : Str → Option Value), Inv X pins σ H' s' → D l H' → s'.heap.Ns C m → H' C = none → C ≠ X.env.locals → (∀ x c, X.env.cells.lookup x = some c → c ≠ C) →
      (∀ (σ2 : St) (s2 : Shared) (h' : Heap), Inv X pins σ2 H' s2 → Heap.SameBut C s2.heap h' → Inv X pins σ2 H' { s2 with heap := h' }) → compPost (model X.prog X.w) X.A X.xe use Q (.ref l) C (.ok .next) s') :
    wpAny (model X.prog X.w) X.A (eval iter X.env) (fun x s₁ => wpAny (model X.prog X.w) X.A (pyIter x) (fun it s₂ => wpAny (model X.prog X.w) X.A (newList []) (fun acc s₃ =>
      wpAny (model X.prog X.w) X.A (newFunctionEnv scope X.env.globals (closC scope X.env) [] X.env.qual none .none (some X.env)) (fun cenv s₄ =>
        codeAny (model X.prog X.w) X.A (.compStart (.ListComp elt [⟨target, iter, ifs, 0⟩] scope pos) 0 it acc { cenv with scope := relabel scope X.env }) (compPost (model X.prog X.w) X.A X.xe use Q acc cenv.locals) s₄) X.xe s₃) X.xe s₂) X.xe s₁) X.xe s := by
  refine thn (hi pins s σ H _ I h) fun v s1 h1 => thn h1 fun itv s2 h2 => ?_
  obtain ⟨it, fp, tn, J, H2, rfl, I2, T, st2, f2, q⟩ := h2
  refine wpAny_newObj_type (wpAny_newFunctionEnv c.cell (by intro y hy; simp at hy) (fun h₁ hns hsb => ?_) c.kind)
  have I3 : Inv X pins σ (upd H2 s2.heap.objs.size (.lst [])) { s2 with heap := s2.heap.push { cls := .type "list", data := .seq ([] : List Value).toArray } } := I2.lnew (its := []) (t' := s2.toks) .nil (Nat.zero_le _)
  have hlt : ∀ b ∈ fp, b < s2.heap.objs.size := fun b hb => by
    obtain ⟨o, e, _⟩ := T.obj _ _ st2 b hb
    exact Heap.lt_size e
  have f3 : ∀ b ∈ fp, FpOk X pins (upd H2 s2.heap.objs.size (.lst [])) b := fun b hb => by
    obtain ⟨f0, fr⟩ := f2 b hb
    exact ⟨by rw [upd_ne (Nat.ne_of_lt (hlt b hb))]; exact f0, fr⟩
  obtain ⟨W, ⟨m0, w0⟩, turn⟩ := q s2.heap.objs.size I2.fresh
  dsimp only at hns hsb ⊢
  generalize hs3 : ({ s2 with heap := s2.heap.push { cls := .type "list", data := .seq ([] : List Value).toArray } } : Shared) = s3 at *
  have ehp : s2.heap.push { cls := .type "list", data := .seq ([] : List Value).toArray } = s3.heap := by rw [← hs3]
  have hsz : s3.heap.objs.size = s2.heap.objs.size + 1 := by rw [← ehp, Heap.size_push]
  rw [ehp] at hns hsb ⊢
  have hsb' : ∀ b o, s3.heap.get? b = some o → h₁.get? b = some o := fun b o e => (hsb.2 b (Nat.ne_of_lt (Heap.lt_size e))).trans (Heap.get?_push_of_some _ e)
  have st3 : tn 0 h₁ := T.keep _ _ _ st2 fun b hb o e => hsb' b o (by rw [← ehp]; exact Heap.get?_push_of_some _ e)
  have loop : ∀ s4 : Shared, s4 = { s3 with heap := h₁, toks := s2.toks + ([] : List (Str × Value)).length } →
      codeAny (model X.prog X.w) X.A (.compLoop (.ListComp elt [⟨target, iter, ifs, 0⟩] scope pos) 0 (.ref it) (.ref s2.heap.objs.size) (cxC X N' scope s3.heap.objs.size s3 (upd H2 s2.heap.objs.size (.lst [])) fp).env) (compPost (model X.prog X.w) X.A X.xe use Q (.ref s2.heap.objs.size) s3.heap.objs.size) s4 := by
    rintro s4 rfl
    have I4 := comp_in (tk := s2.toks + ([] : List (Str × Value)).length) c I3 (fun b hb => ⟨f3 b hb, by rw [hsz]; exact Nat.lt_succ_of_lt (hlt b hb)⟩) hns hsb'
    have stat : ∀ {H' : Hp}, (∀ b ∈ fp, H' b = none) → ∀ b ∈ fp, FpOk (cxC X N' scope s3.heap.objs.size s3 (upd H2 s2.heap.objs.size (.lst [])) fp) [] H' b := fun hn b hb => by
      obtain ⟨_, f1, f2', f3', f4, _⟩ := f3 b hb
      refine ⟨hn b hb, Nat.ne_of_lt (by show b < s3.heap.objs.size; rw [hsz]; exact Nat.lt_succ_of_lt (hlt b hb)), fun hs => ?_, .inl hb, fun x a e => f4 x a (closC_sub e), fun p hp => absurd (show p ∈ ([] : List (Addr × Obj)) from hp) (by simp)⟩
      rcases List.mem_cons.mp (I3.stkSub b hs) with z | z
      · exact f1 z
      · exact f2' z
    refine codeAny_compLoop_go (fun n s' => ∃ i σ' H', Inv (cxC X N' scope s3.heap.objs.size s3 (upd H2 s2.heap.objs.size (.lst [])) fp) [] σ' H' s' ∧ tn i s'.heap ∧ (∀ b ∈ fp, H' b = none) ∧ W i n σ' H') ?_ m0 ⟨0, _, _, I4, st3, fun b hb => (f3 b hb).1, w0⟩
    rintro n s5 ⟨i, σ5, H5, I5, st5, fr5, w5⟩
    rcases turn i n σ5 H5 w5 with ⟨stop, qn⟩ | ⟨go, N, hN, step⟩
    · refine thn (T.done (cxC X N' scope s3.heap.objs.size s3 (upd H2 s2.heap.objs.size (.lst [])) fp) rfl rfl rfl c.calm i [] s5 σ5 H5 _ I5 (stat fr5) st5 stop) fun r s6 ⟨hr, I6⟩ => ?_
      subst hr
      obtain ⟨m, hn, _⟩ := I6.loc
      have F := I3.fpOk (b := s3.heap.objs.size) (H' := H5) (Nat.le_refl _) I6.free
      obtain ⟨g0, g1, _, g3, g4, g5⟩ := F
      exact hD _ _ H5 s6 m (comp_out I3 f3 I6) qn hn I6.free g1 g4 fun σ2 s2' h' I2' hs' => comp_gone I3 I2' I6.free hs'
    · refine thn (T.item (cxC X N' scope s3.heap.objs.size s3 (upd H2 s2.heap.objs.size (.lst [])) fp) rfl rfl rfl c.calm i [] s5 σ5 H5 _ I5 (stat fr5) st5 go) fun r s6 ⟨u, hr, h6⟩ => ?_
      subst hr
      refine thn h6 fun _ s7 ⟨x, H7, I7, r7, y7, st7, fr7⟩ => ?_
      have I7' := I7.pinned (stat fr7) (T.obj _ _ st7)
      refine thn (hg _ _ _ _ _ s7 σ5 H7 x u _ I7' r7 (step x H7 y7)) fun _ s8 ⟨σ8, H8, I8, q8⟩ => ?_
      have again : ∀ {s9 : Shared} {σ9 : St} {H9 : Hp}, Inv (cxC X N' scope s3.heap.objs.size s3 (upd H2 s2.heap.objs.size (.lst [])) fp) ([] ++ pinsAt fp s7.heap) σ9 H9 s9 → N σ9 H9 → ∃ m, m < n ∧ ∃ i σ' H', Inv (cxC X N' scope s3.heap.objs.size s3 (upd H2 s2.heap.objs.size (.lst [])) fp) [] σ' H' s9 ∧ tn i s9.heap ∧ (∀ b ∈ fp, H' b = none) ∧ W i m σ' H' := fun {s9 σ9 H9} I9 n9 => by
        obtain ⟨m', hm, w9⟩ := hN σ9 H9 n9
        refine ⟨m', hm, i + 1, σ9, H9, I9.unpinned, T.keep _ _ _ st7 fun b hb o e => (I9.pin (b, o) (List.mem_append_right _ (List.mem_append_right _ (mem_pinsAt hb e)))).1, fun b hb => ?_, w9⟩
        obtain ⟨o, e, d⟩ := T.obj _ _ st7 b hb
        exact (I9.pin (b, o) (List.mem_append_right _ (List.mem_append_right _ (mem_pinsAt hb e)))).2.1
      refine thn (hc _ _ _ _ _ s8 σ8 H8 _ I8 q8) fun ok s9 ⟨H9, I9, q9⟩ => ?_
      cases ok with
      | false => exact again I9 q9
      | true =>
        refine thn (he _ _ _ _ _ s9 σ8 H9 _ I9 q9) fun y s10 ⟨yv, H10, I10, r10, ys, e10, z10, n10⟩ => ?_
        refine thn (mt_append _ s10 σ8 H10 (.ref s2.heap.objs.size) [yv] (.ref s2.heap.objs.size) [y] (fun _ H' => N σ8 H') I10 rfl (.cons r10 .nil) ⟨_, ys, yv, rfl, rfl, e10, z10, n10⟩) fun _ s11 ⟨_, H11, I11, _, n11⟩ => ?_
        exact again I11 n11
  exact codeAny_compStart_list (loop _ (by rw [← hs3])) (T.self _ 0 _ _ _ st3 (loop _ (by rw [← hs3])))
/-- [elt for target in iter if ..] -/
def tComp (fr : List (Option Nat)) (wi : TI) (g : TG) (tc : TT) (te : TE) : TE := fun σ H Q => tCompL fr wi g tc te σ H fun l H' => Q (.ref l) H'
theorem pe_comp (c : CompOk X N' scope fr) (hi : PI X target iter wi) (hg : ∀ C s H fp, PG (cxC X N' scope C s H fp) target g) (hc : ∀ C s H fp, PF (cxC X N' scope C s H fp) ifs tc) (he : ∀ C s H fp, PE (cxC X N' scope C s H fp) elt te)
    (hs : ∀ x, foldedSetIterable iter X.env x = pure x := by intro _; rfl) : PE X (.ListComp elt [⟨target, iter, ifs, 0⟩] scope pos) (tComp fr wi g tc te) := by
  intro pins s σ H Q I h
  rw [eval_ListComp]
  refine wpAny_comprehension_free (use := none) rfl hs (closureFor_eq (c.cells I)) c.kind c.names ?_
  refine comp_block (use := none) c hi hg hc he I h fun l C H' s' m I' q hn hC _ _ gone => ?_
  exact ⟨m, hn, fun h' hs' => ⟨.ref l, H', gone σ s' h' I' hs', rfl, q⟩⟩
/-- x = [elt for target in iter if ..], x a plain local -/
def tSetComp (i : Nat) (fr : List (Option Nat)) (wi : TI) (g : TG) (tc : TT) (te : TE) : TS := fun D σ H => tCompL fr wi g tc te σ H fun l H' => D.nx (σ.set i (some (.ref l))) H'
theorem ps_setComp {i : Nat} {x : Str} {px : Pos} {spos : Pos} (hN : X.N.Nodup) (hix : X.N[i]? = some x) (hx : X.env.scope.names.lookup x = some .local) (c : CompOk X N' scope fr) (hi : PI X target iter wi) (hg : ∀ C s H fp, PG (cxC X N' scope C s H fp) target g) (hc : ∀ C s H fp, PF (cxC X N' scope C s H fp) ifs tc) (he : ∀ C s H fp, PE (cxC X N' scope C s H fp) elt te)
    (hsw : swapsWith (.ListComp elt [⟨target, iter, ifs, 0⟩] scope pos) (some (.Name x px)) spos.line X.env = pure true := by rfl)
    (hs : ∀ x, foldedSetIterable iter X.env x = pure x := by intro _; rfl) : PS X (.Assign [.Name x px] (.ListComp elt [⟨target, iter, ifs, 0⟩] scope pos) spos) (tSetComp i fr wi g tc te) := by
  intro pins s σ H D I h
  rw [exec_Assign_Name_used _ _ _ _ hsw]
  refine wpAny_bind (wpAny_standAt (wpAny_bind ?_))
  show wpAny _ X.A (do let _ ← comprehension (.ListComp elt [⟨target, iter, ifs, 0⟩] scope pos) scope X.env _ (newList []) false (eval iter X.env) (some (assign (.Name x px) X.env))) _ _ s
  refine wpAny_bind (wpAny_mono (wpAny_comprehension_free (use := some (assign (.Name x px) X.env)) (Q := fun _ s' => SP X pins D .next s') rfl hs (closureFor_eq (c.cells I)) c.kind c.names ?_) (fun _ s' hq => wpAny_pure (wpAny_pure hq)) fun _ _ e => e)
  refine comp_block (use := some (assign (.Name x px) X.env)) c hi hg hc he I h fun l C H' s' m I' q hn hC hL hcell gone => ?_
  show wpAny _ X.A (assign (.Name x px) X.env (.ref l)) _ _ _
  refine wpAny_assign_Name (store_ok2 I' hN hix (.inl hx) (v := .ref l) rfl (fun s2 I2 ⟨a, sb, ha⟩ => ?_) (.inr hx))
  have hne : C ≠ a := by
    rcases ha with rfl | ha
    · exact hL
    · exact Ne.symm (hcell x a ha)
  exact ⟨m, hn.sameBut sb hne, fun h' hs' => ⟨_, H', gone _ s2 h' I2 hs', q⟩⟩
end
/-! ### the forms one uses -/
theorem comp_list {K : PySem.W.Frag} {a l : Addr} {xs : List V} {g : TG} {tc : TT} {te : TE} {D : Addr → Hp → Prop} {σ : St} {H : Hp} (Pv : Nat → St → Hp → Prop) (h0 : Pv 0 σ H) (hl : ∀ i σ H, i ≤ xs.length → Pv i σ H → SqL K H a xs)
    (hs : ∀ i x σ H, xs[i]? = some x → Pv i σ H → g x σ H fun σ3 H3 => tc σ3 H3 fun b H4 => if b = true then te σ3 H4 fun y H5 => ∃ ys, H5 l = some (.lst ys) ∧ ys.length < sizeLine ∧ Pv (i + 1) σ3 (upd H5 l (.lst (ys ++ [y]))) else Pv (i + 1) σ3 H4)
    (hd : ∀ σ H, Pv xs.length σ H → D l H) :
    CompW (Itl K a) g tc te l D σ H := by
  refine ⟨fun i m σ H => m = xs.length - i ∧ i ≤ xs.length ∧ Pv i σ H, ⟨xs.length, by simp, Nat.zero_le _, h0⟩, ?_⟩
  rintro i m σ H ⟨rfl, hi, p⟩
  have q := hl i σ H hi p
  by_cases hlt : i < xs.length
  · refine .inr ⟨⟨xs, xs[i], q, by simp [hlt]⟩, Pv (i + 1), fun σ' H' p' => ⟨xs.length - (i + 1), by omega, rfl, hlt, p'⟩, fun x H' y => ?_⟩
    obtain ⟨e, y⟩ := y
    subst e
    exact hs i x σ _ (y xs q) p
  · have e : i = xs.length := by omega
    subst e
    exact .inl ⟨⟨xs, q, Nat.le_refl _⟩, hd σ H p⟩
theorem comp_range {lo : Int} {n : Nat} {l : Addr} {g : TG} {tc : TT} {te : TE} {D : Addr → Hp → Prop} {σ : St} {H : Hp} (Pv : Nat → St → Hp → Prop) (h0 : Pv 0 σ H)
    (hs : ∀ i σ H, i < n → Pv i σ H → g (.int (lo + i)) σ H fun σ3 H3 => tc σ3 H3 fun b H4 => if b = true then te σ3 H4 fun y H5 => ∃ ys, H5 l = some (.lst ys) ∧ ys.length < sizeLine ∧ Pv (i + 1) σ3 (upd H5 l (.lst (ys ++ [y]))) else Pv (i + 1) σ3 H4)
    (hd : ∀ σ H, Pv n σ H → D l H) :
    CompW (Itr lo n) g tc te l D σ H := by
  refine ⟨fun i m σ H => m = n - i ∧ i ≤ n ∧ Pv i σ H, ⟨n, by simp, Nat.zero_le _, h0⟩, ?_⟩
  rintro i m σ H ⟨rfl, hi, p⟩
  by_cases hlt : i < n
  · refine .inr ⟨hlt, Pv (i + 1), fun σ' H' p' => ⟨n - (i + 1), by omega, rfl, hlt, p'⟩, fun x H' y => ?_⟩
    obtain ⟨e, y⟩ := y
    subst e y
    exact hs i σ _ hlt p
  · have e : i = n := by omega
    subst e
    exact .inl ⟨Nat.le_refl _, hd σ H p⟩
end L2

set_option Elab.async false
set_option linter.all false
set_option maxRecDepth 100000
/-! Over the hand layer: the script's bits. -/
namespace L2
open PySem PySem.Spec PyProof.Rows
open PySem.W in
theorem bits_script {ns : List Int} (h : WData.layableAll [WData.list (ns.map WData.int)] = true) : ∀ n ∈ ns, Builtin.Int.intBits n ≤ 1048576 := by
  intro n hn
  have h1 := layableW_arg h _ (List.mem_singleton.mpr rfl)
  have h2 := layableW_item h1 (WData.int n) (List.mem_map.mpr ⟨n, hn, rfl⟩)
  exact (layableW_iff.mp h2).2.2
/-- the layer's own walk_of, with the bits of the script's ints -/
theorem walk_ofB {l : PySem.W.OpenLaw} {n k : Nat} {q : Program} {loose : List Str} {XP : (Str → Option Value) → Heap → Prop} {YP : World → Heap → Prop} {d : DefRec} {K : Params → PySem.W.Frag} {CX : World → CXT} {sp : World → Sp} {x : Str}
    (hn : l.most = some n) (hn2 : n ≤ sizeLine) (hdf : d.params.defaults = []) (hr : Room k callerA)
    (hY : ∀ (w : World) (h : Heap), YP w h → (K w.params).In h)
    (F : ∀ (w : World) (mg : Str → Option Value) (fa : Addr) (h : Heap), (K w.params).In h → h.Ns mainGlobals mg → mg d.name = some (.ref fa) →
      ∃ fd : FuncData, (∀ (s : Shared) (u : Value), BindsTo s fd ⟨[u], []⟩ [(x, u)]) ∧
        ∀ base : Heap, (K w.params).In base → base.Ns mainGlobals mg → FnOk l.prog w (K w.params) mg base (CX w) k fa fd [x] (sp w))
    (hsp : ∀ (w : World) (H : Hp) (a : Addr) (ns : List Int), ns.length ≤ n → (∀ i ∈ ns, Builtin.Int.intBits i ≤ 1048576) → Only H → SqL (K w.params) H a (ns.map V.int) → sp w [.ref a] H (fun v _ => v = .bl true) fun _ _ _ => False)
    (hCX : ∀ (w : World) (H : Hp) (s : Shared) (e : Value) (s' : Shared), CX w [] H s (fun _ _ _ => False) e s' → False) :
    PySem.W.WalkO q loose XP YP l.row.toRowW d [] (fun f vs => PySem.call f vs) := by
  intro w s₀ s₁ mg mb G Y fa o pm cd doc dV kV ho hd hcd hD hmg hg args vals as hpre hlay hrd hwl hlo
  obtain rfl : dV = .none := PySem.W.Dflts.none hD hdf
  obtain rfl : kV = .none := PySem.W.Dflts.noKw hD
  obtain ⟨a, vs, ns, rfl, rfl, hobj, hints, hlen⟩ := Att.script_of hn hpre hwl
  have KX := hY w _ Y
  obtain ⟨fd, hb, hF⟩ := F w mg fa _ KX G.T.g hmg
  have key := law_call KX G.T.g G.T.b G.T.builtins G.T.nolimit hg hobj hints (Nat.le_trans hlen hn2) hr hF hb (fun H hO hS => hsp w H a ns hlen (bits_script hlay) hO hS) fun H e s' => hCX w H s₁ e s'
  refine PySem.W.enter_call (codeAny_mono key fun r s' hq => ?_)
  obtain ⟨rfl, h2, h3, h4⟩ := hq
  exact ⟨.inl ⟨.bool true, .bool true, [], rfl, fun _ => rfl, .bool true, Att.post_true l _, fun _ => ⟨List.Pairwise.nil, fun _ hm => (nomatch hm)⟩⟩, h2, h3, h4⟩
/-! ### the rules that speak of X.K, with K said (within a comprehension's block) -/
section
variable {X : Cx} {K : PySem.W.Frag}
theorem ix_listK (h : X.K = K) : IxR X (rIxL K) := by subst h; exact ix_list
theorem ix_tupK (h : X.K = K) : IxR X (rIxT K) := by subst h; exact ix_tup
theorem sl_listK (h : X.K = K) : SlR X (rSlL K) := by subst h; exact sl_list
theorem call_len_seqK (h : X.K = K) : CallR X (.builtin "len") (fun xs H Q => ∃ p ys, xs = [.ref p] ∧ (SqL K H p ys ∨ SqT K H p ys) ∧ Q (.int ys.length) H) := by subst h; exact call_len_seq
end
/-! ### a def of the text: where it stands, what it promises -/
def DefIn (K : PySem.W.Frag) (mg : Str → Option Value) (x : Str) (st : Stmt) : Prop := ∃ f fd, mg x = some (.ref f) ∧ Fun K x x st f fd
theorem defIn_mk {K : PySem.W.Frag} {h : Heap} {mg : Str → Option Value} {x : Str} {st : Stmt} {f : Addr} {oc : Value} {od an : Option Addr} {osl : Array (Option Value)} {kV doc pm cdv ct : Value} (X : K.In h) (G : h.Ns mainGlobals mg)
    (a : PySem.W.nsIn K mainGlobals x = some (some (.ref f))) (l : K.lookup f = some ⟨oc, od, .func (PySem.W.fnOf x x (defArgs st) (defBody st) (defScope st) .none kV doc pm an cdv ct), osl⟩)
    (c : PySem.W.codeIn K cdv x = true) (k : PySem.W.keepIn K (.ref f) = true) : DefIn K mg x st := ⟨f, _, PySem.W.mg_of X G a, fun_mk l c k⟩
structure Callee (P : Program) (w : World) (K : PySem.W.Frag) (mg : Str → Option Value) (base : Heap) (CX : CXT) (k : Nat) (x : Str) (ps : List Str) (sp : Sp) : Prop where
  ex : ∃ f fd, FnOk P w K mg base CX k f fd ps sp ∧ mg x = some (.ref f) ∧ PySem.W.keepIn K (.ref f) = true ∧ Binds K fd ps []
/-- THE RULE for a def: where it stands, its names, how it binds, its body -/
theorem callee_mk {P : Program} {w : World} {K : PySem.W.Frag} {mg : Str → Option Value} {base : Heap} {x : Str} {st : Stmt} {N ps : List Str} {k : Nat} {sp : Sp} (D : DefIn K mg x st) (S : FnScope N ps (defScope st))
    (hb : ∀ (kV doc pm : Value) (an : Option Addr) (cdv ct : Value) (us : List Value), us.length = ps.length → bindArgs (PySem.W.fnOf x x (defArgs st) (defBody st) (defScope st) .none kV doc pm an cdv ct) ⟨us, []⟩ = pure (ps.zip us))
    (len : ∀ vs H Q E, sp vs H Q E → vs.length = ps.length)
    (hbody : ∀ (f : Addr) (cdv : Value) (A : Around) (outer : List Env) (s : Shared) (H : Hp) (vs : List V) (Q : VK) (E : XK), Room k (A.deeper (envOfC x (defScope st) s.heap.objs.size f cdv)) → sp vs H Q E →
      ∃ t, PSs (cxOf CX0 P w K mg base N x (defScope st) f cdv A outer s H E).nox (defBody st) t ∧ t { nx := fun _ H' => Q .non H', rt := Q } (start N vs) H) : Callee P w K mg base CX0 (k + 1) x ps sp := by
  obtain ⟨f, fd, hm, F⟩ := D
  exact ⟨f, fd, F.ok S len (hbody f), hm, F.kp, F.binds hb⟩
theorem pe_callC {X : Cx} {CX : CXT} {k j : Nat} {x : Str} {ps : List Str} {sp : Sp} {E : XK} {p pos : Pos} {e : Expr} {es : List Expr} {t : TA} (c : Callee X.prog X.w X.K X.mg X.base CX k x ps sp) (hr : Room j X.A) (hk : k ≤ j) (hg : Gl X x) (hx : Passes CX X E)
    (ha : PA X (e :: es) t) (hdb : (x == ("__debug__" : Str)) = false := by decide) (he : starEach (e :: es) X.env = (false, eval e X.env) :: starEach es X.env := by rfl) (hpl : (backTo pos (starEach es X.env)).any (·.1) = false := by rfl) :
    PE X (.Call (.Name x p) (e :: es) [] pos) (tCall sp [] E t) := by
  obtain ⟨f, fd, F, hm, hkp, hb⟩ := c.ex
  exact pe_call F (hr.mono hk) hg hm hkp hb .nil hx ha hdb he hpl
/-- the goal that k_head leaves, from the promise of the def «law» -/
theorem law_walk {l : PySem.W.OpenLaw} {k : Nat} {q : Program} {loose : List Str} {XP : (Str → Option Value) → Heap → Prop} {YP : World → Heap → Prop} {d : DefRec} {K : Params → PySem.W.Frag} {st : Stmt} {sp : PySem.W.Frag → Sp}
    (hn : l.most = some 63) (hdf : d.params.defaults = []) (hr : Room k callerA) (hY : ∀ (w : World) (h : Heap), YP w h → (K w.params).In h) (hd : d.name = ("law" : Str))
    (hb : ∀ (kV doc pm : Value) (an : Option Addr) (cdv ct : Value) (us : List Value), us.length = 1 → bindArgs (PySem.W.fnOf "law" "law" (defArgs st) (defBody st) (defScope st) .none kV doc pm an cdv ct) ⟨us, []⟩ = pure ((["_law_script"] : List Str).zip us))
    (F : ∀ (w : World) (mg : Str → Option Value) (h : Heap), (K w.params).In h → h.Ns mainGlobals mg → DefIn (K w.params) mg "law" st ∧ ∀ (f : Addr) (fd : FuncData), Fun (K w.params) "law" "law" st f fd → ∀ base : Heap, (K w.params).In base → base.Ns mainGlobals mg →
      FnOk l.prog w (K w.params) mg base CX0 k f fd ["_law_script"] (sp (K w.params)))
    (hsp : ∀ (K : PySem.W.Frag) (H : Hp) (a : Addr) (ns : List Int), ns.length ≤ 63 → (∀ i ∈ ns, Builtin.Int.intBits i ≤ 1048576) → Only H → SqL K H a (ns.map V.int) → sp K [.ref a] H (fun v _ => v = .bl true) fun _ _ _ => False) :
    PySem.W.WalkO q loose XP YP l.row.toRowW d [] (fun f vs => PySem.call f vs) := by
  refine walk_ofB (n := 63) (k := k) (x := "_law_script") (CX := fun _ => CX0) (sp := fun w => sp (K w.params)) hn (by decide) hdf hr hY (fun w mg fa h KX G hm => ?_) (fun w H a ns h1 h2 h3 h4 => hsp _ H a ns h1 h2 h3 h4) fun _ _ _ _ _ z => z
  obtain ⟨⟨f, fd, hf, Fu⟩, ok⟩ := F w mg h KX G
  rw [hd, hf] at hm
  cases hm
  refine ⟨fd, fun s u => ?_, fun base kb nb => ok _ fd Fu base kb nb⟩
  obtain ⟨oc, od, kV, doc, pm, an, cdv, ct, osl, rfl, lk, hcd⟩ := Fu.ex
  exact .of_eq (hb kV doc pm an cdv ct [u] rfl)
end L2

set_option Elab.async false
set_option linter.all false
set_option maxRecDepth 100000
/-! What the laws share: numbers and their bits, the tops of a row. -/
namespace PwM
open PySem
open Builtin.Int (intBits)
def lim : Int := 10 ^ 60
theorem lim_bits : intBits lim ≤ 200 := by decide +kernel
theorem lim_pos : 0 < lim := by decide +kernel
/-- within the document's bounds -/
def Fit (z : Int) : Prop := -lim ≤ z ∧ z ≤ lim
theorem Fit.bits {z : Int} (h : Fit z) : intBits z ≤ 200 := by
  refine intBits_le_of_natAbs (y := lim) ?_ lim_bits
  obtain ⟨h1, h2⟩ := h
  have := lim_pos
  omega
theorem fit_small {z : Int} (h1 : -100 ≤ z) (h2 : z ≤ 100) : Fit z := by
  have e : (100 : Int) ≤ lim := by decide +kernel
  exact ⟨by omega, by omega⟩
theorem fit_mod (a : Int) : Fit ((a + lim) % (2 * lim + 1) - lim) := by
  have hp := lim_pos
  have h1 : 0 ≤ (a + lim) % (2 * lim + 1) := Int.emod_nonneg _ (by omega)
  have h2 : (a + lim) % (2 * lim + 1) < 2 * lim + 1 := Int.emod_lt_of_pos _ (by omega)
  exact ⟨by omega, by omega⟩
theorem bits_emod {a m : Int} {n : Nat} (hm : 0 < m) (hb : intBits m ≤ n) : intBits (a % m) ≤ n := by
  refine intBits_le_of_natAbs (y := m) ?_ hb
  have h1 : 0 ≤ a % m := Int.emod_nonneg _ (by omega)
  have h2 : a % m < m := Int.emod_lt_of_pos _ hm
  omega
theorem bits_small {z : Int} (h1 : -(2 ^ 64) < z) (h2 : z < 2 ^ 64) : intBits z ≤ 64 := intBits_le_64 h1 h2
theorem bits_ediv {a m : Int} {n : Nat} (hm : 0 < m) (hb : intBits a ≤ n) : intBits (a / m) ≤ n := by
  rw [← Int.fdiv_eq_ediv_of_nonneg _ (Int.le_of_lt hm)]
  exact intBits_fdiv_le hb
/-- the sums of the first 0 .. i numbers -/
def sumsTo (xs : List Int) (i : Nat) : List Int := (List.range (i + 1)).map fun k => (xs.take k).sum
theorem sumsTo_zero (xs : List Int) : sumsTo xs 0 = [0] := by simp [sumsTo]
theorem sumsTo_succ (xs : List Int) (i : Nat) : sumsTo xs (i + 1) = sumsTo xs i ++ [(xs.take (i + 1)).sum] := by
  unfold sumsTo
  rw [List.range_succ, List.map_append]
  rfl
theorem sumsTo_length (xs : List Int) (i : Nat) : (sumsTo xs i).length = i + 1 := by simp [sumsTo]
theorem sumsTo_last (xs : List Int) (i : Nat) : ∃ p, sumsTo xs i = p ++ [(xs.take i).sum] := by
  refine ⟨(List.range i).map fun k => (xs.take k).sum, ?_⟩
  unfold sumsTo
  rw [List.range_succ, List.map_append]
  rfl
theorem sumsTo_get (xs : List Int) {i k : Nat} (h : k ≤ i) : (sumsTo xs i)[k]? = some (xs.take k).sum := by
  unfold sumsTo
  rw [List.getElem?_map, List.getElem?_range (by omega)]
  rfl
theorem take_sum (xs : List Int) {i : Nat} {z : Int} (h : xs[i]? = some z) : (xs.take (i + 1)).sum = (xs.take i).sum + z := by
  rw [List.take_add_one, h, List.sum_append]
  simp
def tops (ns : List Int) : List Int := sumsTo (desc ns) ns.length
theorem tops_length (ns : List Int) : (tops ns).length = ns.length + 1 := sumsTo_length _ _
end PwM
namespace L2
open PySem PySem.Spec PyProof.Rows
structure Blt (mg : Str → Option Value) : Prop where
  len : mg "len" = none
  range : mg "range" = none
  sorted : mg "sorted" = none
  list : mg "list" = none
  isinstance : mg "isinstance" = none
  int : mg "int" = none
  bool : mg "bool" = none
  sum : mg "sum" = none
  zip : mg "zip" = none
  max : mg "max" = none
  min : mg "min" = none
  abs : mg "abs" = none
  tuple : mg "tuple" = none
  str : mg "str" = none
  reversed : mg "reversed" = none
theorem Same.upd_new {H H' : Hp} {l : Addr} {o : HO} (h : Same H H') (hl : H l = none) : Same H (upd H' l o) := fun b u e => by
  rw [upd_ne (ne_of_none e hl)]
  exact h b u e
theorem Same.listOf {H H' : Hp} (h : Same H H') {l : Addr} {xs : List V} (e : H l = some (.lst xs)) : H' l = some (.lst xs) := h l _ e
theorem atI_lastV {xs : List V} {v : V} (h : ∃ p, xs = p ++ [v]) : atI xs (-1) = some v := by
  obtain ⟨p, rfl⟩ := h
  exact atI_last p v
theorem atI_map {ns : List Int} {k : Nat} {z : Int} (h : ns[k]? = some z) : atI (ns.map V.int) (k : Int) = some (.int z) := atI_nat (by rw [List.getElem?_map, h]; rfl)
theorem getD_of {ns : List Int} {k : Nat} (h : k < ns.length) : ns[k]? = some (ns.getD k 0) := by
  rw [List.getElem?_eq_getElem h]
  simp [List.getD, List.getElem?_eq_getElem h]
theorem mem_getD {ns : List Int} {k : Nat} (h : k < ns.length) : ns.getD k 0 ∈ ns := List.mem_of_getElem? (getD_of h)
theorem cutV_from (xs : List V) (k : Nat) : cutV xs (some (k : Int)) none = xs.drop k := by
  unfold cutV
  rw [HT.sIx_nat, HT.sIx_none]
  by_cases h : k ≤ xs.length
  · rw [Nat.min_eq_left h, List.take_of_length_le (by rw [List.length_drop]; omega)]
  · rw [Nat.min_eq_right (by omega), List.drop_of_length_le (Nat.le_refl _), List.drop_of_length_le (by omega)]
    simp
theorem cutV_to (xs : List V) (k : Nat) : cutV xs none (some (k : Int)) = xs.take k := by
  unfold cutV
  rw [HT.sIx_nat, HT.sIx_none, List.drop_zero, Nat.sub_zero]
  by_cases h : k ≤ xs.length
  · rw [Nat.min_eq_left h]
  · rw [Nat.min_eq_right (by omega), List.take_of_length_le (Nat.le_refl _), List.take_of_length_le (by omega)]
theorem flat_one (k : Nat) (v : V) : (List.replicate k [v]).flatten = List.replicate k v := by
  induction k with
  | zero => rfl
  | succ k ih => rw [List.replicate_succ, List.flatten_cons, ih, List.replicate_succ]; rfl
theorem bits_sum {m : Nat} : ∀ l : List Int, (∀ x ∈ l, Builtin.Int.intBits x ≤ m) → Builtin.Int.intBits l.sum ≤ m + l.length
  | [], _ => by
    show Builtin.Int.intBits 0 ≤ _
    rw [show Builtin.Int.intBits 0 = 0 from rfl]
    exact Nat.zero_le _
  | x :: l, h => by
    have h1 := bits_sum l fun y hy => h y (List.mem_cons_of_mem _ hy)
    have h2 := h x List.mem_cons_self
    rw [List.sum_cons, List.length_cons]
    exact Nat.le_trans (intBits_add_le h2 h1) (by omega)
/-- every DefIn's four facts; a builtin's name that the text does not bind -/
theorem blt_mk {K : PySem.W.Frag} {h : Heap} {mg : Str → Option Value} (X : K.In h) (G : h.Ns mainGlobals mg)
    (z1 : PySem.W.nsIn K mainGlobals "len" = some none) (z2 : PySem.W.nsIn K mainGlobals "range" = some none) (z3 : PySem.W.nsIn K mainGlobals "sorted" = some none) (z4 : PySem.W.nsIn K mainGlobals "list" = some none)
    (z5 : PySem.W.nsIn K mainGlobals "isinstance" = some none) (z6 : PySem.W.nsIn K mainGlobals "int" = some none) (z7 : PySem.W.nsIn K mainGlobals "bool" = some none) (z8 : PySem.W.nsIn K mainGlobals "sum" = some none)
    (z9 : PySem.W.nsIn K mainGlobals "zip" = some none) (z10 : PySem.W.nsIn K mainGlobals "max" = some none) (z11 : PySem.W.nsIn K mainGlobals "min" = some none) (z12 : PySem.W.nsIn K mainGlobals "abs" = some none)
    (z13 : PySem.W.nsIn K mainGlobals "tuple" = some none) (z14 : PySem.W.nsIn K mainGlobals "str" = some none) (z15 : PySem.W.nsIn K mainGlobals "reversed" = some none) : Blt mg :=
  ⟨PySem.W.mg_none_of X G z1, PySem.W.mg_none_of X G z2, PySem.W.mg_none_of X G z3, PySem.W.mg_none_of X G z4, PySem.W.mg_none_of X G z5, PySem.W.mg_none_of X G z6, PySem.W.mg_none_of X G z7, PySem.W.mg_none_of X G z8,
   PySem.W.mg_none_of X G z9, PySem.W.mg_none_of X G z10, PySem.W.mg_none_of X G z11, PySem.W.mg_none_of X G z12, PySem.W.mg_none_of X G z13, PySem.W.mg_none_of X G z14, PySem.W.mg_none_of X G z15⟩
end L2

set_option Elab.async false
set_option linter.all false
set_option maxRecDepth 100000
/-! Over the hand layer: errors of the program's own, raised, passed on, taken. -/
namespace L2
open PySem PySem.Spec PyProof.Rows
/-! ### an exception's record and its trace -/
/-- at e an exception of the class at C (its dict dd), the newest entry of its trace at T, fl that entry's flight -/
def Tr (h : Heap) (e C : Addr) (dd : Option Addr) (fl : Value) (T : Addr) : Prop :=
  ∃ vs ts oT, h.get? e = some { cls := .ref C, dict := dd, data := .fields vs } ∧ vs[1]? = some (.ref T) ∧ T ≠ e ∧ h.get? T = some oT ∧ oT.data = .fields ts ∧ ts[3]? = some fl
/-- of the frames at Fs only slots have changed, of the records at ch anything -/
structure Stp (Fs ch : List Addr) (h h' : Heap) : Prop where
  keep : ∀ b o, b ∉ Fs → b ∉ ch → h.get? b = some o → h'.get? b = some o
  slot : ∀ b o, b ∉ ch → h.get? b = some o → ∃ sl, h'.get? b = some { o with slots := sl }
theorem Stp.refl (Fs ch : List Addr) (h : Heap) : Stp Fs ch h h := ⟨fun _ _ _ _ e => e, fun _ o _ e => ⟨o.slots, e⟩⟩
theorem Stp.trans {Fs ch : List Addr} {h h1 h2 : Heap} (a : Stp Fs ch h h1) (b : Stp Fs ch h1 h2) : Stp Fs ch h h2 :=
  ⟨fun c o hF hc e => b.keep c o hF hc (a.keep c o hF hc e), fun c o hc e => by
    obtain ⟨sl, e1⟩ := a.slot c o hc e
    obtain ⟨sl2, e2⟩ := b.slot c _ hc e1
    exact ⟨sl2, e2⟩⟩
theorem Stp.mono {Fs Fs' ch ch' : List Addr} {h h' : Heap} (a : Stp Fs ch h h') (hF : ∀ b ∈ Fs, b ∈ Fs') (hc : ∀ b ∈ ch, b ∈ ch') : Stp Fs' ch' h h' :=
  ⟨fun b o h1 h2 e => a.keep b o (fun z => h1 (hF b z)) (fun z => h2 (hc b z)) e, fun b o h2 e => a.slot b o (fun z => h2 (hc b z)) e⟩
theorem Stp.frames {Fs ch : List Addr} {h h' base : Heap} {l : List Env} (a : Stp Fs ch h h') (hc : ∀ b ∈ frs l, b ∉ ch) (hl : h.FunFrames base l) : h'.FunFrames base l := by
  induction l with
  | nil => trivial
  | cons env r ih =>
    obtain ⟨hk, ⟨L, o, hf, hn, ho, hd⟩, hr⟩ := hl
    have hL : L ∈ frs (env :: r) := by
      unfold frs
      rw [List.filterMap_cons, hf]
      exact List.mem_cons_self
    obtain ⟨sl, e⟩ := a.slot L o (hc L hL) ho
    refine ⟨hk, ⟨L, _, hf, hn, e, hd⟩, ih (fun b hb => hc b ?_) hr⟩
    unfold frs
    rw [List.filterMap_cons, hf]
    exact List.mem_cons_of_mem _ hb
section
variable {M : Model} {A : Around} {E : Value → Shared → Prop} {s : Shared} {base : Heap} {env : Env} {outer : List Env} {L e C : Addr} {dd : Option Addr}
theorem note_entry {vs : Array Value} {head : Value} {had : Bool} {Q : Unit → Shared → Prop} (hfr : A.frames = some (env :: outer)) (hl : s.heap.FunFrames base (env :: outer)) (hf : env.frame = some L)
    (he : s.heap.get? e = some { cls := .ref C, dict := dd, data := .fields vs }) (hsz : 1 < vs.size)
    (h : ∀ h' T, Stp (frs (env :: outer)) [e] s.heap h' → Tr h' e C dd (rawInt L) T → s.heap.objs.size ≤ T → Q () { s with heap := h' }) :
    wpAny M A (do let a ← frameOf env; let pl ← entryPlaceOf L had; let b ← EntryCells.newEntry head a .none (rawInt L) .none pl; setField (.ref e) 1 b) Q E s := by
  have hne : e ∉ frs (env :: outer) := fun hm => by
    obtain ⟨_, o, ho, hnf⟩ := hl.mem hm
    rw [he] at ho
    cases ho
    exact hnf vs rfl
  refine wpAny_bind (wpAny_frameOf_fun hfr hl hf fun h1 hs => ?_)
  refine wpAny_bind (wpAny_entryPlaceOf fun pl hpl => ?_)
  unfold EntryCells.newEntry newFields
  refine wpAny_bind (wpAny_newObj_type ?_ (hpl.sizeOk5 _ _ _ _ _))
  have he1 : h1.get? e = some { cls := .ref C, dict := dd, data := .fields vs } := (hs.2.1 e hne).trans he
  have hT : h1.objs.size ≠ e := Nat.ne_of_gt (Heap.lt_size he1)
  have he2 := fun o => Heap.get?_push_of_some (h := h1) o he1
  have hTT : ∀ (o : Obj) (f : Obj → Obj), o.isFreed = false → ((h1.push o).update e f).get? h1.objs.size = some o := fun o f ho => by
    rw [Heap.get?_update_other _ _ (Ne.symm hT)]
    exact Heap.get?_push_size h1 ho
  refine wpAny_setField (he2 _) rfl hsz ?_
  refine h _ h1.objs.size ⟨fun b o hF hc eb => ?_, fun b o hc eb => ?_⟩ ⟨vs.setIfInBounds 1 (.ref h1.objs.size), _, _, Heap.get?_update_self _ (he2 _) rfl, by simp [hsz], hT, hTT _ _ rfl, rfl, ?_⟩ (by rw [hs.1]; exact Nat.le_refl _)
  · have hbe : b ≠ e := fun z => hc (by simp [z])
    rw [Heap.get?_update_other _ _ (Ne.symm hbe)]
    exact Heap.get?_push_of_some _ ((hs.2.1 b hF).trans eb)
  · have hbe : b ≠ e := fun z => hc (by simp [z])
    obtain ⟨sl, e1⟩ := hs.2.2 b o eb
    refine ⟨sl, ?_⟩
    rw [Heap.get?_update_other _ _ (Ne.symm hbe)]
    exact Heap.get?_push_of_some _ e1
  · first | (simp; done) | (rcases hpl with rfl | ⟨_, _, _, _, _, _, _, rfl⟩ <;> simp)
/-- the first frame that a new exception meets -/
theorem note_first {vs : Array Value} {Q : Unit → Shared → Prop} (hfr : A.frames = some (env :: outer)) (hl : s.heap.FunFrames base (env :: outer)) (hf : env.frame = some L)
    (he : s.heap.get? e = some { cls := .ref C, dict := dd, data := .fields vs }) (h1 : vs[1]? = some .none)
    (h : ∀ h' T, Stp (frs (env :: outer)) [e] s.heap h' → Tr h' e C dd (rawInt L) T → s.heap.objs.size ≤ T → Q () { s with heap := h' }) : wpAny M A (noteFrame (.ref e) env) Q E s := by
  unfold noteFrame
  simp only [hf]
  refine wpAny_bind (wpAny_field he rfl h1 ?_)
  rw [if_neg (by decide)]
  exact note_entry hfr hl hf he (Array.getElem?_eq_some_iff.mp h1).1 h
/-- a further frame -/
theorem note_next {T0 : Addr} {Q : Unit → Shared → Prop} (hfr : A.frames = some (env :: outer)) (hl : s.heap.FunFrames base (env :: outer)) (hf : env.frame = some L) (ht : Tr s.heap e C dd .none T0)
    (h : ∀ h' T, Stp (frs (env :: outer)) [e, T0] s.heap h' → Tr h' e C dd (rawInt L) T → s.heap.objs.size ≤ T → Q () { s with heap := h' }) : wpAny M A (noteFrame (.ref e) env) Q E s := by
  obtain ⟨vs, ts, oT, he, h1, hTe, hT, hd, h3⟩ := ht
  unfold noteFrame
  simp only [hf]
  refine wpAny_bind (wpAny_field he rfl h1 ?_)
  rw [if_pos (show (Value.ref T0 != Value.none) = true from by simp)]
  refine wpAny_bind (wpAny_field hT hd h3 ?_)
  rw [if_neg (show ¬ ((Value.none == rawInt L) = true) from by simp [rawInt])]
  refine wpAny_bind (wpAny_setField hT hd (Array.getElem?_eq_some_iff.mp h3).1 ?_)
  have oth : ∀ b, b ≠ T0 → (s.heap.update T0 (Obj.mapFields (·.setIfInBounds 3 Value.none))).get? b = s.heap.get? b := fun b hb => Heap.get?_update_other _ _ (Ne.symm hb)
  have st : Stp (frs (env :: outer)) [e, T0] s.heap (s.heap.update T0 (Obj.mapFields (·.setIfInBounds 3 Value.none))) :=
    ⟨fun b o _ hc eb => (oth b fun z => hc (by simp [z])).trans eb, fun b o hc eb => ⟨o.slots, (oth b fun z => hc (by simp [z])).trans eb⟩⟩
  have hnf : ∀ b ∈ frs (env :: outer), b ∉ [e, T0] := fun b hb hc => by
    obtain ⟨_, o, ho, hn⟩ := hl.mem hb
    simp only [List.mem_cons, List.not_mem_nil, or_false] at hc
    rcases hc with rfl | rfl
    · rw [he] at ho
      cases ho
      exact hn vs rfl
    · rw [hT] at ho
      cases ho
      exact hn ts hd
  refine note_entry (s := { s with heap := s.heap.update T0 (Obj.mapFields (·.setIfInBounds 3 Value.none)) }) hfr (st.frames hnf hl) hf ((oth e (Ne.symm hTe)).trans he) (Array.getElem?_eq_some_iff.mp h1).1 fun h' T a b c => ?_
  refine h h' T (st.trans (a.mono (fun _ z => z) fun b hb => ?_)) b ?_
  · rw [List.mem_singleton.mp hb]
    exact List.mem_cons_self
  · have c' : (s.heap.update T0 (Obj.mapFields (·.setIfInBounds 3 Value.none))).objs.size ≤ T := c
    rwa [Heap.size_update] at c'
/-- the flight ends -/
theorem flight_none {fl : Value} {T : Addr} {Q : Unit → Shared → Prop} (ht : Tr s.heap e C dd fl T) (h : ∀ h', Stp [] [T] s.heap h' → Tr h' e C dd .none T → h'.objs.size = s.heap.objs.size → Q () { s with heap := h' }) : wpAny M A (setFlight (.ref e) none) Q E s := by
  obtain ⟨vs, ts, oT, he, h1, hTe, hT, hd, h3⟩ := ht
  have h3' : 3 < ts.size := (Array.getElem?_eq_some_iff.mp h3).1
  have oth : ∀ b, b ≠ T → (s.heap.update T (Obj.mapFields (·.setIfInBounds 3 ((none : Option Addr).elim Value.none fun f => rawInt f)))).get? b = s.heap.get? b := fun b hb => Heap.get?_update_other _ _ (Ne.symm hb)
  unfold setFlight
  refine wpAny_bind (wpAny_field he rfl h1 ?_)
  rw [if_pos (show (Value.ref T != Value.none) = true from by simp)]
  refine wpAny_setField hT hd h3' (h _ ⟨fun b o _ hc eb => (oth b fun z => hc (by simp [z])).trans eb, fun b o hc eb => ⟨o.slots, (oth b fun z => hc (by simp [z])).trans eb⟩⟩ ?_ (Heap.size_update ..))
  exact ⟨vs, _, _, (oth e (Ne.symm hTe)).trans he, h1, hTe, Heap.get?_update_self _ hT (Obj.isFreed_of_fields (Obj.data_mapFields hd _)), Obj.data_mapFields hd _, by simp [h3']⟩
theorem leave_first {vs : Array Value} {Q : Unit → Shared → Prop} (hfr : A.frames = some (env :: outer)) (hl : s.heap.FunFrames base (env :: outer)) (hf : env.frame = some L)
    (he : s.heap.get? e = some { cls := .ref C, dict := dd, data := .fields vs }) (h1 : vs[1]? = some .none)
    (h : ∀ h' T, Stp (frs (env :: outer)) [e] s.heap h' → Tr h' e C dd .none T → s.heap.objs.size ≤ T → Q () { s with heap := h' }) : wpAny M A (leaving env (.ref e)) Q E s := by
  unfold leaving
  refine wpAny_bind (note_first hfr hl hf he h1 fun h1' T a b c => flight_none (s := { s with heap := h1' }) b fun h2' a2 b2 sz => ?_)
  refine h h2' T ⟨fun x o hF hc ex => a2.keep x o (by simp) ?_ (a.keep x o hF hc ex), fun x o hc ex => ?_⟩ b2 c
  · intro z
    rw [List.mem_singleton.mp z] at ex
    exact absurd (Heap.lt_size ex) (Nat.not_lt.mpr c)
  · obtain ⟨sl, e1⟩ := a.slot x o hc ex
    refine ⟨sl, a2.keep x _ (by simp) (fun z => ?_) e1⟩
    rw [List.mem_singleton.mp z] at ex
    exact absurd (Heap.lt_size ex) (Nat.not_lt.mpr c)
theorem leave_next {T0 : Addr} {Q : Unit → Shared → Prop} (hfr : A.frames = some (env :: outer)) (hl : s.heap.FunFrames base (env :: outer)) (hf : env.frame = some L) (ht : Tr s.heap e C dd .none T0)
    (h : ∀ h' T, Stp (frs (env :: outer)) [e, T0] s.heap h' → Tr h' e C dd .none T → s.heap.objs.size ≤ T → Q () { s with heap := h' }) : wpAny M A (leaving env (.ref e)) Q E s := by
  unfold leaving
  refine wpAny_bind (note_next hfr hl hf ht fun h1' T a b c => flight_none (s := { s with heap := h1' }) b fun h2' a2 b2 sz => ?_)
  refine h h2' T ⟨fun x o hF hc ex => a2.keep x o (by simp) ?_ (a.keep x o hF hc ex), fun x o hc ex => ?_⟩ b2 c
  · intro z
    rw [List.mem_singleton.mp z] at ex
    exact absurd (Heap.lt_size ex) (Nat.not_lt.mpr c)
  · obtain ⟨sl, e1⟩ := a.slot x o hc ex
    refine ⟨sl, a2.keep x _ (by simp) (fun z => ?_) e1⟩
    rw [List.mem_singleton.mp z] at ex
    exact absurd (Heap.lt_size ex) (Nat.not_lt.mpr c)
end
end L2

set_option Elab.async false
set_option linter.all false
set_option maxRecDepth 100000
/-! Over the hand layer: errors of the program's own, raised, passed on, taken (second part). -/
namespace L2
open PySem PySem.Spec PyProof.Rows
/-! ### an own error class -/
abbrev bmVE : List Value := [.type "ValueError", .type "Exception", .type "BaseException", .type "object"]
structure ExC (K : PySem.W.Frag) (C : Addr) : Prop where
  exc : PySem.W.excIn K C bmVE "ValueError.__new__" = true
theorem exc_obj {K : PySem.W.Frag} {h : Heap} {C : Addr} {bmB : List Value} {nid : String} (kin : K.In h) (chk : PySem.W.excIn K C bmB nid = true) :
    ∃ bm N nm qn bs hdct sn sub ab col dd k0 k1 k2 k3 k5 mN, h.get? C = some (excClassObj nm qn C N bs bm hdct sn sub ab col dd k0 k1 k2 k3 k5 nid) ∧ h.Ns N mN ∧ mN "__init__" = none ∧ OwnTail h bmB bm := by
  unfold PySem.W.excIn at chk
  split at chk
  · rename_i od cdat slo lk
    split at chk
    · rename_i D tl a0 a1 a2 a3 mk a5 emro eslo
      simp only [Bool.and_eq_true, beq_iff_eq, Bool.not_eq_true'] at chk
      obtain ⟨⟨⟨⟨⟨e1, e2⟩, e3⟩, e4⟩, e5⟩, e6⟩ := chk
      subst e1 e2
      have e7 : slo = #[a0, a1, a2, a3, some (.builtin mk), a5] := Array.toList_inj.mp eslo
      obtain ⟨z1, z2, z3, z4, z5, z6, z7, z8, z9, z10, z11⟩ := cdat
      dsimp only at emro e3 e5 e6
      subst emro e3 e7
      exact ⟨tl, z4, z1, z5, z2, z6, z7, z8, z9, z10, od, a0, a1, a2, a3, a5, _, kin _ _ lk, .of_isNs (PySem.W.isNs_of_in kin e5), PySem.W.nsMap_none_of_in kin e5 e6, PySem.W.tail_of_in kin e4⟩
    · cases chk
  · cases chk
/-! ### what a step of an error in flight leaves -/
theorem ObjOk.get {P : Program} {w : World} {H : Hp} {h : Heap} {a : Addr} {o : HO} (x : ObjOk P w H h a o) : ∃ ob, h.get? a = some ob := by
  cases o with
  | lst xs => obtain ⟨_, _, _, _, e⟩ := x; exact ⟨_, e⟩
  | tup xs => obtain ⟨_, _, _, o, e, _⟩ := x; exact ⟨_, e⟩
  | dK kvs => obtain ⟨_, _, _, _, o, _, _, e, _⟩ := x; exact ⟨_, e⟩
  | dT kvs => obtain ⟨_, _, _, _, o, _, _, e, _⟩ := x; exact ⟨_, e⟩
  | set S n => obtain ⟨o, _, _, _, e, _⟩ := x; exact ⟨_, e⟩
  | ins C dx fs => obtain ⟨_, _, _, e, _⟩ := x; exact ⟨_, e⟩
  | own y => obtain ⟨_, e⟩ := x; exact ⟨_, e⟩
  | xd fs => obtain ⟨_, ⟨_, _, _, e, _⟩, _⟩ := x; exact ⟨_, e⟩
  | rng lo hi => obtain ⟨_, _, _, e⟩ := x; exact ⟨_, e⟩
  | frz ob u => obtain ⟨e, _⟩ := x; exact ⟨_, e⟩
  | tbl ps => exact ⟨_, (show h.get? a = some _ from x)⟩
  | met f y => exact ⟨_, (show h.get? a = some _ from x)⟩
  | ext φ => obtain ⟨_, ⟨_, e⟩, _⟩ := x; exact ⟨_, e⟩
theorem HOk.off {P : Program} {w : World} {H : Hp} {h : Heap} {a : Addr} (x : HOk P w H h) (e : h.get? a = none) : H a = none := by
  cases q : H a with
  | none => rfl
  | some o =>
    obtain ⟨ob, z⟩ := (x a o q).get
    rw [e] at z
    cases z
theorem HOk.stp {P : Program} {w : World} {H : Hp} {h h' : Heap} {Fs ch : List Addr} (x : HOk P w H h) (st : Stp Fs ch h h') (hF : ∀ b ∈ Fs, H b = none) (hc : ∀ b ∈ ch, H b = none) : HOk P w H h' := fun a o q =>
  (x a o q).stay (fun b u hb e => by
    have hn : H b ≠ none := by
      rcases hb with rfl | hb
      · rw [q]; exact fun z => nomatch z
      · rw [hb]; exact fun z => nomatch z
    exact st.keep b u (fun z => hn (hF b z)) (fun z => hn (hc b z)) e) (fun _ z => z) fun _ _ z => z
theorem Un.stp {fs ex : List Addr} {H0 H : Hp} {h0 h h' : Heap} {Fs ch : List Addr} (u : Un fs ex H0 H h0 h) (st : Stp Fs ch h h') (hF : ∀ b o, b ∈ Fs → h0.get? b = some o → b ∈ fs) (hc : ∀ b ∈ ch, h0.get? b = none) : Un fs ex H0 H h0 h' := by
  have nc : ∀ b o, h0.get? b = some o → b ∉ ch := fun b o q z => by rw [hc b z] at q; cases q
  refine ⟨fun b o q n hb hx => st.keep b o (fun z => hb (hF b o z q)) (nc b o q) (u.keep b o q n hb hx), fun b o q n hb hx => ?_, u.free, fun b o q hx => ?_, u.tups, u.frzs, u.tbls⟩
  · obtain ⟨sl, e⟩ := u.slot b o q n hb hx
    obtain ⟨sl2, e2⟩ := st.slot b _ (nc b o q) e
    exact ⟨sl2, e2⟩
  · obtain ⟨o', e⟩ := u.there b o q hx
    obtain ⟨sl, e2⟩ := st.slot b o' (nc b o q) e
    exact ⟨_, e2⟩
/-- a record of its own, apart from all that the body leans on -/
structure Apart (X : Cx) (pins : List (Addr × Obj)) (b : Addr) : Prop where
  new : X.s₀.heap.get? b = none
  loc : b ≠ X.env.locals
  cell : ∀ x c, X.env.cells.lookup x = some c → c ≠ b
  pin : ∀ p ∈ X.pn ++ pins, p.1 ≠ b
section
variable {X : Cx} {pins : List (Addr × Obj)} {σ : St} {H H' : Hp} {s s' : Shared} {h' : Heap} {b : Addr}
theorem Inv.apart (I : Inv X pins σ H s) (hx : b ∉ X.ex) (h : s.heap.get? b = none) : Apart X pins b := by
  refine ⟨?_, fun z => ?_, fun x c e z => ?_, fun p hp z => ?_⟩
  · cases q : X.s₀.heap.get? b with
    | none => rfl
    | some o =>
      obtain ⟨o', e⟩ := I.base.there b o q hx
      rw [h] at e
      cases e
  · obtain ⟨m, ⟨o, _, _, ho, _⟩, _⟩ := I.loc
    rw [← z, h] at ho
    cases ho
  · obtain ⟨v, o, ho, _⟩ := I.cell x c e
    rw [z, h] at ho
    cases ho
  · have := (I.pin p hp).1
    rw [z, h] at this
    cases this
theorem Inv.stkFs (I : Inv X pins σ H s) : ∀ b o, b ∈ frs X.stack → X.s₀.heap.get? b = some o → b ∈ X.fs := fun b o hb q => by
  rcases List.mem_cons.mp (I.stkSub b hb) with z | z
  · exact absurd (Nat.lt_of_lt_of_le (Heap.lt_size q) I.ok.above) (by rw [z]; exact Nat.lt_irrefl _)
  · exact z
theorem Inv.stp {t' : Nat} {ch : List Addr} (I : Inv X pins σ H s) (st : Stp (frs X.stack) ch s.heap h') (hc : ∀ b ∈ ch, Apart X pins b ∧ H b = none) : Inv X pins σ H { s with heap := h', toks := t' } := by
  have cellK : ∀ x c, X.env.cells.lookup x = some c → ∀ v, s.heap.IsCell c v → h'.IsCell c v := fun x c e v ⟨o, ho, hd⟩ => by
    obtain ⟨sl, q⟩ := st.slot c o (fun z => (hc c z).1.cell x c e rfl) ho
    exact ⟨_, q, hd⟩
  refine ⟨I.ok, I.os, I.bare, I.base.stp st I.stkFs fun b hb => (hc b hb).1.new, ?_, fun x c e => ?_, I.free, I.freeC, fun p hp => ?_, I.hok.stp st I.stkFree fun b hb => (hc b hb).2, I.len⟩
  · obtain ⟨m, ⟨o, es, ep, ho, r⟩, hl⟩ := I.loc
    obtain ⟨sl, e⟩ := st.slot _ o (fun z => (hc _ z).1.loc rfl) ho
    refine ⟨m, ⟨_, es, ep, e, r⟩, fun i x v e1 e2 e3 => ?_⟩
    obtain ⟨u, ru, l⟩ := hl i x v e1 e2 e3
    refine ⟨u, ru, ?_⟩
    rcases l with l | ⟨k, c, e, z⟩
    · exact .inl l
    · exact .inr ⟨k, c, e, cellK x c e _ z⟩
  · obtain ⟨v, z⟩ := I.cell x c e
    exact ⟨v, cellK x c e v z⟩
  · obtain ⟨e, n, ne, nf, d⟩ := I.pin p hp
    refine ⟨st.keep p.1 p.2 (fun z => ?_) (fun z => (hc p.1 z).1.pin p hp rfl) e, n, ne, nf, d⟩
    rcases List.mem_cons.mp (I.stkSub _ z) with q | q
    · exact ne q
    · exact nf q
/-- a record of our own is tracked by what is true of it -/
theorem Inv.track {φ : Heap → Prop} (I : Inv X pins σ H s) (ap : Apart X pins b) (hn : H b = none) (p : φ s.heap) (o : ∃ o, s.heap.get? b = some o) (st : ∀ h1 h2 : Heap, φ h1 → (∀ o, h1.get? b = some o → h2.get? b = some o) → φ h2) : Inv X pins σ (upd H b (.ext φ)) s := by
  have nb : ∀ c u, H c = some u → c ≠ b := fun c u e => ne_of_none e hn
  refine ⟨I.ok, I.os, I.bare, ⟨I.base.keep, I.base.slot, fun c ob q n hx => ?_, I.base.there, fun c xs q => ?_, fun c ob xs q => ?_, fun c ps q => ?_⟩, I.loc, I.cell, ?_, fun x c e => ?_, fun p hp => ?_, fun c u q => ?_, I.len⟩
  · have : c ≠ b := fun z => by rw [z, ap.new] at q; cases q
    rw [upd_ne this]
    exact I.base.free c ob q n hx
  · have := I.base.tups c xs q
    rw [upd_ne (nb _ _ this)]
    exact this
  · have := I.base.frzs c ob xs q
    rw [upd_ne (nb _ _ this)]
    exact this
  · obtain ⟨more, this⟩ := I.base.tbls c ps q
    exact ⟨more, by rw [upd_ne (nb _ _ this)]; exact this⟩
  · rw [upd_ne (Ne.symm ap.loc)]
    exact I.free
  · rw [upd_ne (ap.cell x c e)]
    exact I.freeC x c e
  · obtain ⟨e, n, ne, nf, d⟩ := I.pin p hp
    exact ⟨e, by rw [upd_ne (ap.pin p hp)]; exact n, ne, nf, d⟩
  · by_cases hc : c = b
    · subst hc
      rw [upd_same] at q
      cases q
      exact ⟨p, o, st⟩
    · rw [upd_ne hc] at q
      exact (I.hok c u q).stay (fun _ _ _ e => e) (fun d e => by rw [upd_ne (nb _ _ e)]; exact e) fun d xs e => by rw [upd_ne (nb _ _ e)]; exact e
end
/-! ### an error that has left a def -/
structure Fly (outer : List Env) (P : Program) (w : World) (H : Hp) (s : Shared) (E : XK) (e C : Addr) (dd : Option Addr) (T : Addr) (H' : Hp) (s' : Shared) : Prop where
  os : s'.os = s.os
  bare : AllBare s'.gens
  un : Un (frs outer) [] H H' s.heap s'.heap
  hok : HOk P w H' s'.heap
  tr : Tr s'.heap e C dd .none T
  ne : s.heap.get? e = none
  nt : s.heap.get? T = none
  he : H' e = none
  ht : H' T = none
  wish : E (.ref C) dd H'
def CX1 (P : Program) (w : World) : CXT := fun outer H s E v s' => ∃ e C dd T H', v = .ref e ∧ Fly outer P w H s E e C dd T H' s'
theorem passN {X : Cx} {P : Program} {w : World} : Passes (CX1 P w) X E0 := fun _ _ _ _ _ _ _ ⟨_, _, _, _, _, _, f⟩ => f.wish.elim
section
variable {P : Program} {w : World} {K : PySem.W.Frag} {mg : Str → Option Value} {base : Heap} {N : List Str} {qual : Str} {scope : Scope} {f : Addr} {cd : Value} {A : Around} {outer : List Env} {s₀ : Shared} {H₀ : Hp} {E : XK}
  {pins : List (Addr × Obj)} {σ : St} {H : Hp} {s : Shared} {e C : Addr} {dd : Option Addr}
theorem fly_first {vs : Array Value} (I : Inv (cxOf (CX1 P w) P w K mg base N qual scope f cd A outer s₀ H₀ E) pins σ H s) (he : s.heap.get? e = some { cls := .ref C, dict := dd, data := .fields vs }) (h1 : vs[1]? = some .none)
    (n0 : s₀.heap.get? e = none) (hn : H e = none) (q : E (.ref C) dd H) : (cxOf (CX1 P w) P w K mg base N qual scope f cd A outer s₀ H₀ E).xe (.ref e) s := by
  show wpAny _ _ (leaving _ _) _ _ _
  refine leave_first I.ok.frames I.stack rfl he h1 fun h' T st tr sz => ?_
  have nT : s.heap.get? T = none := Heap.get?_none_of_le sz
  have aT := I.apart (b := T) (fun z => nomatch z) nT
  exact ⟨e, C, dd, T, H, rfl, ⟨I.os, I.bare, I.base.stp st I.stkFs fun b hb => by rw [List.mem_singleton.mp hb]; exact n0, I.hok.stp st I.stkFree fun b hb => by rw [List.mem_singleton.mp hb]; exact hn, tr, n0, aT.new, hn, I.hok.off nT, q⟩⟩
theorem fly_next {T : Addr} (I : Inv (cxOf (CX1 P w) P w K mg base N qual scope f cd A outer s₀ H₀ E) pins σ H s) (tr : Tr s.heap e C dd .none T) (n0 : s₀.heap.get? e = none) (nT0 : s₀.heap.get? T = none) (hn : H e = none) (hT : H T = none)
    (q : E (.ref C) dd H) : (cxOf (CX1 P w) P w K mg base N qual scope f cd A outer s₀ H₀ E).xe (.ref e) s := by
  show wpAny _ _ (leaving _ _) _ _ _
  refine leave_next I.ok.frames I.stack rfl tr fun h' T2 st tr2 sz => ?_
  have nT : s.heap.get? T2 = none := Heap.get?_none_of_le sz
  have aT := I.apart (b := T2) (fun z => nomatch z) nT
  have two : ∀ {R : Addr → Prop}, R e → R T → ∀ b ∈ [e, T], R b := fun r1 r2 b hb => by
    rcases List.mem_cons.mp hb with rfl | hb
    · exact r1
    · rw [List.mem_singleton.mp hb]; exact r2
  exact ⟨e, C, dd, T2, H, rfl, ⟨I.os, I.bare, I.base.stp st I.stkFs (two (R := fun b => s₀.heap.get? b = none) n0 nT0), I.hok.stp st I.stkFree (two (R := fun b => H b = none) hn hT), tr2, n0, aT.new, hn, I.hok.off nT, q⟩⟩
/-- an error of a def that is called passes on -/
theorem passX : Passes (CX1 P w) (cxOf (CX1 P w) P w K mg base N qual scope f cd A outer s₀ H₀ E) E := fun pins σ H s v s' I ⟨e, C, dd, T, H', ev, F⟩ => by
  subst ev
  have I' : Inv (cxOf (CX1 P w) P w K mg base N qual scope f cd A outer s₀ H₀ E) pins σ H' s' := I.call' (ch := []) F.os F.un F.hok F.bare (fun b z => nomatch z)
  exact fly_next I' F.tr (I.apart (b := e) (fun z => nomatch z) F.ne).new (I.apart (b := T) (fun z => nomatch z) F.nt).new F.he F.ht F.wish
end
/-! ### raise -/
def Raises (X : Cx) (E : XK) : Prop := ∀ (pins : List (Addr × Obj)) (σ : St) (H : Hp) (s : Shared) (h' : Heap) (e C : Addr) (vs : List Value), Inv X pins σ H s → Heap.MadeExcOf s.heap h' e (.ref C) vs → E (.ref C) none H → X.xe (.ref e) { s with heap := h' }
theorem raisesX {P : Program} {w : World} {K : PySem.W.Frag} {mg : Str → Option Value} {base : Heap} {N : List Str} {qual : Str} {scope : Scope} {f : Addr} {cd : Value} {A : Around} {outer : List Env} {s₀ : Shared} {H₀ : Hp} {E : XK} :
    Raises (cxOf (CX1 P w) P w K mg base N qual scope f cd A outer s₀ H₀ E) E := fun pins σ H s h' e C vs I hm q => by
  obtain ⟨t, he, ht, _⟩ := hm.there
  have I' := I.kept (h' := h') (t' := s.toks) hm.keeps
  exact fly_first I' he rfl (I.apart (b := e) (fun z => nomatch z) hm.new).new (I.hok.off hm.new) q
def tRaise (C : Addr) (E : XK) (t : TA) : TS := fun _ σ H => t σ H fun vs H1 => vs.length ≤ sizeLine ∧ E (.ref C) none H1
theorem ps_raise {X : Cx} {E : XK} {C : Addr} {x : Str} {np cpos pos : Pos} {e : Expr} {es : List Expr} {t : TA} (hX : Raises X E) (hc : X.calm = true) (c : ExC X.K C) (hg : Gl X x) (hm : X.mg x = some (.ref C)) (ha : PA X (e :: es) t)
    (hd : (x == ("__debug__" : Str)) = false := by decide) (he : starEach (e :: es) X.env = (false, eval e X.env) :: starEach es X.env := by rfl) (hpl : (backTo cpos (starEach (e :: es) X.env)).any (·.1) = false := by rfl) :
    PS X (.Raise (some (.Call (.Name x np) (e :: es) [] cpos)) none pos) (tRaise C E t) := by
  intro pins s σ H D I h
  obtain ⟨tl, NN, nm, q, bs, hdct, sn, sub, ab, col, dd, k0, k1, k2, k3, k5, mN, hC, hN, hni, T⟩ := exc_obj I.mod.kin c.exc
  refine wpAny_Raise_call_subT (C := C) (nm := nm) (q := q) (N := NN) (bs := bs) (bm := tl) (hdct := hdct) (sn := sn) (sub := sub) (ab := ab) (col := col) (dd := dd) (k0 := k0) (k1 := k1) (k2 := k2) (k3 := k3) (k5 := k5) (mN := mN)
    PySem.F.excBase_ValueError (T.hasType PySem.F.excBase_ValueError.hasBase) (I.ok.hd hc) hpl hni (ld_glob I hg hm ⟨rfl, ?_⟩ hd)
  have key := ha cpos pins s σ H _ I h
  rw [he] at key ⊢
  refine Calls.evalArgs_plain (thn key fun us s1 ⟨vs, H1, I1, r, hz, q⟩ => ⟨rfl, by rw [← r.length]; exact hz, I1.bk _ _ hC, hN.keeps I1.bk, T.keeps I1.bk, fun h' e' hm' => ?_⟩)
  exact hX pins σ H1 s1 h' e' C us I1 hm' q
/-- THE RULE for a def that may raise -/
theorem callee_mkX {P : Program} {w : World} {K : PySem.W.Frag} {mg : Str → Option Value} {base : Heap} {x : Str} {st : Stmt} {N ps : List Str} {k : Nat} {sp : Sp} (D : DefIn K mg x st) (S : FnScope N ps (defScope st))
    (hb : ∀ (kV doc pm : Value) (an : Option Addr) (cdv ct : Value) (us : List Value), us.length = ps.length → bindArgs (PySem.W.fnOf x x (defArgs st) (defBody st) (defScope st) .none kV doc pm an cdv ct) ⟨us, []⟩ = pure (ps.zip us))
    (len : ∀ vs H Q E, sp vs H Q E → vs.length = ps.length)
    (hbody : ∀ (f : Addr) (cdv : Value) (A : Around) (outer : List Env) (s : Shared) (H : Hp) (vs : List V) (Q : VK) (E : XK), Room k (A.deeper (envOfC x (defScope st) s.heap.objs.size f cdv)) → sp vs H Q E →
      ∃ t, PSs (cxOf (CX1 P w) P w K mg base N x (defScope st) f cdv A outer s H E) (defBody st) t ∧ t { nx := fun _ H' => Q .non H', rt := Q } (start N vs) H) : Callee P w K mg base (CX1 P w) (k + 1) x ps sp := by
  obtain ⟨f, fd, hm, F⟩ := D
  have hbn := F.binds hb
  have hkp := F.kp
  obtain ⟨oc, od, kV, doc, pm, an, cdv, ct, osl, rfl, lk, hcd⟩ := F.ex
  exact ⟨f, _, fn_of lk hcd S len fun A outer s H vs Q E hr hsp => hbody f cdv A outer s H vs Q E hr hsp, hm, hkp, hbn⟩
/-! ### try -/
/-- within an except suite -/
abbrev Cx.held (X : Cx) (e : Addr) : Cx := { X with A := X.A.mark (some (.ref e)), calm := false, xe := fun _ _ => False }
section
variable {X : Cx} {pins : List (Addr × Obj)} {σ : St} {H : Hp} {s : Shared} {e : Addr}
theorem Inv.held (I : Inv X pins σ H s) (e : Addr) : Inv (X.held e) pins σ H s :=
  ⟨⟨I.ok.mod, I.ok.kind, I.ok.glob, I.ok.blt, I.ok.above, I.ok.inj, I.ok.has, I.ok.cab, (fun z => nomatch z), I.ok.frames, I.ok.stk, I.ok.exf, I.ok.bs, I.ok.bsz, I.ok.noex, I.ok.exfs, I.ok.funs, I.ok.frf⟩,
   I.os, I.bare, I.base, I.loc, I.cell, I.free, I.freeC, I.pin, I.hok, I.len⟩
/-- out of an except suite: the marks of X itself are needed again -/
theorem Inv.unheld (ok : X.Ok) (I : Inv (X.held e) pins σ H s) : Inv X pins σ H s := ⟨ok, I.os, I.bare, I.base, I.loc, I.cell, I.free, I.freeC, I.pin, I.hok, I.len⟩
theorem SP.unheld {D : Ends} {fl : Flow} (ok : X.Ok) (h : SP (X.held e) pins D fl s) : SP X pins D fl s := by
  cases fl with
  | next => obtain ⟨σ', H', I, q⟩ := h; exact ⟨σ', H', I.unheld ok, q⟩
  | brk => obtain ⟨σ', H', I, q⟩ := h; exact ⟨σ', H', I.unheld ok, q⟩
  | cont => obtain ⟨σ', H', I, q⟩ := h; exact ⟨σ', H', I.unheld ok, q⟩
  | ret u => obtain ⟨v, σ', H', I, r, q⟩ := h; exact ⟨v, σ', H', I.unheld ok, r, q⟩
end
/-- e is an error of the class at C, its own dict at dd -/
def excO (e C : Addr) (dd : Option Addr) : HO := .ext fun h => ∃ vs, h.get? e = some { cls := .ref C, dict := dd, data := .fields vs }
/-- a name that is unbound behind the suite -/
def Ends.gone (D : Ends) (j : Nat) : Ends := { nx := fun σ H => D.nx (σ.set j none) H, rt := D.rt, bk := fun σ H => D.bk (σ.set j none) H, ct := fun σ H => D.ct (σ.set j none) H }
def PH (X : Cx) (hs : List ExceptHandler) (th : Addr → Option Addr → TS) : Prop :=
  ∀ (pins : List (Addr × Obj)) (s : Shared) (σ : St) (H : Hp) (D : Ends) (e C : Addr) (dd : Option Addr) (T : Addr), Inv X pins σ H s → Tr s.heap e C dd .none T → Apart X pins e → Apart X pins T → H e = none → H T = none → th C dd D σ H →
    wpAny (model X.prog X.w) X.A (handleBy (.ref e) X.env hs) (SP X pins D) X.xe s
def hTest (K : PySem.W.Frag) (c : Addr) (ty tn : Addr → Option Addr → TS) : Addr → Option Addr → TS := fun C dd D σ H => ∃ b, PySem.W.exmOne K (.ref C) (.ref c) = some b ∧ if b = true then ty C dd D σ H else tn C dd D σ H
def hPlain (t : TS) : Addr → Option Addr → TS := fun _ _ D σ H => t D σ H
def hAs (j : Nat) (t : TS) : Addr → Option Addr → TS := fun C dd D σ H => ∀ e, H e = none → t (D.gone j) (σ.set j (some (.ref e))) (upd H e (excO e C dd))
def hNone : Addr → Option Addr → TS := fun _ _ _ _ _ => False
section
variable {X : Cx} {x : Str} {c : Addr} {np pos : Pos} {b₀ : Stmt} {body : List Stmt} {rest : List ExceptHandler} {t : TS} {tr : Addr → Option Addr → TS}
theorem ph_nil : PH X [] hNone := fun _ _ _ _ _ _ _ _ _ _ _ _ _ _ _ h => h.elim
theorem Tr.ty {M : Model} {h : Heap} {e C : Addr} {dd : Option Addr} {fl : Value} {T : Addr} (z : Tr h e C dd fl T) : PySem.W.Looks M h (typeOf (.ref e)) (.ref C) := by
  obtain ⟨vs, _, _, he, _⟩ := z
  exact (PySem.W.Looks.ld he).andThen .now
theorem ph_plain (hg : Gl X x) (hm : X.mg x = some (.ref c)) (hs : ∀ e, PSs (X.held e) (b₀ :: body) t) (hr : PH X rest tr) (hd : (x == ("__debug__" : Str)) = false := by decide) :
    PH X (.ExceptHandler (some (.Name x np)) none (b₀ :: body) pos :: rest) (hTest X.K c (hPlain t) tr) := by
  intro pins s σ H D e C dd T I z ae aT he hT ⟨b, hx, k⟩
  refine wpAny_handleBy_cons (codeAny_handlers_test (ld_glob (I.held e) hg hm ?_ hd)) (fun q => nomatch q)
  refine (PySem.W.exm_one I.kIn z.ty hx).here ?_
  cases b with
  | false => exact hr pins s σ H D e C dd T I z ae aT he hT k
  | true =>
    refine codeAny_handlers_suite (flight_none z fun h' st z' sz => ?_)
    have I1 := I.stp (t' := s.toks) (st.mono (fun _ q => nomatch q) fun _ q => q) (fun b hb => by rw [List.mem_singleton.mp hb]; exact ⟨aT, hT⟩)
    exact wpAny_mono (hs e pins _ σ H D (I1.held e) k) (fun fl s2 q => q.unheld I.ok) fun _ _ q => False.elim q
/-- a local name is unbound -/
theorem Inv.gone {pins : List (Addr × Obj)} {σ : St} {H : Hp} {s : Shared} {h' : Heap} {m : Str → Option Value} {v : Option Value} {n : Str} {j tk : Nat} (I : Inv X pins σ H s) (hN : X.N.Nodup) (hj : X.N[j]? = some n)
    (hl : ∀ (i : Nat) (x : Str) (v : V), X.N[i]? = some x → σ[i]? = some (some v) → Vis X.env.scope x → ∃ u, RelV v u ∧ Look X.env s.heap m x u)
    (hn : h'.Ns X.env.locals (fun x => if x = n then v else m x)) (sb : Heap.SameBut X.env.locals s.heap h') : Inv X pins (σ.set j none) H { s with heap := h', toks := tk } := by
  have neL : ∀ b o, X.s₀.heap.get? b = some o → b ≠ X.env.locals := fun b o e => Nat.ne_of_lt (Nat.lt_of_lt_of_le (Heap.lt_size e) I.ok.above)
  refine ⟨I.ok, I.os, I.bare, ⟨fun b o e n hb hx => (sb.2 b (neL b o e)).trans (I.base.keep b o e n hb hx), fun b o e n hb hx => ?_, I.base.free, fun b o e hx => ?_, I.base.tups, I.base.frzs, I.base.tbls⟩, ⟨_, hn, fun i y w e1 e2 e3 => ?_⟩, fun y c e => ?_, I.free, I.freeC, fun p hp => ?_, fun b ob e => ?_, by simpa using I.len⟩
  · obtain ⟨sl, e1⟩ := I.base.slot b o e n hb hx
    exact ⟨sl, (sb.2 b (neL b o e)).trans e1⟩
  · obtain ⟨o', e1⟩ := I.base.there b o e hx
    exact ⟨o', (sb.2 b (neL b o e)).trans e1⟩
  · by_cases hij : i = j
    · subst hij
      have hi : i < σ.length := by rw [I.len]; exact (List.getElem?_eq_some_iff.mp hj).1
      rw [List.getElem?_set_self hi] at e2
      cases e2
    · rw [List.getElem?_set_ne (Ne.symm hij)] at e2
      obtain ⟨u, ru, lk⟩ := hl i y w e1 e2 e3
      refine ⟨u, ru, ?_⟩
      rcases lk with ⟨k, q⟩ | ⟨k, c, q, z⟩
      · have : y ≠ n := fun z => hij (nodup_ix hN e1 (z ▸ hj))
        exact .inl ⟨k, by simp [this, q]⟩
      · exact .inr ⟨k, c, q, z.sameBut sb (I.cne y c q)⟩
  · obtain ⟨w', z⟩ := I.cell y c e
    exact ⟨w', z.sameBut sb (I.cne y c e)⟩
  · obtain ⟨e, n, ne, nf, d⟩ := I.pin p hp
    exact ⟨(sb.2 p.1 ne).trans e, n, ne, nf, d⟩
  · refine (I.hok b ob e).stay (fun c w' hc q => (sb.2 c fun z => ?_).trans q) (fun _ q => q) fun _ _ q => q
    rw [z] at hc
    rcases hc with hc | hc
    · rw [← hc, I.free] at e; cases e
    · rw [I.free] at hc; cases hc
theorem ph_as {n : Str} {j : Nat} (hN : X.N.Nodup) (hj : X.N[j]? = some n) (hl : X.env.scope.names.lookup n = some .local) (hg : Gl X x) (hm : X.mg x = some (.ref c)) (hs : ∀ e, PSs (X.held e) (b₀ :: body) t) (hr : PH X rest tr)
    (hd : (x == ("__debug__" : Str)) = false := by decide) : PH X (.ExceptHandler (some (.Name x np)) (some n) (b₀ :: body) pos :: rest) (hTest X.K c (hAs j t) tr) := by
  intro pins s σ H D e C dd T I z ae aT he hT ⟨b, hx, k⟩
  refine wpAny_handleBy_cons (codeAny_handlers_test (ld_glob (I.held e) hg hm ?_ hd)) (fun q => nomatch q)
  refine (PySem.W.exm_one I.kIn z.ty hx).here ?_
  cases b with
  | false => exact hr pins s σ H D e C dd T I z ae aT he hT k
  | true =>
    refine codeAny_handlers_suite_as (flight_none z fun h' st z' sz => ?_)
    have I1 := I.stp (t' := s.toks) (st.mono (fun _ q => nomatch q) fun _ q => q) (fun b hb => by rw [List.mem_singleton.mp hb]; exact ⟨aT, hT⟩)
    obtain ⟨vs, _, _, he1, _⟩ := z'
    have I2 := I1.track (φ := fun h => ∃ vs, h.get? e = some { cls := .ref C, dict := dd, data := .fields vs }) ae he ⟨vs, he1⟩ ⟨_, he1⟩ (fun h1 h2 ⟨vs, q⟩ st => ⟨vs, st _ q⟩)
    refine store_ok (X := X.held e) (I2.held e) hN hj (.inl hl) (v := .ref e) rfl (fun s3 I3 => ?_) (.inr hl)
    refine wpAny_mono (hs e pins s3 _ _ (D.gone j) I3 (k e he)) (fun fl s4 q => ?_) fun _ _ q => False.elim q
    have hcls : (X.env.scope.kind == .class || (X.env.scope.kind == .module && X.env.locals != X.env.globals)) = false := by rw [I.ok.kind]; rfl
    have go : ∀ {σ' : St} {H' : Hp}, Inv (X.held e) pins σ' H' s4 → ∀ {R : Unit → Shared → Prop}, (∀ s5, Inv X pins (σ'.set j none) H' s5 → R () s5) → wpAny (model X.prog X.w) X.A (do bindName X.env n .none; unbindBehindTheSuite X.env n pos) R X.xe s4 := fun {σ' H'} I4 {R} r => by
      obtain ⟨m, hn, hlk⟩ := (I4.unheld I.ok).loc
      exact wpAny_nameGoes_keeps hl hn hcls fun h5 v hn5 sb => r _ ((I4.unheld I.ok).gone hN hj hlk hn5 sb)
    cases fl with
    | next => obtain ⟨σ', H', I4, q⟩ := q; exact go I4 fun s5 I5 => ⟨_, H', I5, q⟩
    | brk => obtain ⟨σ', H', I4, q⟩ := q; exact go I4 fun s5 I5 => ⟨_, H', I5, q⟩
    | cont => obtain ⟨σ', H', I4, q⟩ := q; exact go I4 fun s5 I5 => ⟨_, H', I5, q⟩
    | ret u => obtain ⟨v, σ', H', I4, r, q⟩ := q; exact go I4 fun s5 I5 => ⟨v, _, H', I5, r, q⟩
end
section
variable {X : Cx} {pins : List (Addr × Obj)} {σ : St} {H : Hp} {s : Shared} {k j : Nat} {x : Str} {ps : List Str} {sp : Sp} {E : XK} {p pos cpos tpos : Pos} {e : Expr} {es : List Expr} {t : TA} {h₀ : ExceptHandler} {hs : List ExceptHandler} {th : Addr → Option Addr → TS}
theorem ev_callT {Ex : Value → Shared → Prop} {Q : VK} (c : Callee X.prog X.w X.K X.mg X.base (CX1 X.prog X.w) k x ps sp) (hr : Room j X.A) (hk : k ≤ j) (hg : Gl X x) (ha : PA X (e :: es) t) (I : Inv X pins σ H s) (h : t σ H fun vs H1 => sp vs H1 Q E)
    (h0 : ∀ v s', X.xe v s' → Ex v s') (hx : ∀ H1 s1 v s', Inv X pins σ H1 s1 → CX1 X.prog X.w X.stack H1 s1 E v s' → Ex v s')
    (hdb : (x == ("__debug__" : Str)) = false := by decide) (he : starEach (e :: es) X.env = (false, eval e X.env) :: starEach es X.env := by rfl) (hpl : (backTo pos (starEach es X.env)).any (·.1) = false := by rfl) :
    wpAny (model X.prog X.w) X.A (eval (.Call (.Name x p) (e :: es) [] pos) X.env) (EP X pins σ Q) Ex s := by
  obtain ⟨f, fd, F, hm, hkp, hb⟩ := c.ex
  refine wpAny_Call_Name_kw (ld_glob I hg hm ?_ hdb)
  refine PySem.W.callWith_K (h₀ := X.base) I.ok.mod.kin hkp (wpAny_mono (ha pos pins s σ H _ I h) (fun us s1 ⟨vs, H1, I1, r, q⟩ => ⟨I1.kIn, ?_⟩) h0) he hpl
  have hl : us.length = ps.length := by rw [← r.length]; exact F.len _ _ _ _ q
  have hb' := hb s1 us I1.kIn (by rw [List.append_nil]; exact hl)
  rw [List.append_nil] at hb'
  refine wpAny_call (codeAny_mono (F.run X.A X.stack s1 H1 ⟨us, []⟩ us vs Q E (hr.mono hk) I1.env0 hb' r q) fun res s' hq => ?_)
  cases res with
  | error v => exact hx H1 s1 v s' I1 hq
  | ok fl =>
    cases fl with
    | ret u => exact I1.after hq
    | next => exact False.elim hq
    | brk => exact False.elim hq
    | cont => exact False.elim hq
/-- from an error that came to the handlers -/
theorem try_land {D : Ends} {H1 : Hp} {s1 s' : Shared} {v : Value} (hh : PH X (h₀ :: hs) th) (hex : X.ex = []) (hst : X.stack = X.env :: X.outer ∧ X.env.frame = some X.env.locals) (I1 : Inv X pins σ H1 s1)
    (z : CX1 X.prog X.w X.stack H1 s1 (fun c dd H2 => ∃ C, c = .ref C ∧ th C dd D σ H2) v s') :
    wpAny (model X.prog X.w) X.A (noteFrame v X.env) (fun _ s₂ => wpAny (model X.prog X.w) X.A (setFlight v none) (fun _ s₃ => wpAny (model X.prog X.w) X.A (handleBy v X.env (h₀ :: hs)) (SP X pins D) X.xe s₃) X.xe s₂) X.xe s' := by
  obtain ⟨e, C, dd, T, H', rfl, F⟩ := z
  have I' : Inv X pins σ H' s' := I1.call' (ch := []) F.os F.un F.hok F.bare (fun b z => nomatch z)
  have nx : ∀ b : Addr, b ∉ X.ex := fun b q => by rw [hex] at q; cases q
  have ae := I1.apart (nx e) F.ne
  have aT := I1.apart (nx T) F.nt
  obtain ⟨C', hC', k⟩ := F.wish
  cases hC'
  have hfr : X.A.frames = some (X.env :: X.outer) := by rw [← hst.1]; exact I'.ok.frames
  have hl : s'.heap.FunFrames X.base (X.env :: X.outer) := by rw [← hst.1]; exact I'.stack
  refine note_next hfr hl hst.2 F.tr fun h2 T2 st z2 sz => ?_
  have nT2 : s'.heap.get? T2 = none := Heap.get?_none_of_le sz
  have aT2 := I'.apart (nx T2) nT2
  have hT2 := I'.hok.off nT2
  rw [← hst.1] at st
  have I2 := I'.stp (t' := s'.toks) st (fun b hb => by
    rcases List.mem_cons.mp hb with rfl | hb
    · exact ⟨ae, F.he⟩
    · rw [List.mem_singleton.mp hb]; exact ⟨aT, F.ht⟩)
  refine flight_none (s := { s' with heap := h2 }) z2 fun h3 st3 z3 sz3 => ?_
  have I3 := I2.stp (t' := s'.toks) (st3.mono (fun _ q => nomatch q) fun _ q => q) (fun b hb => by rw [List.mem_singleton.mp hb]; exact ⟨aT2, hT2⟩)
  exact hh pins _ σ H' D e C dd T2 I3 z3 ae aT2 F.he hT2 k
def tTryE (sp : Sp) (t : TA) (th : Addr → Option Addr → TS) : TS := fun D σ H => t σ H fun vs H1 => sp vs H1 (fun _ H2 => D.nx σ H2) (fun c dd H2 => ∃ C, c = .ref C ∧ th C dd D σ H2)
theorem ps_tryE (c : Callee X.prog X.w X.K X.mg X.base (CX1 X.prog X.w) k x ps sp) (hr : Room j X.A) (hk : k ≤ j) (hg : Gl X x) (ha : PA X (e :: es) t) (hh : PH X (h₀ :: hs) th) (h0 : ∀ v s', X.xe v s' → False) (hex : X.ex = []) (hst : X.stack = X.env :: X.outer ∧ X.env.frame = some X.env.locals)
    (hs' : swapsWith (.Call (.Name x p) (e :: es) [] pos) none cpos.line X.env = pure false := by rfl) (hdb : (x == ("__debug__" : Str)) = false := by decide) (he : starEach (e :: es) X.env = (false, eval e X.env) :: starEach es X.env := by rfl) (hpl : (backTo pos (starEach es X.env)).any (·.1) = false := by rfl) :
    PS X (.Try [.Expr (.Call (.Name x p) (e :: es) [] pos) cpos] (h₀ :: hs) [] [] tpos) (tTryE sp t th) := by
  intro pins s σ H D I h
  refine wpAny_Try_except (wpAny_execs_cons (wpAny_Expr_any (thn (ev_callT c hr hk hg ha I h (fun v s' z => (h0 v s' z).elim) (fun H1 s1 v s' I1 z => try_land hh hex hst I1 z) hdb he hpl) fun v s1 ⟨y, H1, I1, r1, q1⟩ => ?_) I.quiet hs'))
  exact wpAny_execs_nil (wpAny_execs_nil ⟨σ, H1, I1, q1⟩)
def tTryS (i : Nat) (sp : Sp) (t : TA) (th : Addr → Option Addr → TS) : TS := fun D σ H => t σ H fun vs H1 => sp vs H1 (fun v H2 => D.nx (σ.set i (some v)) H2) (fun c dd H2 => ∃ C, c = .ref C ∧ th C dd D σ H2)
theorem ps_tryS {i : Nat} {y : Str} {py : Pos} (hN : X.N.Nodup) (hi : X.N[i]? = some y) (hy : Loc X.env.scope y) (c : Callee X.prog X.w X.K X.mg X.base (CX1 X.prog X.w) k x ps sp) (hr : Room j X.A) (hk : k ≤ j) (hg : Gl X x) (ha : PA X (e :: es) t) (hh : PH X (h₀ :: hs) th) (h0 : ∀ v s', X.xe v s' → False) (hex : X.ex = []) (hst : X.stack = X.env :: X.outer ∧ X.env.frame = some X.env.locals)
    (hs' : swapsWith (.Call (.Name x p) (e :: es) [] pos) (some (.Name y py)) cpos.line X.env = pure false := by rfl) (hf : X.fn y = true ∨ X.env.scope.names.lookup y = some .local := by first | exact .inl rfl | exact .inr rfl | assumption) (hdb : (x == ("__debug__" : Str)) = false := by decide)
    (he : starEach (e :: es) X.env = (false, eval e X.env) :: starEach es X.env := by rfl) (hpl : (backTo pos (starEach es X.env)).any (·.1) = false := by rfl) :
    PS X (.Try [.Assign [.Name y py] (.Call (.Name x p) (e :: es) [] pos) cpos] (h₀ :: hs) [] [] tpos) (tTryS i sp t th) := by
  intro pins s σ H D I h
  refine wpAny_Try_except (wpAny_execs_cons (wpAny_Assign_Name (thn (ev_callT c hr hk hg ha I h (fun v s' z => (h0 v s' z).elim) (fun H1 s1 v s' I1 z => try_land hh hex hst I1 z) hdb he hpl) fun v s1 ⟨z, H1, I1, r1, q1⟩ => ?_) hs'))
  exact store_ok I1 hN hi hy r1 (fun s2 I2 => wpAny_execs_nil (wpAny_execs_nil ⟨_, H1, I2, q1⟩)) hf
end
end L2

set_option Elab.async false
set_option linter.all false
set_option maxRecDepth 100000
/-! Over the hand layer: isinstance and attributes of an error that was taken. -/
namespace L2
open PySem PySem.Spec PyProof.Rows
/-- what the text's own error class has of Python's -/
structure ExK (K : PySem.W.Frag) (C : Addr) : Prop where
  ga : PySem.W.findIn K (.ref C) "__getattribute__" = some (some (.builtin "BaseException.__getattribute__"))
  gh : PySem.W.findIn K (.ref C) "__getattr__" = some none
  cl : PySem.W.findIn K (.ref C) "__class__" = some (some (.builtin "object.__class__"))
  sg : PySem.W.specialIn K (.builtin "object.__class__") "__get__" = some (some (.builtin "getset_descriptor.__get__"))
  tk : PySem.W.takesIn K (.builtin "object.__class__") = some true
  mo : PySem.W.mroIn K C (.type "object") = some true
  mb : PySem.W.mroIn K C (.type "BaseException") = some true
  cs : (PySem.W.clsIn K C).isSome = true
section
open PySem.W
variable {prog : Program} {w : World} {A : Around} {E : Value → Shared → Prop} {h : Heap} {g : Array GenState} {d : Drawn} {t : Nat} {os : OsState} {K : Frag} {e C : Addr} {ox : Obj} {od : Option Obj} {name : Str}
theorem exc_find_class (k : ExK K C) : findObj K C od "__class__" = some (.bind (.builtin "getset_descriptor.__get__") (.builtin "object.__class__")) := by
  obtain ⟨cd, hc⟩ := Option.isSome_iff_exists.mp k.cs
  unfold findObj
  rw [hc, Option.bind_some, k.cl, Option.bind_some]
  simp [k.sg, k.tk]
theorem exc_check {tk : Tok} {Q : Unit → Shared → Prop} (X : K.In h) (I : InstAt h e ox C od) (k : ExK K C) (hq : Q () ⟨h, g, d, t, os⟩) :
    wpAny (model prog w) A (checkBuiltinCall "BaseException.__getattribute__" ⟨[.ref e, .str name tk], []⟩) Q E ⟨h, g, d, t, os⟩ := by
  have z1 : builtinKind "BaseException.__getattribute__" = some .slot := by decide +kernel
  have z2 : splitId "BaseException.__getattribute__" = some ("BaseException", "__getattribute__") := by decide +kernel
  have L0 := I.type (M := model prog w)
  have L1 := looks_mroIn (M := model prog w) X k.mb
  have z3 := PySem.F.args_bexc_ga (.ref e) (.str name tk)
  simp only [checkBuiltinCall, z1, z2]
  refine wpAny_bind ?_
  unfold isInstance
  repeat (first | with_reducible refine Looks.at (by assumption) ?_ | wp_step)
  exact hq
/-- the call of BaseException's own __getattribute__ -/
theorem exc_ga {R : Result → Shared → Prop} {tk : Tok} (X : K.In h) (I : InstAt h e ox C od) (k : ExK K C)
    (hb : wpAny (model prog w) A.in1 (Builtin.«object.__getattribute__» ⟨[.ref e, .str name tk], []⟩) (fun fin s' => match fin with | .done f => R (.ok f) s' | .again c' => c'.quiet = true ∧ codeAny (model prog w) A c' R s') (fun x s' => R (.error x) s') ⟨h, g, d, t, os⟩) :
    codeAny (model prog w) A (.call (.builtin "BaseException.__getattribute__") ⟨[.ref e, .str name tk], []⟩) R ⟨h, g, d, t, os⟩ :=
  codeAny_call_builtin PySem.F.excAttr_ValueError.ga.plain PySem.F.entry_bexc_ga (exc_check X I k hb)
theorem exc_entry_bind {a f : Value} {tk : Tok} {P : Value → Shared → Prop} {Q : Fin → Shared → Prop} (X : K.In h) (I : InstAt h e ox C od) (hf : findObj K C od name = some (.bind f a)) (hq : ∀ v s', P v s' → Q (.done (.ret v)) s')
    (hc : wpAny (model prog w) A (call f [a, .ref e, .ref C]) P E ⟨h, g, d, t, os⟩) :
    wpAny (model prog w) A (Builtin.«object.__getattribute__» ⟨[.ref e, .str name tk], []⟩) Q E ⟨h, g, d, t, os⟩ := by
  have L0 := I.type (M := model prog w)
  have L1 := looks_find (M := model prog w) X I hf
  unfold Builtin.«object.__getattribute__»
  refine wpAny_bind (wpAny_of_eq (a := (Value.ref e, [Value.str name tk])) rfl ?_)
  refine wpAny_bind (wpAny_of_eq (a := name) rfl ?_)
  refine wpAny_bind (L0.at (wpAny_bind (L1.at ?_)))
  show wpAny _ _ (holding [a] (call f [a, .ref e, .ref C]) >>= ret) _ _ _
  exact wpAny_bind (wpAny_holding (thn hc fun v s' z => wpAny_pure (hq v s' z)))
theorem exc_entry_value {v : Value} {tk : Tok} {Q : Fin → Shared → Prop} (X : K.In h) (I : InstAt h e ox C od) (hf : findObj K C od name = some (.value v)) (hq : Q (.done (.ret v)) ⟨h, g, d, t, os⟩) :
    wpAny (model prog w) A (Builtin.«object.__getattribute__» ⟨[.ref e, .str name tk], []⟩) Q E ⟨h, g, d, t, os⟩ := by
  have L0 := I.type (M := model prog w)
  have L1 := looks_find (M := model prog w) X I hf
  unfold Builtin.«object.__getattribute__»
  refine wpAny_bind (wpAny_of_eq (a := (Value.ref e, [Value.str name tk])) rfl ?_)
  refine wpAny_bind (wpAny_of_eq (a := name) rfl ?_)
  exact wpAny_bind (L0.at (wpAny_bind (L1.at (wpAny_pure hq))))
/-- getAttrBy, by the call of __getattribute__ -/
theorem exc_by {tk : Tok} {fill expr : Bool} {Q : Value → Shared → Prop} (X : K.In h) (I : InstAt h e ox C od) (k : ExK K C)
    (hc : wpAny (model prog w) A (call (.builtin "BaseException.__getattribute__") [.ref e, .str name tk]) (fun v s' => handedIn v = true ∧ Q v s') (fun _ _ => False) ⟨h, g, d, t, os⟩) :
    wpAny (model prog w) A (getAttrBy (.ref e) (.str name tk) fill expr) Q E ⟨h, g, d, t, os⟩ := by
  have L0 := I.type (M := model prog w)
  have L1 := looks_findIn (M := model prog w) X k.ga
  have L2 := looks_findIn (M := model prog w) X k.gh
  have z1 : (Value.builtin "BaseException.__getattribute__" == Value.builtin "object.__getattribute__") = false := by decide +kernel
  have z2 := PySem.F.excAttr_ValueError.ga.bind (.ref e)
  unfold getAttrBy
  refine wpAny_holding (wpAny_bind (L0.at (wpAny_bind (L1.at ?_))))
  show wpAny _ _ (if (true && (Value.builtin "BaseException.__getattribute__" == Value.builtin "object.__getattribute__")) = true then _ else _) _ _ _
  rw [z1]
  show wpAny _ _ (getAttrByItsOwn _ _ _ _ _ _) _ _ _
  unfold getAttrByItsOwn hookBefore
  refine wpAny_bind (L2.at ?_)
  refine wpAny_bind (wpAny_attempt (wpAny_holding ?_))
  unfold callGetattribute
  have z3 : (expr && onTheHeap (Value.builtin "BaseException.__getattribute__")) = false := by cases expr <;> rfl
  rw [z3]
  show wpAny _ _ (boundAndCalled _ _ _) _ _ _
  unfold boundAndCalled
  rw [z2]
  refine wpAny_bind (wpAny_pure ?_)
  exact wpAny_mono hc (fun v s' z => handed_on z.1 z.2) fun _ _ z => z.elim
theorem exc_class {Q : Option Value → Shared → Prop} (X : K.In h) (I : InstAt h e ox C od) (k : ExK K C) (hq : Q (some (.ref C)) ⟨h, g, d, t + 1, os⟩) : wpAny (model prog w) A (getAttr? (.ref e) "__class__") Q E ⟨h, g, d, t, os⟩ := by
  unfold getAttr? getAttrBy?
  refine wpAny_bind (wpAny_mkText (wpAny_bind (wpAny_attempt ?_)))
  refine exc_by X I k (wpAny_call (exc_ga X I k (exc_entry_bind (P := fun v s' => v = .ref C ∧ s' = ⟨h, g, d, t + 1, os⟩) X I (exc_find_class k) (fun v s' z => ?_) (wpAny_call (class_get (s := ⟨h, g, d, t + 1, os⟩) (ox := ox) (od := od) X I k.mo ⟨rfl, rfl⟩)))))
  obtain ⟨rfl, rfl⟩ := z
  exact ⟨rfl, wpAny_pure hq⟩
theorem exc_kit (k : ExK K C) : KitX K (.ref e) (.ref C) (fun h => ∃ ox od, InstAt h e ox C od) where
  ty := fun _ _ _ ⟨_, _, I⟩ => I.type
  it := fun M h X _ => by
    obtain ⟨cd, hc⟩ := Option.isSome_iff_exists.mp k.cs
    unfold clsIn at hc
    split at hc
    · rename_i ho
      intro A' Q' E' s' kk q
      unfold isType loadHead
      exact wpAny_bind (wpAny_loadPart (kk _ _ (X _ _ ho)) (wpAny_pure q))
    · cases hc
  ne := fun h tp dd its n sl X e' => by
    obtain ⟨cd, hc⟩ := Option.isSome_iff_exists.mp k.cs
    unfold clsIn at hc
    split at hc
    · rename_i ho
      refine Bool.eq_false_iff.mpr fun q => ?_
      cases beq_iff_eq.mp q
      have := X _ _ ho
      rw [e'] at this
      cases this
    · cases hc
  ca := fun {_ _ _ _ _ s} X ⟨_, _, I⟩ kk => by
    obtain ⟨hh, g, d, t, os⟩ := s
    exact exc_class X I k kk
end
section
variable {X : Cx}
theorem inst_of {h : Heap} {e C : Addr} {vs : Array Value} (he : h.get? e = some { cls := .ref C, dict := none, data := .fields vs }) : PySem.W.InstAt h e { cls := .ref C, dict := none, data := .fields vs } C none := ⟨he, rfl, rfl, trivial⟩
/-- isinstance of an error that was taken -/
theorem call_isinstX : CallR X (.builtin "isinstance") (fun xs H Q => ∃ e C dd c cv b, xs = [.ref e, c] ∧ RelV c cv ∧ (∀ u, RelV c u → u = cv) ∧ H e = some (excO e C dd) ∧ dd = none ∧ ExK X.K C ∧ PySem.W.kitOne X.K (.ref C) cv = some b ∧ Q (.bl b) H) := by
  intro pins s σ H xs us Q I r h
  obtain ⟨e, C, dd, c, cv, b, rfl, rc, huq, he, rfl, k, hk, q⟩ := h
  obtain ⟨u, v, rfl, rx, rv⟩ := vals2 r
  obtain rfl := huq v rv
  cases rx
  obtain ⟨⟨vs, hv⟩, _, _⟩ := (show ObjOk X.prog X.w H s.heap e (excO e C none) from I.hok e _ he)
  exact PySem.W.kia_one (exc_kit k) I.kIn ⟨_, _, inst_of hv⟩ hk (fun z => nomatch z) fun tk => ⟨.bl b, H, I.tok tk, rfl, q⟩
/-- the same with K said (within an except suite) -/
theorem call_isinstXK {K : PySem.W.Frag} (hK : X.K = K) : CallR X (.builtin "isinstance") (fun xs H Q => ∃ e C dd c cv b, xs = [.ref e, c] ∧ RelV c cv ∧ (∀ u, RelV c u → u = cv) ∧ H e = some (excO e C dd) ∧ dd = none ∧ ExK K C ∧ PySem.W.kitOne K (.ref C) cv = some b ∧ Q (.bl b) H) := by
  subst hK
  exact call_isinstX
end
end L2

set_option Elab.async false
set_option linter.all false
set_option maxRecDepth 100000
/-! Over the hand layer: small rules more. -/
namespace L2
open PySem PySem.Spec PyProof.Rows
/-- an own error class by its name -/
structure Er (K : PySem.W.Frag) (mg : Str → Option Value) (x : Str) (C : Addr) : Prop where
  mg : mg x = some (.ref C)
structure ErX (K : PySem.W.Frag) (mg : Str → Option Value) (x : Str) (C : Addr) : Prop extends Er K mg x C where
  exc : ExC K C
/-- «if c: body», its two ways joined: P is true behind both -/
theorem if_join {b : Bool} {t : TS} {rt : VK} {bk ct R : St → Hp → Prop} {σ : St} {H : Hp} (P : St → Hp → Prop) (h1 : b = true → ∀ R' : St → Hp → Prop, (∀ σ' H', P σ' H' → R' σ' H') → t (Ends.mk R' rt bk ct) σ H) (h2 : b = false → P σ H)
    (h3 : ∀ σ' H', P σ' H' → R σ' H') : if b = true then t (Ends.mk R rt bk ct) σ H else R σ H := by
  cases b with
  | true => exact iteT (h1 rfl R h3)
  | false => exact iteF (h3 _ _ (h2 rfl))
section
variable {X : Cx}
/-- x is True, x is False -/
theorem op_isB : OpR X (compareOp .Is) (fun x y H Q => ∃ a b, x = .bl a ∧ y = .bl b ∧ Q (.bl (decide (a = b))) H) := by
  intro pins s σ H x y v u Q I rx ry h
  obtain ⟨a, b, rfl, rfl, q⟩ := h
  cases rx
  cases ry
  show wpAny _ _ (do return Value.bool (← isSame (.bool a) (.bool b))) _ _ _
  unfold isSame
  cases a <;> cases b <;> (refine wpAny_bind (wpAny_pure (wpAny_pure ⟨_, H, I, ?_, q⟩)); rfl)
end
/-- the five classes of refusals: x the one that is raised, y1 y2 y3 the others -/
structure Errs (K : PySem.W.Frag) (mg : Str → Option Value) (x y1 y2 y3 : Str) (c d1 d2 d3 cp : Addr) : Prop where
  rx : ErX K mg x c
  r1 : Er K mg y1 d1
  r2 : Er K mg y2 d2
  r3 : Er K mg y3 d3
  rp : Er K mg "PurseError" cp
  kx : ExK K c
  xp : PySem.W.exmOne K (.ref c) (.ref cp) = some true
  xs : PySem.W.exmOne K (.ref c) (.ref c) = some true
  x1 : PySem.W.exmOne K (.ref c) (.ref d1) = some false
  x2 : PySem.W.exmOne K (.ref c) (.ref d2) = some false
  x3 : PySem.W.exmOne K (.ref c) (.ref d3) = some false
  k1 : PySem.W.kitOne K (.ref c) (.ref d1) = some false
  k2 : PySem.W.kitOne K (.ref c) (.ref d2) = some false
  k3 : PySem.W.kitOne K (.ref c) (.ref d3) = some false
  ks : PySem.W.kitOne K (.ref c) (.ref c) = some true
  kv : PySem.W.kitOne K (.ref c) (.type "ValueError") = some true
  ve : mg "ValueError" = none
theorem errs_mk {K : PySem.W.Frag} {h : Heap} {mg : Str → Option Value} {x y1 y2 y3 : Str} {c d1 d2 d3 cp : Addr} (X : K.In h) (G : h.Ns mainGlobals mg)
    (a0 : PySem.W.nsIn K mainGlobals x = some (some (.ref c))) (a1 : PySem.W.nsIn K mainGlobals y1 = some (some (.ref d1))) (a2 : PySem.W.nsIn K mainGlobals y2 = some (some (.ref d2))) (a3 : PySem.W.nsIn K mainGlobals y3 = some (some (.ref d3))) (a4 : PySem.W.nsIn K mainGlobals "PurseError" = some (some (.ref cp))) (a5 : PySem.W.nsIn K mainGlobals "ValueError" = some none)
    (b0 : PySem.W.excIn K c bmVE "ValueError.__new__" = true) (b1 : PySem.W.findIn K (.ref c) "__getattribute__" = some (some (.builtin "BaseException.__getattribute__"))) (b2 : PySem.W.findIn K (.ref c) "__getattr__" = some none) (b3 : PySem.W.findIn K (.ref c) "__class__" = some (some (.builtin "object.__class__")))
    (b4 : PySem.W.specialIn K (.builtin "object.__class__") "__get__" = some (some (.builtin "getset_descriptor.__get__"))) (b5 : PySem.W.takesIn K (.builtin "object.__class__") = some true) (b6 : PySem.W.mroIn K c (.type "object") = some true) (b7 : PySem.W.mroIn K c (.type "BaseException") = some true) {cd : ClassData} (b8 : PySem.W.clsIn K c = some cd)
    (m0 : PySem.W.exmOne K (.ref c) (.ref cp) = some true) (m1 : PySem.W.exmOne K (.ref c) (.ref c) = some true) (m2 : PySem.W.exmOne K (.ref c) (.ref d1) = some false) (m3 : PySem.W.exmOne K (.ref c) (.ref d2) = some false) (m4 : PySem.W.exmOne K (.ref c) (.ref d3) = some false)
    (n1 : PySem.W.kitOne K (.ref c) (.ref d1) = some false) (n2 : PySem.W.kitOne K (.ref c) (.ref d2) = some false) (n3 : PySem.W.kitOne K (.ref c) (.ref d3) = some false) (n4 : PySem.W.kitOne K (.ref c) (.ref c) = some true) (n5 : PySem.W.kitOne K (.ref c) (.type "ValueError") = some true) :
    ∃ c d1 d2 d3 cp, Errs K mg x y1 y2 y3 c d1 d2 d3 cp :=
  ⟨c, d1, d2, d3, cp, ⟨⟨PySem.W.mg_of X G a0⟩, ⟨b0⟩⟩, ⟨PySem.W.mg_of X G a1⟩, ⟨PySem.W.mg_of X G a2⟩, ⟨PySem.W.mg_of X G a3⟩, ⟨PySem.W.mg_of X G a4⟩, ⟨b1, b2, b3, b4, b5, b6, b7, by rw [b8]; rfl⟩, m0, m1, m2, m3, m4, n1, n2, n3, n4, n5, PySem.W.mg_none_of X G a5⟩
/-- two classes alone: x that is raised, PurseError -/
structure Errs2 (K : PySem.W.Frag) (mg : Str → Option Value) (x : Str) (c cp : Addr) : Prop where
  rx : ErX K mg x c
  rp : Er K mg "PurseError" cp
  kx : ExK K c
  xp : PySem.W.exmOne K (.ref c) (.ref cp) = some true
  ks : PySem.W.kitOne K (.ref c) (.ref c) = some true
theorem errs2_mk {K : PySem.W.Frag} {h : Heap} {mg : Str → Option Value} {x : Str} {c cp : Addr} (X : K.In h) (G : h.Ns mainGlobals mg)
    (a0 : PySem.W.nsIn K mainGlobals x = some (some (.ref c))) (a4 : PySem.W.nsIn K mainGlobals "PurseError" = some (some (.ref cp)))
    (b0 : PySem.W.excIn K c bmVE "ValueError.__new__" = true) (b1 : PySem.W.findIn K (.ref c) "__getattribute__" = some (some (.builtin "BaseException.__getattribute__"))) (b2 : PySem.W.findIn K (.ref c) "__getattr__" = some none) (b3 : PySem.W.findIn K (.ref c) "__class__" = some (some (.builtin "object.__class__")))
    (b4 : PySem.W.specialIn K (.builtin "object.__class__") "__get__" = some (some (.builtin "getset_descriptor.__get__"))) (b5 : PySem.W.takesIn K (.builtin "object.__class__") = some true) (b6 : PySem.W.mroIn K c (.type "object") = some true) (b7 : PySem.W.mroIn K c (.type "BaseException") = some true) {cd : ClassData} (b8 : PySem.W.clsIn K c = some cd)
    (m0 : PySem.W.exmOne K (.ref c) (.ref cp) = some true) (n4 : PySem.W.kitOne K (.ref c) (.ref c) = some true) : ∃ c cp, Errs2 K mg x c cp :=
  ⟨c, cp, ⟨⟨PySem.W.mg_of X G a0⟩, ⟨b0⟩⟩, ⟨PySem.W.mg_of X G a4⟩, ⟨b1, b2, b3, b4, b5, b6, b7, by rw [b8]; rfl⟩, m0, n4⟩
/-- the item of a list of ints, of refs -/
theorem int_item {ns : List Int} {i : Nat} {x : V} (h : (ns.map V.int)[i]? = some x) : ∃ z, ns[i]? = some z ∧ x = V.int z := by
  rw [List.getElem?_map] at h
  cases e : ns[i]? with
  | none => rw [e] at h; cases h
  | some z => rw [e] at h; exact ⟨z, rfl, (Option.some.inj h).symm⟩
theorem ref_item {ps : List Addr} {i : Nat} {x : V} (h : (ps.map V.ref)[i]? = some x) : ∃ z, ps[i]? = some z ∧ x = V.ref z := by
  rw [List.getElem?_map] at h
  cases e : ps[i]? with
  | none => rw [e] at h; cases h
  | some z => rw [e] at h; exact ⟨z, rfl, (Option.some.inj h).symm⟩
theorem atI_ref {ps : List Addr} {k : Nat} {z : Addr} (h : ps[k]? = some z) : atI (ps.map V.ref) (k : Int) = some (.ref z) := atI_nat (by rw [List.getElem?_map, h]; rfl)
/-- an index that is a rest: nat and below -/
theorem rest_nat {a : Int} {n : Nat} (hn : 0 < n) : ∃ j : Nat, a % (n : Int) = (j : Int) ∧ j < n := by
  have h0 : 0 ≤ a % (n : Int) := Int.emod_nonneg _ (by omega)
  have h1 : a % (n : Int) < n := Int.emod_lt_of_pos _ (by omega)
  obtain ⟨j, hj⟩ := Int.eq_ofNat_of_zero_le h0
  exact ⟨j, hj, by omega⟩
end L2

set_option Elab.async false
set_option linter.all false
set_option maxRecDepth 100000
/-! Over the hand layer: for a, b in zip(x, y). -/
namespace L2
open PySem PySem.Spec PyProof.Rows
/-- untracked records of ours at ch have turned, a tuple is laid and tracked -/
theorem Inv.turnedT {X : Cx} {pins : List (Addr × Obj)} {σ : St} {H : Hp} {s : Shared} {h' : Heap} {ch : List Addr} {T : Addr} {o : HO} {t' : Nat} (I : Inv X pins σ H s)
    (k : ∀ b o, b ∉ ch → s.heap.get? b = some o → h'.get? b = some o) (hf : ∀ b ∈ ch, FpOk X pins H b) (hch : ∀ b ∈ ch, ∃ o, h'.get? b = some o) (hT : s.heap.objs.size ≤ T) (new : ObjOk X.prog X.w (upd H T o) h' T o) : Inv X pins σ (upd H T o) { s with heap := h', toks := t' } := by
  have hn : H T = none := I.hok.fresh hT
  have nT : ∀ b u, s.heap.get? b = some u → b ≠ T := fun b u e => Nat.ne_of_lt (Nat.lt_of_lt_of_le (Heap.lt_size e) hT)
  have nit : ∀ b u, H b = some u → b ∉ ch := fun b u e hb => by
    rw [(hf b hb).1] at e
    cases e
  refine I.step (g' := s.gens) (d' := s.drawn) (ch := ch) (fun b hb => ?_) (fun b o _ _ hc e _ => k b o hc e) (fun b o _ _ hc e _ => ⟨o.slots, k b o hc e⟩) (fun b u _ e n => by rw [upd_ne (nT b u e)]; exact n)
    (fun b u hc e => ⟨u, k b u hc e⟩) (fun b xs e => by rw [upd_ne (ne_of_none e hn)]; exact e) (fun b u v e => by rw [upd_ne (ne_of_none e hn)]; exact e) (fun b ps e => ⟨#[], by rw [upd_ne (ne_of_none e hn), e]; simp⟩) (fun m hm => ?_) (fun b u e => ?_) I.bare
  · obtain ⟨_, f1, _, f3, f4, f5⟩ := hf b hb
    exact ⟨f3, f1, f4, f5⟩
  · obtain ⟨o, es, ep, ho, r⟩ := hm
    exact ⟨o, es, ep, k _ o (fun hb => (hf _ hb).2.1 rfl) ho, r⟩
  · by_cases hb : b = T
    · subst hb
      rw [upd_same] at e
      cases e
      exact new
    · rw [upd_ne hb] at e
      refine (I.hok b u e).stay (fun c v hc q => k c v ?_ q) (fun c q => by rw [upd_ne (ne_of_none q hn)]; exact q) fun c xs q => by rw [upd_ne (ne_of_none q hn)]; exact q
      rcases hc with z | z
      · rw [z]
        exact nit b u e
      · exact nit c _ z
theorem Inv.turnedN {X : Cx} {pins : List (Addr × Obj)} {σ : St} {H : Hp} {s : Shared} {h' : Heap} {ch : List Addr} {t' : Nat} (I : Inv X pins σ H s)
    (k : ∀ b o, b ∉ ch → s.heap.get? b = some o → h'.get? b = some o) (hf : ∀ b ∈ ch, FpOk X pins H b) : Inv X pins σ H { s with heap := h', toks := t' } := by
  have nit : ∀ b u, H b = some u → b ∉ ch := fun b u e hb => by
    rw [(hf b hb).1] at e
    cases e
  refine I.step (g' := s.gens) (d' := s.drawn) (ch := ch) (fun b hb => ?_) (fun b o _ _ hc e _ => k b o hc e) (fun b o _ _ hc e _ => ⟨o.slots, k b o hc e⟩) (fun b u _ e n => n)
    (fun b u hc e => ⟨u, k b u hc e⟩) (fun _ _ e => e) (fun _ _ _ e => e) (fun b ps e => ⟨#[], by rw [e]; simp⟩) (fun m hm => ?_) (fun b u e => ?_) I.bare
  · obtain ⟨_, f1, _, f3, f4, f5⟩ := hf b hb
    exact ⟨f3, f1, f4, f5⟩
  · obtain ⟨o, es, ep, ho, r⟩ := hm
    exact ⟨o, es, ep, k _ o (fun hb => (hf _ hb).2.1 rfl) ho, r⟩
  · refine (I.hok b u e).stay (fun c v hc q => k c v ?_ q) (fun _ q => q) fun _ _ q => q
    rcases hc with z | z
    · rw [z]
      exact nit b u e
    · exact nit c _ z
/-- zip of the lists at a and b: turn by turn a new tuple -/
def Itz (K : PySem.W.Frag) (a b : Addr) : It :=
  ⟨fun i H => ∃ xs ys x y, SqL K H a xs ∧ SqL K H b ys ∧ xs[i]? = some x ∧ ys[i]? = some y,
   fun i H v H' => ∃ p x y, H p = none ∧ v = .ref p ∧ H' = upd H p (.tup [x, y]) ∧ (∀ xs, SqL K H a xs → xs[i]? = some x) ∧ ∀ ys, SqL K H b ys → ys[i]? = some y,
   fun i H => ∃ xs ys, SqL K H a xs ∧ SqL K H b ys ∧ (xs.length ≤ i ∨ ys.length ≤ i)⟩
theorem turn_zip {P : Program} {w : World} {K : PySem.W.Frag} {elts : List Expr} {x1} {tpos : Pos} (a b z TI TO i1 i2 : Addr) (D : ZipApart z TI TO i1 i2 a b) : Turn P w K (.Tuple elts x1 tpos) (Itz K a b) [z, TI, TO, i1, i2] z
    (fun i h => IsZip h z TI TO .none ∧ IsPair h TI (.ref i1) (.ref i2) ∧ (∃ u v, IsPair h TO u v) ∧ h.IsListIter i1 a i ∧ h.IsListIter i2 b i) where
  mem := by simp
  obj := fun i h st c hc => by
    obtain ⟨hz, hTI, ⟨u, v, hTO⟩, ⟨o1, e1, c1, d1⟩, ⟨o2, e2, c2, d2⟩⟩ := st
    simp only [List.mem_cons, List.not_mem_nil, or_false] at hc
    rcases hc with rfl | rfl | rfl | rfl | rfl
    · exact ⟨_, hz, fun v z => by cases (show Data.fields _ = Data.cell v from z)⟩
    · exact ⟨_, hTI, fun v z => by cases (show Data.seq _ _ = Data.cell v from z)⟩
    · exact ⟨_, hTO, fun v z => by cases (show Data.seq _ _ = Data.cell v from z)⟩
    · exact ⟨o1, e1, fun v z => by rw [d1] at z; cases z⟩
    · exact ⟨o2, e2, fun v z => by rw [d2] at z; cases z⟩
  keep := fun i h h' st k => by
    obtain ⟨hz, hTI, ⟨u, v, hTO⟩, h1, h2⟩ := st
    exact ⟨k z (by simp) _ hz, k TI (by simp) _ hTI, ⟨u, v, k TO (by simp) _ hTO⟩, h1.at fun o e => k i1 (by simp) o e, h2.at fun o e => k i2 (by simp) o e⟩
  item := by
    intro X hP hw hK hc i pins s σ H E I hf st hg
    subst hP hw hK
    obtain ⟨xs, ys, x, y, hqa, hqb, hx, hy⟩ := hg
    obtain ⟨hz, hTI, ⟨u, v, hTO⟩, h1, h2⟩ := st
    obtain ⟨ia, ra, pa, za⟩ := I.list hqa
    obtain ⟨ib, rb, pb, zb⟩ := I.list hqb
    obtain ⟨u1, hu1, r1⟩ := ra.get hx
    obtain ⟨u2, hu2, r2⟩ := rb.get hy
    refine wpAny_pyNext_zip_item D hz hTI hTO h1 h2 pa.isList pb.isList (x := u1) (y := u2) (by simpa using hu1) (by simpa using hu2) fun h' a1 a2 a3 a4 a5 a6 hk => ?_
    refine ⟨_, rfl, wpAny_letOwnedTupleGo_zip a1 fun h2' b1 bs => ?_⟩
    have lt : ∀ {c o}, s.heap.get? c = some o → c ≠ s.heap.objs.size := fun e => Nat.ne_of_lt (Heap.lt_size e)
    have nz : s.heap.objs.size ≠ z := (lt hz).symm
    have kk : ∀ c o, c ∉ [z, TI, TO, i1, i2] → s.heap.get? c = some o → h2'.get? c = some o := fun c o hc e => by
      simp only [List.mem_cons, List.not_mem_nil, or_false, not_or] at hc
      exact bs.extBut _ _ hc.1 (hk c o hc.1 hc.2.2.1 hc.2.2.2.1 hc.2.2.2.2 e)
    have hp : h2'.get? s.heap.objs.size = some { cls := .type "tuple", data := .seq #[u1, u2] } := bs.extBut _ _ nz a5
    have g2 : IsPair h2' TI (.ref i1) (.ref i2) := bs.extBut _ _ D.TIz (hk _ _ D.TIz D.TITO D.TIi1 D.TIi2 hTI)
    have g3 : IsPair h2' TO u1 u2 := bs.extBut _ _ D.TOz a2
    have g4 : h2'.IsListIter i1 a (i + 1) := a3.extBut bs.extBut D.i1z
    have g5 : h2'.IsListIter i2 b (i + 1) := a4.extBut bs.extBut D.i2z
    have hob : ∀ c ∈ [z, TI, TO, i1, i2], ∃ o, h2'.get? c = some o := fun c hc => by
      simp only [List.mem_cons, List.not_mem_nil, or_false] at hc
      rcases hc with rfl | rfl | rfl | rfl | rfl
      · exact ⟨_, b1⟩
      · exact ⟨_, g2⟩
      · exact ⟨_, g3⟩
      · obtain ⟨o, e, _⟩ := g4; exact ⟨o, e⟩
      · obtain ⟨o, e, _⟩ := g5; exact ⟨o, e⟩
    have I1 : Inv X pins σ (upd H s.heap.objs.size (.tup [x, y])) { s with heap := h2' } := I.turnedT (t' := s.toks) kk hf hob (Nat.le_refl _)
      (show ObjOk X.prog X.w _ h2' _ (.tup [x, y]) from ⟨by show 2 ≤ sizeLine; decide, [u1, u2], .cons r1 (.cons r2 .nil), ⟨_, hp, rfl, _, rfl⟩⟩)
    refine ⟨.ref s.heap.objs.size, _, I1, rfl, ⟨s.heap.objs.size, x, y, I.fresh, rfl, rfl, fun zs hzs => by rw [I.list_inj hzs hqa]; exact hx, fun zs hzs => by rw [I.list_inj hzs hqb]; exact hy⟩, ⟨b1, g2, ⟨_, _, g3⟩, g4, g5⟩, fun c hc => ?_⟩
    have ne : c ≠ s.heap.objs.size := by
      simp only [List.mem_cons, List.not_mem_nil, or_false] at hc
      rcases hc with rfl | rfl | rfl | rfl | rfl
      · exact lt hz
      · exact lt hTI
      · exact lt hTO
      · obtain ⟨o, e, _⟩ := h1; exact lt e
      · obtain ⟨o, e, _⟩ := h2; exact lt e
    rw [upd_ne ne]
    exact (hf c hc).1
  done := by
    intro X hP hw hK hc i pins s σ H E I hf st hg
    subst hP hw hK
    obtain ⟨xs, ys, hqa, hqb, hend⟩ := hg
    obtain ⟨hz, hTI, ⟨u, v, hTO⟩, h1, h2⟩ := st
    obtain ⟨ia, ra, pa, za⟩ := I.list hqa
    obtain ⟨ib, rb, pb, zb⟩ := I.list hqb
    have la := ra.length
    have lb := rb.length
    refine wpAny_pyNext_zip_end (I.ok.hd hc) D hz hTI hTO h1 h2 pa.isList pb.isList ?_ fun h' hk => ⟨rfl, I.turnedN (t' := s.toks) (fun c o hc e => ?_) hf⟩
    · rcases hend with q | q
      · exact .inl (by simp; omega)
      · exact .inr (by simp; omega)
    · simp only [List.mem_cons, List.not_mem_nil, or_false, not_or] at hc
      exact hk c o hc.1 hc.2.2.1 hc.2.2.2.1 hc.2.2.2.2 e
  self := fun _ _ _ _ _ st h => wpAny_pyIter_zip st.1 h
section
variable {X : Cx}
def iZip (K : PySem.W.Frag) (ta : TA) : TI := fun σ H R => ta σ H fun vs H1 => ∃ a b xs ys, vs = [.ref a, .ref b] ∧ SqL K H1 a xs ∧ SqL K H1 b ys ∧ R (Itz K a b) H1
theorem pi_zip {e1 e2 : Expr} {ta : TA} {p pos tpos : Pos} {elts : List Expr} {x1} (hg : Gl X "zip") (hm : X.mg "zip" = none) (ha : PA X [e1, e2] ta)
    (hs : starEach [e1, e2] X.env = (false, eval e1 X.env) :: starEach [e2] X.env := by rfl) (hpl : (backTo pos (starEach [e2] X.env)).any (·.1) = false := by rfl) : PI X (.Tuple elts x1 tpos) (.Call (.Name "zip" p) [e1, e2] [] pos) (iZip X.K ta) := by
  intro pins s σ H R I h
  refine Call_ (ld_blt I hg hm boot_zip (PyProof.Rows.callWith_type1 (thn (ha pos pins s σ H _ I h) fun us s1 ⟨vs, H1, I1, r1, q1⟩ => ?_) hs hpl))
  obtain ⟨a, b, xs, ys, rfl, hqa, hqb, q⟩ := q1
  obtain ⟨u, v, rfl, ru, rv⟩ := vals2 r1
  cases ru
  cases rv
  obtain ⟨ia, ra, pa, za⟩ := I1.list hqa
  obtain ⟨ib, rb, pb, zb⟩ := I1.list hqb
  have lta : a < s1.heap.objs.size := by obtain ⟨o, e, _⟩ := pa.isList; exact Heap.lt_size e
  have ltb : b < s1.heap.objs.size := by obtain ⟨o, e, _⟩ := pb.isList; exact Heap.lt_size e
  refine call_zip_2 pa.isList pb.isList fun h' hz hTI hTO hit1 hit2 hsz hk => ?_
  refine wpAny_pyIter_zip hz ?_
  refine ⟨_, _, _, _, H1, rfl, I1.kept (h' := h') (t' := s1.toks) hk, turn_zip a b _ _ _ _ _ (zipApart_new lta ltb), ⟨hz, hTI, ⟨_, _, hTO⟩, hit1, hit2⟩, fun c hc => ?_, q⟩
  have hge : s1.heap.objs.size ≤ c := by
    simp only [List.mem_cons, List.not_mem_nil, or_false] at hc
    rcases hc with rfl | rfl | rfl | rfl | rfl <;> omega
  exact I1.fpOk hge (I1.hok.fresh hge)
/-- over zip(x, y), the lists stay as they are -/
theorem for_zip {K : PySem.W.Frag} {a b : Addr} {xs ys : List V} {g : TG} {tb : TS} {D : Ends} {σ : St} {H : Hp} (Pv : Nat → St → Hp → Prop) (h0 : Pv 0 σ H) (hlen : xs.length = ys.length) (hl : ∀ i σ H, i ≤ xs.length → Pv i σ H → SqL K H a xs ∧ SqL K H b ys)
    (hs : ∀ i x y p σ H, xs[i]? = some x → ys[i]? = some y → H p = none → Pv i σ H → g (.ref p) σ (upd H p (.tup [x, y])) fun σ2 H2 => tb { D with nx := Pv (i + 1), ct := Pv (i + 1), bk := D.nx } σ2 H2) (hd : ∀ σ H, Pv xs.length σ H → D.nx σ H) :
    ∃ W : Nat → Nat → St → Hp → Prop, (∃ m, W 0 m σ H) ∧ ∀ i m σ H, W i m σ H →
      ((Itz K a b).stop i H ∧ D.nx σ H) ∨ ((Itz K a b).go i H ∧ ∃ N : St → Hp → Prop, (∀ σ' H', N σ' H' → ∃ m', m' < m ∧ W (i + 1) m' σ' H') ∧ ∀ x H', (Itz K a b).yld i H x H' → g x σ H' fun σ2 H2 => tb { D with nx := N, ct := N, bk := D.nx } σ2 H2) := by
  refine ⟨fun i m σ H => m = xs.length - i ∧ i ≤ xs.length ∧ Pv i σ H, ⟨xs.length, by simp, Nat.zero_le _, h0⟩, ?_⟩
  rintro i m σ H ⟨rfl, hi, p⟩
  obtain ⟨q1, q2⟩ := hl i σ H hi p
  by_cases hlt : i < xs.length
  · refine .inr ⟨⟨xs, ys, xs[i], ys[i]'(by omega), q1, q2, by simp [hlt], by simp [show i < ys.length by omega]⟩, Pv (i + 1), fun σ' H' p' => ⟨xs.length - (i + 1), by omega, rfl, hlt, p'⟩, fun v H' yl => ?_⟩
    obtain ⟨pp, x, y, hn, rfl, rfl, hx, hy⟩ := yl
    exact hs i x y pp σ H (hx xs q1) (hy ys q2) hn p
  · have e : i = xs.length := by omega
    subst e
    exact .inl ⟨⟨xs, ys, q1, q2, .inl (Nat.le_refl _)⟩, hd σ H p⟩
end
end L2

set_option Elab.async false
set_option linter.all false
namespace PwM
theorem perm_sum {a b : List Int} (h : a.Perm b) : a.sum = b.sum := by
  induction h with
  | nil => rfl
  | cons x _ ih => rw [List.sum_cons, List.sum_cons, ih]
  | swap x y l => simp only [List.sum_cons]; omega
  | trans _ _ ih1 ih2 => exact ih1.trans ih2
/-! ### spread -/
def sqs (l : List Int) : Int := (l.map fun x => x * x).sum
def spread (l : List Int) : Int := l.length * sqs l - l.sum * l.sum
def rowPairs (x : Int) (ys : List Int) : Int := (ys.map fun y => (x - y) * (x - y)).sum
def pairsTo (xs : List Int) : Nat → Int
  | 0 => 0
  | k + 1 => pairsTo xs k + rowPairs (xs.getD k 0) (xs.take k)
theorem rowPairs_eq (x : Int) : ∀ l : List Int, rowPairs x l = l.length * (x * x) - 2 * x * l.sum + sqs l
  | [] => by simp [rowPairs, sqs]
  | y :: l => by
    have ih := rowPairs_eq x l
    unfold rowPairs sqs at *
    simp only [List.map_cons, List.sum_cons, List.length_cons] at *
    rw [ih]
    have : ((l.length + 1 : Nat) : Int) = (l.length : Int) + 1 := by omega
    rw [this]
    grind
theorem spread_snoc (l : List Int) (x : Int) : spread (l ++ [x]) = spread l + rowPairs x l := by
  rw [rowPairs_eq]
  unfold spread sqs
  simp only [List.map_append, List.sum_append, List.length_append, List.map_cons, List.map_nil, List.sum_cons, List.sum_nil, List.length_cons, List.length_nil]
  have : ((l.length + (0 + 1) : Nat) : Int) = (l.length : Int) + 1 := by omega
  rw [this]
  grind
theorem pairsTo_eq (xs : List Int) : ∀ k, k ≤ xs.length → pairsTo xs k = spread (xs.take k)
  | 0, _ => by simp [pairsTo, spread, sqs]
  | k + 1, h => by
    have h1 : k < xs.length := by omega
    rw [pairsTo, pairsTo_eq xs k (by omega), List.take_add_one, List.getElem?_eq_getElem h1]
    have e : xs.getD k 0 = xs[k] := by simp [List.getD, List.getElem?_eq_getElem h1]
    rw [e, Option.toList, spread_snoc]
theorem sqs_perm {a b : List Int} (h : a.Perm b) : sqs a = sqs b := by
  unfold sqs
  exact perm_sum (h.map _)
theorem spread_perm {a b : List Int} (h : a.Perm b) : spread a = spread b := by
  unfold spread
  rw [sqs_perm h, h.length_eq, perm_sum h]
/-! ### level -/
def level (ns : List Int) : List Int :=
  List.replicate (ns.sum % ns.length).toNat (ns.sum / ns.length + 1) ++ List.replicate ((ns.length : Int) - ns.sum % ns.length).toNat (ns.sum / ns.length)
theorem level_nil : level [] = [] := by decide
section
variable {ns : List Int}
theorem rest_bounds (h : 0 < ns.length) : 0 ≤ ns.sum % ns.length ∧ ns.sum % ns.length < ns.length := ⟨Int.emod_nonneg _ (by omega), Int.emod_lt_of_pos _ (by omega)⟩
theorem level_length (ns : List Int) : (level ns).length = ns.length := by
  by_cases h : 0 < ns.length
  · have := rest_bounds h
    unfold level
    rw [List.length_append, List.length_replicate, List.length_replicate]
    omega
  · have : ns = [] := List.eq_nil_of_length_eq_zero (by omega)
    subst this
    rfl
theorem sum_replicate (n : Nat) (x : Int) : (List.replicate n x).sum = n * x := by
  induction n with
  | zero => simp
  | succ n ih =>
    rw [List.replicate_succ, List.sum_cons, ih]
    have : ((n + 1 : Nat) : Int) = (n : Int) + 1 := by omega
    rw [this]
    grind
theorem level_sum (ns : List Int) : (level ns).sum = ns.sum := by
  by_cases h : 0 < ns.length
  · have hb := rest_bounds h
    have hd := Int.mul_ediv_add_emod ns.sum ns.length
    unfold level
    rw [List.sum_append, sum_replicate, sum_replicate, Int.toNat_of_nonneg hb.1, Int.toNat_of_nonneg (by omega)]
    grind
  · have : ns = [] := List.eq_nil_of_length_eq_zero (by omega)
    subst this
    rfl
theorem level_congr {a b : List Int} (h1 : a.length = b.length) (h2 : a.sum = b.sum) : level a = level b := by
  unfold level
  rw [h1, h2]
theorem level_idem (ns : List Int) : level (level ns) = level ns := level_congr (level_length ns) (level_sum ns)
theorem level_perm {a b : List Int} (h : a.Perm b) : level a = level b := level_congr h.length_eq (perm_sum h)
theorem level_sorted (ns : List Int) : (level ns).Pairwise (fun a b => b ≤ a) := by
  unfold level
  rw [List.pairwise_append]
  refine ⟨?_, ?_, fun a ha b hb => ?_⟩
  · exact List.pairwise_replicate.mpr (.inr (Int.le_refl _))
  · exact List.pairwise_replicate.mpr (.inr (Int.le_refl _))
  · have e1 := (List.mem_replicate.mp ha).2
    have e2 := (List.mem_replicate.mp hb).2
    omega
theorem level_mem {z : Int} (h : z ∈ level ns) : z = ns.sum / ns.length + 1 ∨ z = ns.sum / ns.length := by
  unfold level at h
  rcases List.mem_append.mp h with h | h
  · exact .inl (List.mem_replicate.mp h).2
  · exact .inr (List.mem_replicate.mp h).2
theorem level_last (h : 0 < ns.length) : ∃ p, level ns = p ++ [ns.sum / ns.length] := by
  have hb := rest_bounds h
  obtain ⟨m, hm⟩ : ∃ m, ((ns.length : Int) - ns.sum % ns.length).toNat = m + 1 := ⟨((ns.length : Int) - ns.sum % ns.length).toNat - 1, by omega⟩
  refine ⟨List.replicate (ns.sum % ns.length).toNat (ns.sum / ns.length + 1) ++ List.replicate m (ns.sum / ns.length), ?_⟩
  unfold level
  rw [hm, List.replicate_succ', List.append_assoc]
theorem sqs_append (a b : List Int) : sqs (a ++ b) = sqs a + sqs b := by
  unfold sqs
  rw [List.map_append, List.sum_append]
theorem sqs_replicate (n : Nat) (x : Int) : sqs (List.replicate n x) = n * (x * x) := by
  unfold sqs
  rw [List.map_replicate, sum_replicate]
/-- how many hold more than the last -/
def over (q : Int) (l : List Int) : Int := (l.map fun x => if q < x then (1 : Int) else 0).sum
theorem over_append (q : Int) (a b : List Int) : over q (a ++ b) = over q a + over q b := by
  unfold over
  rw [List.map_append, List.sum_append]
theorem over_level (h : 0 < ns.length) : over (ns.sum / ns.length) (level ns) = ns.sum % ns.length := by
  have hb := rest_bounds h
  unfold level
  rw [over_append]
  unfold over
  rw [List.map_replicate, List.map_replicate, sum_replicate, sum_replicate, if_pos (by omega), if_neg (by omega), Int.toNat_of_nonneg hb.1]
  omega
theorem spread_level (h : 0 < ns.length) : spread (level ns) = ns.sum % ns.length * (ns.length - ns.sum % ns.length) := by
  have hb := rest_bounds h
  have hd := Int.mul_ediv_add_emod ns.sum ns.length
  unfold spread
  rw [level_length, level_sum]
  unfold level
  rw [sqs_append, sqs_replicate, sqs_replicate, Int.toNat_of_nonneg hb.1, Int.toNat_of_nonneg (by omega)]
  generalize ns.sum % ns.length = r at *
  generalize ns.sum / ns.length = q at *
  rw [← hd]
  grind
theorem take_replicates (a b k : Nat) (x y : Int) : ((List.replicate a x ++ List.replicate b y).take k).sum = (min k a : Nat) * x + (min (k - a) b : Nat) * y := by
  rw [List.take_append, List.sum_append, List.take_replicate, List.take_replicate, sum_replicate, sum_replicate, List.length_replicate]
theorem sum_le_of_all (q : Int) : ∀ l : List Int, (∀ x ∈ l, x ≤ q) → l.sum ≤ l.length * q
  | [], _ => by simp
  | x :: l, h => by
    have ih := sum_le_of_all q l fun y hy => h y (List.mem_cons_of_mem _ hy)
    have hx := h x List.mem_cons_self
    rw [List.sum_cons, List.length_cons]
    have : ((l.length + 1 : Nat) : Int) = (l.length : Int) + 1 := by omega
    rw [this]
    have e : ((l.length : Int) + 1) * q = l.length * q + q := by grind
    omega
theorem sum_ge_of_all (q : Int) : ∀ l : List Int, (∀ x ∈ l, q ≤ x) → l.length * q ≤ l.sum
  | [], _ => by simp
  | x :: l, h => by
    have ih := sum_ge_of_all q l fun y hy => h y (List.mem_cons_of_mem _ hy)
    have hx := h x List.mem_cons_self
    rw [List.sum_cons, List.length_cons]
    have : ((l.length + 1 : Nat) : Int) = (l.length : Int) + 1 := by omega
    rw [this]
    have e : ((l.length : Int) + 1) * q = l.length * q + q := by grind
    omega
/-- either all of the first k hold more than q, or none behind them does -/
theorem cut_sorted (q : Int) (k : Nat) {l : List Int} (h : l.Pairwise (fun a b => b ≤ a)) : (∀ x ∈ l.take k, q + 1 ≤ x) ∨ ∀ x ∈ l.drop k, x ≤ q := by
  by_cases hc : ∀ x ∈ l.take k, q + 1 ≤ x
  · exact .inl hc
  · right
    intro y hy
    refine Decidable.byContradiction fun hyq => hc fun x hx => ?_
    have h' : (l.take k ++ l.drop k).Pairwise (fun a b => b ≤ a) := by rw [List.take_append_drop]; exact h
    have := (List.pairwise_append.mp h').2.2 x hx y hy
    omega
theorem level_below {d : List Int} (hd : d.Pairwise (fun a b => b ≤ a)) (hp : d.Perm ns) (k : Nat) (hk : k ≤ ns.length) : ((level ns).take k).sum ≤ (d.take k).sum := by
  by_cases h : 0 < ns.length
  · have hb := rest_bounds h
    have hdm := Int.mul_ediv_add_emod ns.sum ns.length
    have hs : d.sum = ns.sum := perm_sum hp
    have hl : d.length = ns.length := hp.length_eq
    have hsplit : (d.take k).sum + (d.drop k).sum = ns.sum := by rw [← List.sum_append, List.take_append_drop, hs]
    have lt : (d.take k).length = k := by rw [List.length_take]; omega
    have ld : (d.drop k).length = ns.length - k := by rw [List.length_drop]; omega
    unfold level
    rw [take_replicates]
    generalize hr : ns.sum % ns.length = r at *
    generalize hq : ns.sum / ns.length = q at *
    rcases cut_sorted q k hd with hc | hc
    · have h1 := sum_ge_of_all (q + 1) _ hc
      rw [lt] at h1
      have e1 : (k : Int) * (q + 1) = k * q + k := by grind
      by_cases hkr : k ≤ r.toNat
      · have e2 : min k r.toNat = k := by omega
        have e3 : min (k - r.toNat) ((ns.length : Int) - r).toNat = 0 := by omega
        rw [e2, e3]
        simp
        omega
      · have e2 : min k r.toNat = r.toNat := by omega
        have e3 : min (k - r.toNat) ((ns.length : Int) - r).toNat = k - r.toNat := by omega
        rw [e2, e3]
        have e4 : ((k - r.toNat : Nat) : Int) = k - r := by omega
        have e5 : ((r.toNat : Nat) : Int) = r := by omega
        rw [e4, e5]
        have e6 : r * (q + 1) + (k - r) * q = k * q + r := by grind
        omega
    · have h1 := sum_le_of_all q _ hc
      rw [ld] at h1
      have e0 : ((ns.length - k : Nat) : Int) = ns.length - k := by omega
      rw [e0] at h1
      have e1 : ((ns.length : Int) - k) * q = ns.length * q - k * q := by grind
      by_cases hkr : k ≤ r.toNat
      · have e2 : min k r.toNat = k := by omega
        have e3 : min (k - r.toNat) ((ns.length : Int) - r).toNat = 0 := by omega
        rw [e2, e3]
        have e4 : (k : Int) * (q + 1) = k * q + k := by grind
        simp
        omega
      · have e2 : min k r.toNat = r.toNat := by omega
        have e3 : min (k - r.toNat) ((ns.length : Int) - r).toNat = k - r.toNat := by omega
        rw [e2, e3]
        have e4 : ((k - r.toNat : Nat) : Int) = k - r := by omega
        have e5 : ((r.toNat : Nat) : Int) = r := by omega
        rw [e4, e5]
        have e6 : r * (q + 1) + (k - r) * q = k * q + r := by grind
        omega
  · have : ns = [] := List.eq_nil_of_length_eq_zero (by omega)
    subst this
    have : d = [] := List.Perm.eq_nil hp
    subst this
    have hk0 : k = 0 := by simpa using hk
    subst hk0
    simp
end
end PwM

set_option Elab.async false
set_option linter.all false
set_option maxRecDepth 100000
namespace PwM
/-- a gift fits -/
def fitB (ns : List Int) (i j d : Int) : Bool := decide (1 ≤ d ∧ 0 ≤ i ∧ i < (ns.length : Int) ∧ 0 ≤ j ∧ j < (ns.length : Int) ∧ d ≤ ns.getD i.toNat 0 - ns.getD j.toNat 0)
theorem fitB_false {ns : List Int} {i j d : Int} (h : ¬ (1 ≤ d ∧ 0 ≤ i ∧ i < (ns.length : Int) ∧ 0 ≤ j ∧ j < (ns.length : Int) ∧ d ≤ ns.getD i.toNat 0 - ns.getD j.toNat 0)) : fitB ns i j d = false := decide_eq_false h
theorem fitB_true {ns : List Int} {i j d : Int} (h : fitB ns i j d = true) : ∃ (i' j' : Nat), i = i' ∧ j = j' ∧ i' < ns.length ∧ j' < ns.length ∧ i' ≠ j' ∧ 1 ≤ d ∧ d ≤ ns.getD i' 0 - ns.getD j' 0 := by
  obtain ⟨h1, h2, h3, h4, h5, h6⟩ := of_decide_eq_true h
  obtain ⟨i', rfl⟩ := Int.eq_ofNat_of_zero_le h2
  obtain ⟨j', rfl⟩ := Int.eq_ofNat_of_zero_le h4
  rw [Int.toNat_natCast, Int.toNat_natCast] at h6
  refine ⟨i', j', rfl, rfl, by omega, by omega, fun z => ?_, h1, h6⟩
  subst z
  omega
theorem fitB_mk {ns : List Int} {i j : Nat} {d : Int} (h1 : 1 ≤ d) (hi : i < ns.length) (hj : j < ns.length) (h : d ≤ ns.getD i 0 - ns.getD j 0) : fitB ns i j d = true :=
  decide_eq_true ⟨h1, by omega, by omega, by omega, by omega, by rw [Int.toNat_natCast, Int.toNat_natCast]; exact h⟩
def doneL (ns : List Int) (i j d : Int) : List Int := (ns.set i.toNat (ns.getD i.toNat 0 - d)).set j.toNat (ns.getD j.toNat 0 + d)
theorem doneL_length (ns : List Int) (i j d : Int) : (doneL ns i j d).length = ns.length := by simp [doneL]
/-! ### a sum over a row with one place changed -/
theorem sum_map_set (f : Int → Int) : ∀ (ns : List Int) (i : Nat) (x : Int), i < ns.length → ((ns.set i x).map f).sum = (ns.map f).sum - f (ns.getD i 0) + f x
  | [], i, x, h => by simp at h
  | y :: ns, 0, x, h => by simp [List.set]; omega
  | y :: ns, i + 1, x, h => by
    have ih := sum_map_set f ns i x (by simpa using h)
    simp only [List.set, List.map_cons, List.sum_cons, List.getD_cons_succ]
    omega
theorem getD_set_ne {ns : List Int} {i j : Nat} {x : Int} (h : i ≠ j) : (ns.set i x).getD j 0 = ns.getD j 0 := by
  simp [List.getD, List.getElem?_set_ne h]
theorem getD_set_eq {ns : List Int} {i : Nat} {x : Int} (h : i < ns.length) : (ns.set i x).getD i 0 = x := by
  simp [List.getD, h]
theorem sum_map_done (f : Int → Int) {ns : List Int} {i j : Nat} {d : Int} (hi : i < ns.length) (hj : j < ns.length) (hij : i ≠ j) :
    ((doneL ns i j d).map f).sum = (ns.map f).sum - f (ns.getD i 0) - f (ns.getD j 0) + f (ns.getD i 0 - d) + f (ns.getD j 0 + d) := by
  unfold doneL
  rw [Int.toNat_natCast, Int.toNat_natCast, sum_map_set f _ j _ (by simpa using hj), sum_map_set f _ i _ hi, getD_set_ne hij]
  omega
theorem map_id_sum (l : List Int) : (l.map fun x => x).sum = l.sum := by simp
section
variable {ns : List Int} {i j d : Int}
theorem done_sum (h : fitB ns i j d = true) : (doneL ns i j d).sum = ns.sum := by
  obtain ⟨i, j, rfl, rfl, hi, hj, hij, hd⟩ := fitB_true h
  have := sum_map_done (fun x => x) (d := d) hi hj hij
  rw [map_id_sum, map_id_sum] at this
  omega
theorem done_spread (h : fitB ns i j d = true) : spread ns - spread (doneL ns i j d) = 2 * ns.length * d * ((ns.getD i.toNat 0 - ns.getD j.toNat 0) - d) := by
  have e := done_sum h
  obtain ⟨i, j, rfl, rfl, hi, hj, hij, hd⟩ := fitB_true h
  have q := sum_map_done (fun x => x * x) (d := d) hi hj hij
  unfold spread sqs
  rw [e, doneL_length, q, Int.toNat_natCast, Int.toNat_natCast]
  generalize ns.getD i 0 = a
  generalize ns.getD j 0 = b
  generalize (List.map (fun x => x * x) ns).sum = S
  generalize (ns.length : Int) = n
  grind
end
/-! ### what the k fullest hold, by what is over a line -/
def ovr (t : Int) (l : List Int) : Int := (l.map fun x => max (x - t) 0).sum
theorem ovr_perm {a b : List Int} (h : a.Perm b) (t : Int) : ovr t a = ovr t b := perm_sum (h.map _)
theorem ovr_nonneg (t : Int) : ∀ l : List Int, 0 ≤ ovr t l
  | [] => by simp [ovr]
  | x :: l => by
    have := ovr_nonneg t l
    unfold ovr at *
    simp only [List.map_cons, List.sum_cons]
    omega
theorem ovr_cons (t x : Int) (l : List Int) : ovr t (x :: l) = max (x - t) 0 + ovr t l := by simp [ovr]
theorem take_le_ovr (t : Int) : ∀ (k : Nat) (l : List Int), k ≤ l.length → (l.take k).sum ≤ k * t + ovr t l
  | 0, l, _ => by simpa using ovr_nonneg t l
  | k + 1, [], h => by simp at h
  | k + 1, x :: l, h => by
    have ih := take_le_ovr t k l (by simpa using h)
    rw [List.take_succ_cons, List.sum_cons, ovr_cons]
    have e : ((k + 1 : Nat) : Int) * t = k * t + t := by rw [Int.natCast_add, Int.add_mul]; simp
    rw [e]
    omega
theorem ovr_zero (t : Int) : ∀ l : List Int, (∀ x ∈ l, x ≤ t) → ovr t l = 0
  | [], _ => by simp [ovr]
  | x :: l, h => by
    rw [ovr_cons, ovr_zero t l fun y hy => h y (List.mem_cons_of_mem _ hy)]
    have := h x List.mem_cons_self
    omega
theorem take_eq_ovr (t : Int) : ∀ (k : Nat) (l : List Int), k ≤ l.length → (∀ x ∈ l.take k, t ≤ x) → (∀ x ∈ l.drop k, x ≤ t) → (l.take k).sum = k * t + ovr t l
  | 0, l, _, _, h2 => by rw [ovr_zero t l (by simpa using h2)]; simp
  | k + 1, [], h, _, _ => by simp at h
  | k + 1, x :: l, h, h1, h2 => by
    have ih := take_eq_ovr t k l (by simpa using h) (fun y hy => h1 y (by rw [List.take_succ_cons]; exact List.mem_cons_of_mem _ hy)) (by simpa using h2)
    have hx := h1 x (by rw [List.take_succ_cons]; exact List.mem_cons_self)
    rw [List.take_succ_cons, List.sum_cons, ovr_cons]
    have e : ((k + 1 : Nat) : Int) * t = k * t + t := by rw [Int.natCast_add, Int.add_mul]; simp
    rw [e]
    omega
theorem sorted_split {l : List Int} (h : l.Pairwise (fun a b => b ≤ a)) {k : Nat} (hk : k < l.length) : (∀ x ∈ l.take (k + 1), l.getD k 0 ≤ x) ∧ ∀ x ∈ l.drop (k + 1), x ≤ l.getD k 0 := by
  have hg : l.getD k 0 = l[k] := by simp [List.getD, hk]
  rw [hg]
  constructor
  · intro x hx
    obtain ⟨i, hi, e⟩ := List.mem_iff_getElem.mp hx
    rw [List.length_take] at hi
    rw [List.getElem_take] at e
    rw [← e]
    by_cases hik : i = k
    · subst hik; omega
    · exact (List.pairwise_iff_getElem.mp h) i k (by omega) hk (by omega)
  · intro x hx
    obtain ⟨i, hi, e⟩ := List.mem_iff_getElem.mp hx
    rw [List.length_drop] at hi
    rw [List.getElem_drop] at e
    rw [← e]
    exact (List.pairwise_iff_getElem.mp h) k (k + 1 + i) hk (by omega) (by omega)
theorem tops_le_of_ovr {a b : List Int} (hl : a.length = b.length) (h : ∀ t, ovr t b ≤ ovr t a) (k : Nat) (hk : k ≤ a.length) : ((desc b).take k).sum ≤ ((desc a).take k).sum := by
  match k, hk with
  | 0, _ => simp
  | k + 1, hk =>
    have hk' : k < (desc a).length := by rw [desc_length]; omega
    obtain ⟨s1, s2⟩ := sorted_split (desc_sorted a) hk'
    have e := take_eq_ovr ((desc a).getD k 0) (k + 1) (desc a) hk' s1 s2
    have l := take_le_ovr ((desc a).getD k 0) (k + 1) (desc b) (by rw [desc_length]; omega)
    have p1 := ovr_perm (desc_perm a) ((desc a).getD k 0)
    have p2 := ovr_perm (desc_perm b) ((desc a).getD k 0)
    have := h ((desc a).getD k 0)
    omega
theorem ovr_done {ns : List Int} {i j d : Int} (h : fitB ns i j d = true) (t : Int) : ovr t (doneL ns i j d) ≤ ovr t ns := by
  obtain ⟨i, j, rfl, rfl, hi, hj, hij, hd⟩ := fitB_true h
  have q := sum_map_done (fun x => max (x - t) 0) (d := d) hi hj hij
  unfold ovr
  rw [q]
  generalize ns.getD i 0 = a at *
  generalize ns.getD j 0 = b at *
  generalize (List.map (fun x => max (x - t) 0) ns).sum = S
  omega
theorem done_tops {ns : List Int} {i j d : Int} (h : fitB ns i j d = true) (k : Nat) (hk : k ≤ ns.length) : ((desc (doneL ns i j d)).take k).sum ≤ ((desc ns).take k).sum :=
  tops_le_of_ovr (doneL_length ns i j d).symm (fun t => ovr_done h t) k hk
end PwM
namespace L2
open PySem PySem.Spec PyProof.Rows
theorem Same.seqT {K : PySem.W.Frag} {H H' : Hp} {a : Addr} {xs : List V} (e : Same H H') (h : SqT K H a xs) : SqT K H' a xs := by
  rcases h with (h | ⟨o, h⟩) | h
  · exact .inl (.inl (e _ _ h))
  · exact .inl (.inr ⟨o, e _ _ h⟩)
  · exact .inr h
theorem ixN_nat {n j : Nat} (h : j < n) : ixN n (j : Int) = some j := by
  unfold ixN
  rw [if_pos (by omega), if_pos (by omega), Int.toNat_natCast]
end L2

set_option Elab.async false
set_option linter.all false
set_option maxRecDepth 100000
/-! Over the hand layer: insert, == of lists of objects, lists of gifts, slices of ints. -/
namespace L2
open PySem PySem.Spec PyProof.Rows
section
variable {X : Cx}
/-! ### xs.insert(k, y) -/
def rInsert : V → List V → Hp → VK → Prop := fun x vs H Q => ∃ (l : Addr) (xs : List V) (k : Nat) (y : V), x = .ref l ∧ vs = [.int k, y] ∧ H l = some (.lst xs) ∧ k ≤ xs.length ∧ xs.length < 1000 ∧ Q .non (upd H l (.lst (xs.take k ++ y :: xs.drop k)))
theorem mt_insert : MtM X "list.insert" rInsert := by
  intro pins s σ H x vs v us Q I rx rv h
  obtain ⟨l, xs, k, y, rfl, rfl, hH, hk, hz, q⟩ := h
  cases rx
  obtain ⟨u1, u2, rfl, r1, r2⟩ := rv.two
  obtain ⟨t, rfl⟩ := r1
  obtain ⟨z, its, n, r, hl, e⟩ := I.lstM hH
  have hs1 : its.toArray.size ≤ sizeLine := by rw [List.size_toArray]; omega
  have e1 : (if (k : Int) < 0 then ((k : Int) + ((its.toArray.size : Nat) : Int)).toNat else min (k : Int).toNat its.toArray.size) = k := by
    rw [if_neg (by omega), Int.toNat_natCast, List.size_toArray]
    omega
  have h63 : -(2 ^ 63) ≤ (k : Int) ∧ (k : Int) < 2 ^ 63 := by omega
  generalize (k : Int) = x at *
  have hc0 : ¬ (!Builtin.List.listFitsIndex x) = true := by rw [fitsIndex_both h63.1 h63.2]; exact Bool.false_ne_true
  have M := AutoListH.list_insert_list_int_val_1 l its.toArray n x t u2 hc0 hs1
  refine call_meets F.slot_list_insert ⟨_, e, rfl⟩ F.entry_list_insert (F.args_list_insert_3 _ _ _) M ⟨e, ?_⟩
  refine ⟨.non, _, I.lset (its' := its.take k ++ u2 :: its.drop k) hH e ?_ ((r.take k).append (.cons r2 (r.drop k))) ?_, rfl, q⟩
  · show ((its.toArray.extract 0 (if x < 0 then (x + ((its.toArray.size : Nat) : Int)).toNat else min x.toNat its.toArray.size)).push u2 ++ its.toArray.extract (if x < 0 then (x + ((its.toArray.size : Nat) : Int)).toNat else min x.toNat its.toArray.size)) = (its.take k ++ u2 :: its.drop k).toArray
    rw [e1]
    apply Array.toList_inj.mp
    simp only [Array.toList_append, Array.toList_push, Array.toList_extract, List.extract_eq_drop_take, List.drop_zero, Nat.sub_zero, List.size_toArray]
    rw [List.take_of_length_le (l := its.drop k) (by rw [List.length_drop]; omega), List.append_assoc]
    rfl
  · have : (xs.take k ++ y :: xs.drop k).length = xs.length + 1 := by simp; omega
    rw [this]
    exact Nat.le_of_lt (small1000 (by omega))
/-! ### == and != of two lists of the very same objects -/
theorem refs_eqAt {A : Around} {s : Shared} {ps : List Addr} {i1 i2 : List Value} (r1 : Vals (ps.map V.ref) i1) (r2 : Vals (ps.map V.ref) i2) : i1 = i2 := by
  have go : ∀ {ps : List Addr} {us : List Value}, Vals (ps.map V.ref) us → us = ps.map Value.ref := by
    intro ps
    induction ps with
    | nil => intro us h; cases h; rfl
    | cons p ps ih =>
      intro us h
      cases h with
      | cons a b => rw [ih b, show _ = Value.ref p from a]; rfl
  rw [go r1, go r2]
def rEqR (K : PySem.W.Frag) (neg : Bool) : R2 := fun x y H Q => ∃ (a b : Addr) (ps : List Addr), x = .ref a ∧ y = .ref b ∧ SqL K H a (ps.map V.ref) ∧ SqL K H b (ps.map V.ref) ∧ Q (.bl (!neg)) H
theorem all_true (n : Nat) : (List.range n).all (fun _ => true) = true := by simp
theorem op_eqTT (hu : X.A.units + 64 < cLine) : OpR X (compareOp .Eq) (rEqR X.K false) := by
  intro pins s σ H x y v u Q I rx ry h
  obtain ⟨a, b, ps, rfl, rfl, ha, hb, q⟩ := h
  cases rx
  cases ry
  obtain ⟨i1, r1, p1, _⟩ := I.list ha
  obtain ⟨i2, r2, p2, _⟩ := I.list hb
  obtain rfl := refs_eqAt (A := X.A) (s := s) r1 r2
  refine SeqAt.eq_listAt (e := fun _ => true) p1.isList p2.isList rfl (by omega) (fun j h1 h2 => SeqAt.EqAt.same _) ?_
  rw [all_true]
  exact ⟨.bl true, H, I, rfl, q⟩
theorem op_neTT (hu : X.A.units + 64 < cLine) : OpR X (compareOp .NotEq) (rEqR X.K true) := by
  intro pins s σ H x y v u Q I rx ry h
  obtain ⟨a, b, ps, rfl, rfl, ha, hb, q⟩ := h
  cases rx
  cases ry
  obtain ⟨i1, r1, p1, _⟩ := I.list ha
  obtain ⟨i2, r2, p2, _⟩ := I.list hb
  obtain rfl := refs_eqAt (A := X.A) (s := s) r1 r2
  refine SeqAt.RcNeAt.lists (e := fun _ => true) p1.isList p2.isList rfl (by omega) (fun j h1 h2 => SeqAt.EqAt.same _) X.prog X.w X.xe _ ?_
  rw [all_true]
  exact ⟨.bl false, H, I, rfl, q⟩
end
/-! ### slices of ints -/
def cutI (xs : List Int) (lo hi : Option Int) : List Int := (xs.drop (HT.sIx xs.length 0 lo)).take (HT.sIx xs.length xs.length hi - HT.sIx xs.length 0 lo)
theorem cutV_map (ns : List Int) (lo hi : Option Int) : cutV (ns.map V.int) lo hi = (cutI ns lo hi).map V.int := by
  unfold cutV cutI
  rw [List.length_map, List.map_take, List.map_drop]
theorem cutI_length (ns : List Int) (lo hi : Option Int) : (cutI ns lo hi).length ≤ ns.length := by
  unfold cutI
  rw [List.length_take, List.length_drop]
  omega
theorem cutI_mem {ns : List Int} {lo hi : Option Int} {z : Int} (h : z ∈ cutI ns lo hi) : z ∈ ns := List.mem_of_mem_drop (List.mem_of_mem_take h)
/-! ### gifts, lists of gifts -/
abbrev Gv := Int × Int × Int
def tupG (g : Gv) : HO := .tup [.int g.1, .int g.2.1, .int g.2.2]
/-- a list of gifts at a, the tuples at ps -/
structure Gifts (K : PySem.W.Frag) (H : Hp) (a : Addr) (ps : List Addr) (gs : List Gv) : Prop where
  sq : SqL K H a (ps.map V.ref)
  len : ps.length = gs.length
  at_ : ∀ (i : Nat) (p : Addr) (g : Gv), ps[i]? = some p → gs[i]? = some g → SqT K H p [.int g.1, .int g.2.1, .int g.2.2]
theorem Gifts.same {K : PySem.W.Frag} {H H' : Hp} {a : Addr} {ps : List Addr} {gs : List Gv} (h : Gifts K H a ps gs) (s : Same H H') : Gifts K H' a ps gs := ⟨s.seq h.sq, h.len, fun i p g e1 e2 => s.seqT (h.at_ i p g e1 e2)⟩
end L2
namespace PwM
/-- the gifts one by one, up to the first that does not fit -/
def walkR : List Int → List (Int × Int × Int) → Option (List Int)
  | ns, [] => some ns
  | ns, g :: gs => if fitB ns g.1 g.2.1 g.2.2 = true then walkR (doneL ns g.1 g.2.1 g.2.2) gs else none
theorem walkR_append : ∀ (ns : List Int) (a b : List (Int × Int × Int)), walkR ns (a ++ b) = (walkR ns a).bind fun ms => walkR ms b
  | ns, [], b => by simp [walkR]
  | ns, g :: a, b => by
    rw [List.cons_append, walkR, walkR]
    split
    · exact walkR_append _ a b
    · rfl
theorem walkR_length : ∀ {gs : List (Int × Int × Int)} {ns ms : List Int}, walkR ns gs = some ms → ms.length = ns.length
  | [], ns, ms, h => by rw [walkR] at h; cases h; rfl
  | g :: gs, ns, ms, h => by
    rw [walkR] at h
    split at h
    · rw [walkR_length h, doneL_length]
    · cases h
theorem walkR_snoc {ns ms : List Int} {gs : List (Int × Int × Int)} {g : Int × Int × Int} (h : walkR ns gs = some ms) : walkR ns (gs ++ [g]) = if fitB ms g.1 g.2.1 g.2.2 = true then some (doneL ms g.1 g.2.1 g.2.2) else none := by
  rw [walkR_append, h, Option.bind_some, walkR, walkR]
theorem walkR_none {ns ms : List Int} {a b : List (Int × Int × Int)} {g : Int × Int × Int} (h : walkR ns a = some ms) (hf : fitB ms g.1 g.2.1 g.2.2 = false) : walkR ns (a ++ g :: b) = none := by
  rw [walkR_append, h, Option.bind_some, walkR, if_neg (by rw [hf]; decide)]
end PwM

set_option Elab.async false
set_option linter.all false
set_option maxRecDepth 100000
/-! Over the hand layer: min and max of a list of ints, list(range(n)). -/
namespace L2
open PySem PySem.Spec PyProof.Rows
theorem argBest_lt (f : Nat → Int) : ∀ k, argBest (fun i j => decide (f i < f j)) k ≤ k ∧ ∀ j, j ≤ k → f (argBest (fun i j => decide (f i < f j)) k) ≤ f j
  | 0 => ⟨Nat.le_refl _, fun j hj => by have : j = 0 := by omega
                                        subst this; exact Int.le_refl _⟩
  | k + 1 => by
    obtain ⟨h1, h2⟩ := argBest_lt f k
    rw [argBest]
    split
    · rename_i h
      have h := of_decide_eq_true h
      refine ⟨Nat.le_refl _, fun j hj => ?_⟩
      by_cases e : j = k + 1
      · subst e; exact Int.le_refl _
      · have := h2 j (by omega); omega
    · rename_i h
      have h : ¬ f (k + 1) < f (argBest (fun i j => decide (f i < f j)) k) := fun z => h (decide_eq_true z)
      refine ⟨by omega, fun j hj => ?_⟩
      by_cases e : j = k + 1
      · subst e; omega
      · exact h2 j (by omega)
theorem argBest_gt (f : Nat → Int) : ∀ k, argBest (fun i j => decide (f i > f j)) k ≤ k ∧ ∀ j, j ≤ k → f j ≤ f (argBest (fun i j => decide (f i > f j)) k)
  | 0 => ⟨Nat.le_refl _, fun j hj => by have : j = 0 := by omega
                                        subst this; exact Int.le_refl _⟩
  | k + 1 => by
    obtain ⟨h1, h2⟩ := argBest_gt f k
    rw [argBest]
    split
    · rename_i h
      have h := of_decide_eq_true h
      refine ⟨Nat.le_refl _, fun j hj => ?_⟩
      by_cases e : j = k + 1
      · subst e; exact Int.le_refl _
      · have := h2 j (by omega); omega
    · rename_i h
      have h : ¬ f (k + 1) > f (argBest (fun i j => decide (f i > f j)) k) := fun z => h (decide_eq_true z)
      refine ⟨by omega, fun j hj => ?_⟩
      by_cases e : j = k + 1
      · subst e; omega
      · exact h2 j (by omega)
section
variable {X : Cx}
theorem ints_at {its : List Value} {ns : List Int} (hI : IntsAre its ns) (hn : its.length = ns.length) : ∀ i v, its.toArray[i]? = some v → ∃ t, v = Value.int (ns.getD i 0) t := fun i v e => by
  have rv := vals_ints hI
  have e' : its[i]? = some v := by simpa using e
  have hi : i < ns.length := by rw [← hn]; exact (List.getElem?_eq_some_iff.mp e').1
  obtain ⟨u, hu, ru⟩ := rv.get (i := i) (x := V.int ns[i]) (by simp [hi])
  rw [hu] at e'
  cases e'
  obtain ⟨t, rfl⟩ := ru
  exact ⟨t, by simp [List.getD, hi]⟩
theorem call_minL (hc : X.calm = true) : CallR X (.builtin "min") (fun xs H Q => ∃ (p : Addr) (ns : List Int), xs = [.ref p] ∧ SqL X.K H p (ns.map V.int) ∧ 0 < ns.length ∧ ∀ m, m ∈ ns → (∀ x ∈ ns, m ≤ x) → Q (.int m) H) := by
  intro pins s σ H xs us Q I r h
  obtain ⟨p, ns, rfl, hq, hpos, q⟩ := h
  obtain ⟨u, rfl, rx⟩ := vals1 r
  cases rx
  obtain ⟨its, hI, hl, hn, hz⟩ := intsOfL I hq
  have hlt : p < s.heap.objs.size := by obtain ⟨_, e, _⟩ := hl; exact Heap.lt_size e
  have hh : X.A.in1.handled = none := I.ok.hd hc
  refine call_min_walk (wpAny_pyIter_list hl ?_)
  refine ⟨s.heap.objs.size, [s.heap.objs.size, p], [s.heap.objs.size], its.toArray.size, _, _, _, rfl, Walks.list (A := X.A.in1) hh _ p (Nat.ne_of_lt hlt) its.toArray, ⟨⟨_, Heap.get?_push_size _ rfl, rfl, rfl⟩, hl.push _⟩, fun b hb => ?_, by simp; omega, CmpOf.ints_lt (fun i => ns.getD i 0) (ints_at hI hn), fun v h' tk hv hk => ?_⟩
  · show b < (s.heap.push _).objs.size
    rw [Heap.size_push]
    rcases List.mem_cons.mp hb with rfl | hb
    · exact Nat.lt_succ_self _
    · rcases List.mem_cons.mp hb with rfl | hb
      · exact Nat.lt_succ_of_lt hlt
      · cases hb
  · obtain ⟨t, rfl⟩ := ints_at hI hn _ _ hv
    obtain ⟨b1, b2⟩ := argBest_lt (fun i => ns.getD i 0) (its.toArray.size - 1)
    have hsz : its.toArray.size = ns.length := by simpa using hn
    refine ⟨.int _, H, I.kept (h' := h') (t' := tk) (fun b o e => hk b o (fun z => ?_) (Heap.get?_push_of_some _ e)), ⟨t, rfl⟩, q _ (mem_getD (by omega)) fun x hx => ?_⟩
    · have z' : b = s.heap.objs.size := by simpa using z
      exact absurd (Heap.lt_size e) (by rw [z']; exact Nat.lt_irrefl _)
    · obtain ⟨j, hj, e⟩ := List.mem_iff_getElem.mp hx
      have := b2 j (by omega)
      have e2 : ns.getD j 0 = x := by simp [List.getD, hj, e]
      rw [e2] at this
      exact this
theorem call_maxL (hc : X.calm = true) : CallR X (.builtin "max") (fun xs H Q => ∃ (p : Addr) (ns : List Int), xs = [.ref p] ∧ SqL X.K H p (ns.map V.int) ∧ 0 < ns.length ∧ ∀ m, m ∈ ns → (∀ x ∈ ns, x ≤ m) → Q (.int m) H) := by
  intro pins s σ H xs us Q I r h
  obtain ⟨p, ns, rfl, hq, hpos, q⟩ := h
  obtain ⟨u, rfl, rx⟩ := vals1 r
  cases rx
  obtain ⟨its, hI, hl, hn, hz⟩ := intsOfL I hq
  have hlt : p < s.heap.objs.size := by obtain ⟨_, e, _⟩ := hl; exact Heap.lt_size e
  have hh : X.A.in1.handled = none := I.ok.hd hc
  refine call_max_walk (wpAny_pyIter_list hl ?_)
  refine ⟨s.heap.objs.size, [s.heap.objs.size, p], [s.heap.objs.size], its.toArray.size, _, _, _, rfl, Walks.list (A := X.A.in1) hh _ p (Nat.ne_of_lt hlt) its.toArray, ⟨⟨_, Heap.get?_push_size _ rfl, rfl, rfl⟩, hl.push _⟩, fun b hb => ?_, by simp; omega, CmpOf.ints_gt (fun i => ns.getD i 0) (ints_at hI hn), fun v h' tk hv hk => ?_⟩
  · show b < (s.heap.push _).objs.size
    rw [Heap.size_push]
    rcases List.mem_cons.mp hb with rfl | hb
    · exact Nat.lt_succ_self _
    · rcases List.mem_cons.mp hb with rfl | hb
      · exact Nat.lt_succ_of_lt hlt
      · cases hb
  · obtain ⟨t, rfl⟩ := ints_at hI hn _ _ hv
    obtain ⟨b1, b2⟩ := argBest_gt (fun i => ns.getD i 0) (its.toArray.size - 1)
    have hsz : its.toArray.size = ns.length := by simpa using hn
    refine ⟨.int _, H, I.kept (h' := h') (t' := tk) (fun b o e => hk b o (fun z => ?_) (Heap.get?_push_of_some _ e)), ⟨t, rfl⟩, q _ (mem_getD (by omega)) fun x hx => ?_⟩
    · have z' : b = s.heap.objs.size := by simpa using z
      exact absurd (Heap.lt_size e) (by rw [z']; exact Nat.lt_irrefl _)
    · obtain ⟨j, hj, e⟩ := List.mem_iff_getElem.mp hx
      have := b2 j (by omega)
      have e2 : ns.getD j 0 = x := by simp [List.getD, hj, e]
      rw [e2] at this
      exact this
/-! ### range(n) as a value, list(range(n)) -/
theorem call_rangeV : CallR X (.type "range") (fun xs H Q => ∃ j : Nat, xs = [.int j] ∧ j ≤ 1000 ∧ ∀ p, H p = none → Q (.ref p) (upd H p (.rng 0 j))) := by
  intro pins s σ H xs us Q I r h
  obtain ⟨j, rfl, hj, q⟩ := h
  obtain ⟨u, rfl, rx⟩ := vals1 r
  obtain ⟨t, rfl⟩ := rx
  refine call_range_1 ?_
  exact ⟨.ref s.heap.objs.size, _, I.laid (a := s.heap.objs.size) (fun b o e => Heap.get?_push_of_some _ e) (Nat.le_refl _) (show ObjOk X.prog X.w (upd H s.heap.objs.size (.rng 0 j)) _ _ (.rng 0 j) from ⟨_, _, _, Heap.get?_push_size _ rfl⟩), rfl, q _ (I.hok.fresh (Nat.le_refl _))⟩
theorem vals_of_items {n : Nat} {acc : Array Value} (h : ItemsOf (fun i v => ∃ t, v = Value.int (0 + (i : Int) * 1) t) acc n) : Vals ((List.range n).map fun (i : Nat) => V.int i) acc.toList := by
  obtain ⟨h1, h2⟩ := h
  have key : ∀ (l : List Value) (k : Nat), (∀ j v, l[j]? = some v → ∃ t, v = Value.int ((k + j : Nat) : Int) t) → Vals ((List.range' k l.length).map fun (i : Nat) => V.int i) l := by
    intro l
    induction l with
    | nil => intro k _; exact .nil
    | cons v l ih =>
      intro k hk
      rw [List.length_cons, List.range'_succ, List.map_cons]
      refine .cons (show ∃ t, v = Value.int (k : Int) t from by simpa using hk 0 v rfl) (ih (k + 1) fun j v hv => ?_)
      obtain ⟨t, e⟩ := hk (j + 1) v (by simpa using hv)
      exact ⟨t, by rw [e]; congr 1; omega⟩
  have := key acc.toList 0 (fun j v hv => by
    obtain ⟨t, e⟩ := h2 j v (by rw [← Array.getElem?_toList]; exact hv)
    exact ⟨t, by rw [e]; congr 1; omega⟩)
  rw [Array.length_toList, h1, ← List.range_eq_range'] at this
  exact this
theorem call_listRng (hc : X.calm = true) : CallR X (.type "list") (fun xs H Q => ∃ (p : Addr) (j : Nat), xs = [.ref p] ∧ H p = some (.rng 0 j) ∧ j ≤ 1000 ∧ ∀ l, H l = none → Q (.ref l) (upd H l (.lst ((List.range j).map fun (i : Nat) => V.int i)))) := by
  intro pins s σ H xs us Q I r h
  obtain ⟨p, j, rfl, hp, hj, q⟩ := h
  obtain ⟨u, rfl, rx⟩ := vals1 r
  cases rx
  obtain ⟨t, u, v, e⟩ := (show ObjOk X.prog X.w H s.heap p (.rng 0 j) from I.hok p _ hp)
  have hn : Builtin.Range.rangeSize 0 (j : Int) 1 = ((j : Nat) : Int) := by rw [rangeSize_one]; split <;> omega
  refine call_list_range (n := j) (I.ok.hd hc) e (small_one (by omega) (by omega) (by omega) (by omega)) hn (by omega) fun h' tk acc c hk hS hacc => ?_
  refine ⟨.ref s.heap.objs.size, _, I.laid (a := s.heap.objs.size) (t' := tk) hk (Nat.le_refl _) (show ObjOk X.prog X.w (upd H s.heap.objs.size (.lst ((List.range j).map fun (i : Nat) => V.int i))) _ _ (.lst ((List.range j).map fun (i : Nat) => V.int i)) from ⟨?_, acc.toList, c, vals_of_items hacc, by simpa using hS⟩), rfl, q _ (I.hok.fresh (Nat.le_refl _))⟩
  rw [List.length_map, List.length_range]
  exact Nat.le_of_lt (small1000 hj)
end
end L2

set_option Elab.async false
set_option linter.all false
set_option maxRecDepth 100000
/-! Over the hand layer: for i, x in enumerate(xs). -/
namespace L2
open PySem PySem.Spec PyProof.Rows
/-- enumerate of the list at a: turn by turn a new tuple -/
def Ite (K : PySem.W.Frag) (a : Addr) : It :=
  ⟨fun i H => ∃ xs x, SqL K H a xs ∧ xs[i]? = some x, fun i H v H' => ∃ p x, H p = none ∧ v = .ref p ∧ H' = upd H p (.tup [.int (i : Nat), x]) ∧ ∀ xs, SqL K H a xs → xs[i]? = some x, fun i H => ∃ xs, SqL K H a xs ∧ xs.length ≤ i⟩
theorem turn_enum {P : Program} {w : World} {K : PySem.W.Frag} {elts : List Expr} {x1} {tpos : Pos} (a e it : Addr) (hne : e ≠ it) : Turn P w K (.Tuple elts x1 tpos) (Ite K a) [e, it] e (fun i h => (∃ old, IsEnum h e it ((i : Nat) : Int) old) ∧ h.IsListIter it a i) where
  mem := by simp
  obj := fun i h st c hc => by
    obtain ⟨⟨old, he⟩, ⟨o1, e1, c1, d1⟩⟩ := st
    simp only [List.mem_cons, List.not_mem_nil, or_false] at hc
    rcases hc with rfl | rfl
    · exact ⟨_, he, fun v z => by cases (show Data.fields _ = Data.cell v from z)⟩
    · exact ⟨o1, e1, fun v z => by rw [d1] at z; cases z⟩
  keep := fun i h h' st k => by
    obtain ⟨⟨old, he⟩, h1⟩ := st
    exact ⟨⟨old, k e (by simp) _ he⟩, h1.at fun o q => k it (by simp) o q⟩
  item := by
    intro X hP hw hK hc i pins s σ H E I hf st hg
    subst hP hw hK
    obtain ⟨xs, x, hqa, hx⟩ := hg
    obtain ⟨⟨old, he⟩, h1⟩ := st
    obtain ⟨ia, ra, pa, za⟩ := I.list hqa
    obtain ⟨u1, hu1, r1⟩ := ra.get hx
    refine wpAny_pyNext_enum_item he h1 pa.isList (x := u1) (by simpa using hu1) hne fun h' a1 a2 a3 a4 hk => ?_
    refine ⟨_, rfl, wpAny_letOwnedTupleGo_enum a1 fun h2' b1 bs => ?_⟩
    have lt : ∀ {c o}, s.heap.get? c = some o → c ≠ s.heap.objs.size := fun q => Nat.ne_of_lt (Heap.lt_size q)
    have nz : s.heap.objs.size ≠ e := (lt he).symm
    have kk : ∀ c o, c ∉ [e, it] → s.heap.get? c = some o → h2'.get? c = some o := fun c o hc q => by
      simp only [List.mem_cons, List.not_mem_nil, or_false, not_or] at hc
      exact bs.extBut _ _ hc.1 (hk c o hc.1 hc.2 q)
    have hp : h2'.get? s.heap.objs.size = some { cls := .type "tuple", data := .seq #[.int i s.toks, u1] } := bs.extBut _ _ nz a3
    have g4 : h2'.IsListIter it a (i + 1) := a2.extBut bs.extBut (Ne.symm hne)
    have hob : ∀ c ∈ [e, it], ∃ o, h2'.get? c = some o := fun c hc => by
      simp only [List.mem_cons, List.not_mem_nil, or_false] at hc
      rcases hc with rfl | rfl
      · exact ⟨_, b1⟩
      · obtain ⟨o, q, _⟩ := g4; exact ⟨o, q⟩
    have I1 : Inv X pins σ (upd H s.heap.objs.size (.tup [.int (i : Nat), x])) { s with heap := h2', toks := s.toks + 1 } := I.turnedT (t' := s.toks + 1) kk hf hob (Nat.le_refl _)
      (show ObjOk X.prog X.w _ h2' _ (.tup [.int (i : Nat), x]) from ⟨by show 2 ≤ sizeLine; decide, [.int i s.toks, u1], .cons ⟨_, rfl⟩ (.cons r1 .nil), ⟨_, hp, rfl, _, rfl⟩⟩)
    have b1' : IsEnum h2' e it (((i + 1 : Nat) : Nat) : Int) u1 := b1
    refine ⟨.ref s.heap.objs.size, _, I1, rfl, ⟨s.heap.objs.size, x, I.fresh, rfl, rfl, fun zs hzs => by rw [I.list_inj hzs hqa]; exact hx⟩, ⟨⟨u1, b1'⟩, g4⟩, fun c hc => ?_⟩
    have ne : c ≠ s.heap.objs.size := by
      simp only [List.mem_cons, List.not_mem_nil, or_false] at hc
      rcases hc with rfl | rfl
      · exact lt he
      · obtain ⟨o, q, _⟩ := h1; exact lt q
    rw [upd_ne ne]
    exact (hf c hc).1
  done := by
    intro X hP hw hK hc i pins s σ H E I hf st hg
    subst hP hw hK
    obtain ⟨xs, hqa, hend⟩ := hg
    obtain ⟨⟨old, he⟩, h1⟩ := st
    obtain ⟨ia, ra, pa, za⟩ := I.list hqa
    have la := ra.length
    refine wpAny_pyNext_enum_end (I.ok.hd hc) he h1 pa.isList (by simp; omega) fun h' hk => ⟨rfl, I.turnedN (ch := [e, it]) (t' := s.toks) (fun c o hc q => ?_) hf⟩
    simp only [List.mem_cons, List.not_mem_nil, or_false, not_or] at hc
    exact hk c o hc.2 q
  self := fun _ _ _ _ _ ⟨⟨_, he⟩, _⟩ h => wpAny_pyIter_enum he h
section
variable {X : Cx}
def iEnum (K : PySem.W.Frag) (ta : TA) : TI := fun σ H R => ta σ H fun vs H1 => ∃ a xs, vs = [.ref a] ∧ SqL K H1 a xs ∧ R (Ite K a) H1
theorem pi_enum {e1 : Expr} {ta : TA} {p pos tpos : Pos} {elts : List Expr} {x1} (hg : Gl X "enumerate") (hm : X.mg "enumerate" = none) (ha : PA X [e1] ta)
    (hs : starEach [e1] X.env = (false, eval e1 X.env) :: starEach [] X.env := by rfl) (hpl : (backTo pos (starEach [] X.env)).any (·.1) = false := by rfl) : PI X (.Tuple elts x1 tpos) (.Call (.Name "enumerate" p) [e1] [] pos) (iEnum X.K ta) := by
  intro pins s σ H R I h
  refine Call_ (ld_blt I hg hm PyProof.Rows.Boot.«enumerate» (PyProof.Rows.callWith_type1 (thn (ha pos pins s σ H _ I h) fun us s1 ⟨vs, H1, I1, r1, q1⟩ => ?_) hs hpl))
  obtain ⟨a, xs, rfl, hqa, q⟩ := q1
  obtain ⟨u, rfl, ru⟩ := vals1 r1
  cases ru
  obtain ⟨ia, ra, pa, za⟩ := I1.list hqa
  refine call_enumerate_list pa.isList fun h' he hit hsz hk => ?_
  refine wpAny_pyIter_enum he ?_
  refine ⟨_, [s1.heap.objs.size + 1, s1.heap.objs.size], _, _, H1, rfl, I1.kept (h' := h') (t' := s1.toks) hk, turn_enum a _ _ (Nat.succ_ne_self _), ⟨⟨_, he⟩, hit⟩, fun c hc => ?_, q⟩
  have hge : s1.heap.objs.size ≤ c := by
    simp only [List.mem_cons, List.not_mem_nil, or_false] at hc
    rcases hc with rfl | rfl <;> omega
  exact I1.fpOk hge (I1.hok.fresh hge)
end
/-- over enumerate(xs), the list stays as it is -/
theorem for_enum {K : PySem.W.Frag} {a : Addr} {xs : List V} {g : TG} {tb : TS} {D : Ends} {σ : St} {H : Hp} (Pv : Nat → St → Hp → Prop) (h0 : Pv 0 σ H) (hl : ∀ i σ H, i ≤ xs.length → Pv i σ H → SqL K H a xs)
    (hs : ∀ (i : Nat) x p σ H, xs[i]? = some x → H p = none → Pv i σ H → g (.ref p) σ (upd H p (.tup [.int (i : Nat), x])) fun σ2 H2 => tb { D with nx := Pv (i + 1), ct := Pv (i + 1), bk := D.nx } σ2 H2) (hd : ∀ σ H, Pv xs.length σ H → D.nx σ H) :
    ∃ W : Nat → Nat → St → Hp → Prop, (∃ m, W 0 m σ H) ∧ ∀ i m σ H, W i m σ H →
      ((Ite K a).stop i H ∧ D.nx σ H) ∨ ((Ite K a).go i H ∧ ∃ N : St → Hp → Prop, (∀ σ' H', N σ' H' → ∃ m', m' < m ∧ W (i + 1) m' σ' H') ∧ ∀ x H', (Ite K a).yld i H x H' → g x σ H' fun σ2 H2 => tb { D with nx := N, ct := N, bk := D.nx } σ2 H2) := by
  refine ⟨fun i m σ H => m = xs.length - i ∧ i ≤ xs.length ∧ Pv i σ H, ⟨xs.length, by simp, Nat.zero_le _, h0⟩, ?_⟩
  rintro i m σ H ⟨rfl, hi, p⟩
  have q1 := hl i σ H hi p
  by_cases hlt : i < xs.length
  · refine .inr ⟨⟨xs, xs[i], q1, by simp [hlt]⟩, Pv (i + 1), fun σ' H' p' => ⟨xs.length - (i + 1), by omega, rfl, hlt, p'⟩, fun v H' yl => ?_⟩
    obtain ⟨pp, x, hn, rfl, rfl, hx⟩ := yl
    exact hs i x pp σ H (hx xs q1) hn p
  · have e : i = xs.length := by omega
    subst e
    exact .inl ⟨⟨xs, q1, Nat.le_refl _⟩, hd σ H p⟩
/-- [.. for a, b in zip(x, y)] -/
theorem comp_zip {K : PySem.W.Frag} {a b l : Addr} {xs ys : List V} {g : TG} {tc : TT} {te : TE} {D : Addr → Hp → Prop} {σ : St} {H : Hp} (Pv : Nat → St → Hp → Prop) (h0 : Pv 0 σ H) (hlen : xs.length = ys.length) (hl : ∀ i σ H, i ≤ xs.length → Pv i σ H → SqL K H a xs ∧ SqL K H b ys)
    (hs : ∀ i x y p σ H, xs[i]? = some x → ys[i]? = some y → H p = none → Pv i σ H → g (.ref p) σ (upd H p (.tup [x, y])) fun σ3 H3 => tc σ3 H3 fun b H4 => if b = true then te σ3 H4 fun y H5 => ∃ zs, H5 l = some (.lst zs) ∧ zs.length < sizeLine ∧ Pv (i + 1) σ3 (upd H5 l (.lst (zs ++ [y]))) else Pv (i + 1) σ3 H4)
    (hd : ∀ σ H, Pv xs.length σ H → D l H) : CompW (Itz K a b) g tc te l D σ H := by
  refine ⟨fun i m σ H => m = xs.length - i ∧ i ≤ xs.length ∧ Pv i σ H, ⟨xs.length, by simp, Nat.zero_le _, h0⟩, ?_⟩
  rintro i m σ H ⟨rfl, hi, p⟩
  obtain ⟨q1, q2⟩ := hl i σ H hi p
  by_cases hlt : i < xs.length
  · refine .inr ⟨⟨xs, ys, xs[i], ys[i]'(by omega), q1, q2, by simp [hlt], by simp [show i < ys.length by omega]⟩, Pv (i + 1), fun σ' H' p' => ⟨xs.length - (i + 1), by omega, rfl, hlt, p'⟩, fun v H' yl => ?_⟩
    obtain ⟨pp, x, y, hn, rfl, rfl, hx, hy⟩ := yl
    exact hs i x y pp σ H (hx xs q1) (hy ys q2) hn p
  · have e : i = xs.length := by omega
    subst e
    exact .inl ⟨⟨xs, ys, q1, q2, .inl (Nat.le_refl _)⟩, hd σ H p⟩
end L2

set_option Elab.async false
set_option linter.all false
set_option maxRecDepth 100000
/-! Rows of rows, gifts in a chain. -/
namespace PwM
open PySem
open Builtin.Int (intBits)
theorem bits2 {z : Int} (h1 : -(2 * lim) ≤ z) (h2 : z ≤ 2 * lim) : intBits z ≤ 300 := by
  refine intBits_le_of_natAbs (y := 2 * lim) ?_ (by decide +kernel)
  have := lim_pos
  omega
theorem fit_bits2 {a b : Int} (ha : Fit a) (hb : Fit b) : intBits (a - b) ≤ 300 := bits2 (by have := ha.1; have := hb.2; omega) (by have := ha.2; have := hb.1; omega)
theorem done_fit {ns : List Int} {i j d : Int} (h : fitB ns i j d = true) (hF : ∀ r ∈ ns, Fit r) : ∀ r ∈ doneL ns i j d, Fit r := by
  obtain ⟨i, j, rfl, rfl, hi, hj, hij, hd, hd2⟩ := fitB_true h
  have mem : ∀ k, k < ns.length → ns.getD k 0 ∈ ns := fun k hk => L2.mem_getD hk
  have fi := hF _ (mem i hi)
  have fj := hF _ (mem j hj)
  intro r hr
  unfold doneL at hr
  rw [Int.toNat_natCast, Int.toNat_natCast] at hr
  rcases List.mem_or_eq_of_mem_set hr with q | q
  · rcases List.mem_or_eq_of_mem_set q with q | q
    · exact hF r q
    · rw [q]; exact ⟨by have := fj.1; omega, by have := fi.2; omega⟩
  · rw [q]; exact ⟨by have := fj.1; omega, by have := fi.2; omega⟩
structure Chain (rss : List (List Int)) (gs : List (Int × Int × Int)) : Prop where
  len : rss.length = gs.length + 1
  step : ∀ (k : Nat) (g : Int × Int × Int) (r r' : List Int), gs[k]? = some g → rss[k]? = some r → rss[k + 1]? = some r' → fitB r g.1 g.2.1 g.2.2 = true ∧ r' = doneL r g.1 g.2.1 g.2.2
theorem Chain.start (r : List Int) : Chain [r] [] := ⟨rfl, fun k g r r' h => by simp at h⟩
theorem Chain.snoc {rss : List (List Int)} {gs : List (Int × Int × Int)} {r : List Int} {g : Int × Int × Int} (h : Chain rss gs) (hr : rss[gs.length]? = some r) (hf : fitB r g.1 g.2.1 g.2.2 = true) : Chain (rss ++ [doneL r g.1 g.2.1 g.2.2]) (gs ++ [g]) := by
  have hl := h.len
  refine ⟨by simp [hl], fun k g' x x' h1 h2 h3 => ?_⟩
  by_cases hk : k < gs.length
  · rw [List.getElem?_append_left hk] at h1
    rw [List.getElem?_append_left (by omega)] at h2
    rw [List.getElem?_append_left (by omega)] at h3
    exact h.step k g' x x' h1 h2 h3
  · have hk' : k = gs.length := by
      have := (List.getElem?_eq_some_iff.mp h1).1
      simp at this
      omega
    subst hk'
    rw [List.getElem?_append_left (by omega), hr] at h2
    rw [List.getElem?_append_right (by omega), hl, Nat.sub_self] at h3
    rw [List.getElem?_append_right (Nat.le_refl _), Nat.sub_self] at h1
    simp at h1 h2 h3
    subst h1 h2 h3
    exact ⟨hf, rfl⟩
theorem Chain.get {rss : List (List Int)} {gs : List (Int × Int × Int)} (h : Chain rss gs) {k : Nat} (hk : k ≤ gs.length) : ∃ r, rss[k]? = some r := ⟨rss[k]'(by have := h.len; omega), List.getElem?_eq_getElem _⟩
theorem Chain.walk {rss : List (List Int)} {gs : List (Int × Int × Int)} (h : Chain rss gs) {r0 : List Int} (h0 : rss[0]? = some r0) : ∀ (k : Nat) (r : List Int), k ≤ gs.length → rss[k]? = some r → walkR r0 (gs.take k) = some r
  | 0, r, _, hr => by rw [h0] at hr; cases hr; simp [walkR]
  | k + 1, r, hk, hr => by
    obtain ⟨p, hp⟩ := h.get (k := k) (by omega)
    have ih := h.walk h0 k p (by omega) hp
    have hg : gs[k]? = some gs[k] := List.getElem?_eq_getElem (by omega)
    obtain ⟨f, e⟩ := h.step k _ p r hg hp hr
    rw [List.take_add_one, hg, Option.toList, walkR_snoc ih, if_pos f, e]
theorem Chain.lens {rss : List (List Int)} {gs : List (Int × Int × Int)} (h : Chain rss gs) {r0 : List Int} (h0 : rss[0]? = some r0) {k : Nat} {r : List Int} (hr : rss[k]? = some r) : r.length = r0.length := by
  have hk : k ≤ gs.length := by
    have := (List.getElem?_eq_some_iff.mp hr).1
    have := h.len
    omega
  exact walkR_length (h.walk h0 k r hk hr)
theorem Chain.fits {rss : List (List Int)} {gs : List (Int × Int × Int)} (h : Chain rss gs) {r0 : List Int} (h0 : rss[0]? = some r0) (hF : ∀ x ∈ r0, Fit x) : ∀ (k : Nat) (r : List Int), rss[k]? = some r → ∀ x ∈ r, Fit x
  | 0, r, hr => by rw [h0] at hr; cases hr; exact hF
  | k + 1, r, hr => by
    have hk : k + 1 < rss.length := (List.getElem?_eq_some_iff.mp hr).1
    have hl := h.len
    obtain ⟨p, hp⟩ := h.get (k := k) (by omega)
    have hg : gs[k]? = some gs[k] := List.getElem?_eq_getElem (by omega)
    obtain ⟨f, e⟩ := h.step k _ p r hg hp hr
    rw [e]
    exact done_fit f (h.fits h0 hF k p hp)
theorem tops_get (r : List Int) {k : Nat} (hk : k ≤ r.length) : (tops r)[k]? = some ((desc r).take k).sum := sumsTo_get _ hk
theorem tops_last (r : List Int) : ∃ p, tops r = p ++ [r.sum] := by
  obtain ⟨p, e⟩ := sumsTo_last (desc r) r.length
  refine ⟨p, ?_⟩
  unfold tops
  rw [e, List.take_of_length_le (by rw [desc_length]; exact Nat.le_refl _), perm_sum (desc_perm r)]
end PwM
namespace L2
open PySem PySem.Spec PyProof.Rows
/-- a list of rows at a, the rows at qs -/
structure Rows (K : PySem.W.Frag) (H : Hp) (a : Addr) (qs : List Addr) (rss : List (List Int)) : Prop where
  sq : SqL K H a (qs.map V.ref)
  len : qs.length = rss.length
  at_ : ∀ (i : Nat) (q : Addr) (rs : List Int), qs[i]? = some q → rss[i]? = some rs → SqL K H q (rs.map V.int)
theorem Rows.same {K : PySem.W.Frag} {H H' : Hp} {a : Addr} {qs : List Addr} {rss : List (List Int)} (h : Rows K H a qs rss) (s : Same H H') : Rows K H' a qs rss := ⟨s.seq h.sq, h.len, fun i p g e1 e2 => s.seq (h.at_ i p g e1 e2)⟩
theorem Rows.get {K : PySem.W.Frag} {H : Hp} {a : Addr} {qs : List Addr} {rss : List (List Int)} (h : Rows K H a qs rss) {i : Nat} {r : List Int} (e : rss[i]? = some r) : ∃ q, qs[i]? = some q ∧ SqL K H q (r.map V.int) := by
  have hi : i < qs.length := by rw [h.len]; exact (List.getElem?_eq_some_iff.mp e).1
  exact ⟨qs[i], List.getElem?_eq_getElem hi, h.at_ i _ r (List.getElem?_eq_getElem hi) e⟩
theorem Gifts.get {K : PySem.W.Frag} {H : Hp} {a : Addr} {ps : List Addr} {gs : List Gv} (h : Gifts K H a ps gs) {i : Nat} {g : Gv} (e : gs[i]? = some g) : ∃ p, ps[i]? = some p ∧ SqT K H p [.int g.1, .int g.2.1, .int g.2.2] := by
  have hi : i < ps.length := by rw [h.len]; exact (List.getElem?_eq_some_iff.mp e).1
  exact ⟨ps[i], List.getElem?_eq_getElem hi, h.at_ i _ g (List.getElem?_eq_getElem hi) e⟩
theorem atI_neg1 {α : Type} {xs : List α} {v : α} (h : xs[xs.length - 1]? = some v) : atI xs (-1) = some v := by
  have hl : xs.length - 1 < xs.length := (List.getElem?_eq_some_iff.mp h).1
  have e : xs = xs.dropLast ++ [v] := by
    have hne : xs ≠ [] := fun z => by rw [z] at hl; simp at hl
    have h2 : xs.getLast hne = v := by
      rw [List.getLast_eq_getElem]
      rw [List.getElem?_eq_getElem hl] at h
      exact Option.some.inj h
    rw [← h2]
    exact (List.dropLast_concat_getLast hne).symm
  rw [e]
  exact atI_last _ v
end L2

set_option Elab.async false
set_option linter.all false
set_option maxRecDepth 100000
/-! Gaps and dues of two rows; == of two lists of rows. -/
namespace PwM
def Like (ns ms : List Int) : Prop := ns.length = ms.length ∧ ns.sum = ms.sum
theorem Like.symm {ns ms : List Int} (h : Like ns ms) : Like ms ns := ⟨h.1.symm, h.2.symm⟩
/-- the k fullest of ms hold more than those of ns -/
def Ahead (ns ms : List Int) (k : Nat) : Prop := ((desc ns).take k).sum < ((desc ms).take k).sum
def IsGap (ns ms : List Int) : Option Nat → Prop
  | none => ∀ k, k ≤ ns.length → ¬ Ahead ns ms k
  | some k => k ≤ ns.length ∧ Ahead ns ms k ∧ ∀ j, j < k → ¬ Ahead ns ms j
theorem IsGap.uniq {ns ms : List Int} {a b : Option Nat} (h1 : IsGap ns ms a) (h2 : IsGap ns ms b) : a = b := by
  cases a with
  | none =>
    cases b with
    | none => rfl
    | some k => exact absurd h2.2.1 (h1 k h2.1)
  | some j =>
    cases b with
    | none => exact absurd h1.2.1 (h2 j h1.1)
    | some k =>
      rcases Nat.lt_trichotomy j k with q | q | q
      · exact absurd h1.2.1 (h2.2.2 j q)
      · rw [q]
      · exact absurd h2.2.1 (h1.2.2 k q)
theorem ahead_zero (ns ms : List Int) : ¬ Ahead ns ms 0 := by
  unfold Ahead
  simp
theorem IsGap.exists (ns ms : List Int) : ∃ o, IsGap ns ms o := by
  have go : ∀ n, (∀ k, k < n → ¬ Ahead ns ms k) ∨ ∃ k, k < n ∧ Ahead ns ms k ∧ ∀ j, j < k → ¬ Ahead ns ms j := by
    intro n
    induction n with
    | zero => exact .inl fun k hk => by omega
    | succ n ih =>
      rcases ih with h | ⟨k, h1, h2, h3⟩
      · by_cases hn : Ahead ns ms n
        · exact .inr ⟨n, by omega, hn, h⟩
        · refine .inl fun k hk => ?_
          by_cases e : k = n
          · rw [e]; exact hn
          · exact h k (by omega)
      · exact .inr ⟨k, by omega, h2, h3⟩
  rcases go (ns.length + 1) with h | ⟨k, h1, h2, h3⟩
  · exact ⟨none, fun k hk => h k (by omega)⟩
  · exact ⟨some k, by omega, h2, h3⟩
/-- what each rank holds more -/
def moreL (ns ms : List Int) : List Int := List.zipWith (fun a b => a - b) (desc ns) (desc ms)
def dueL (ns ms : List Int) : List Int := (moreL ns ms).filter fun z => decide (0 < z)
theorem moreL_length {ns ms : List Int} (h : ns.length = ms.length) : (moreL ns ms).length = ns.length := by
  unfold moreL
  rw [List.length_zipWith, desc_length, desc_length]
  omega
theorem moreL_get {ns ms : List Int} {k : Nat} {x y : Int} (h1 : (desc ns)[k]? = some x) (h2 : (desc ms)[k]? = some y) : (moreL ns ms)[k]? = some (x - y) := by
  unfold moreL
  rw [List.getElem?_zipWith, h1, h2]
theorem due_self {ns ms : List Int} (h : ns.Perm ms) : (dueL ns ms).sum = 0 := by
  unfold dueL moreL
  rw [desc_congr h]
  have : (List.zipWith (fun a b : Int => a - b) (desc ms) (desc ms)).filter (fun z => decide (0 < z)) = [] := by
    rw [List.filter_eq_nil_iff]
    intro z hz
    obtain ⟨i, hi⟩ := List.getElem?_of_mem hz
    rw [List.getElem?_zipWith] at hi
    cases e : (desc ms)[i]? with
    | none => rw [e] at hi; cases hi
    | some x =>
      rw [e] at hi
      have := Option.some.inj hi
      simp
      omega
  rw [this]
  rfl
theorem filter_snoc (l : List Int) (i : Nat) {z : Int} (h : l[i]? = some z) (p : Int → Bool) : (l.take (i + 1)).filter p = (l.take i).filter p ++ if p z = true then [z] else [] := by
  rw [List.take_add_one, h, List.filter_append]
  cases e : p z <;> simp [e]
theorem gap_level (ns : List Int) : IsGap ns (level ns) none := fun k hk h => by
  have e : desc (level ns) = level ns := (desc_of (List.Perm.refl _) (level_sorted ns)).symm
  unfold Ahead at h
  rw [e] at h
  have := level_below (desc_sorted ns) (desc_perm ns) k hk
  omega
theorem like_level (ns : List Int) : Like ns (level ns) := ⟨(level_length ns).symm, (level_sum ns).symm⟩
theorem level_get {ns : List Int} (h0 : 0 < ns.length) {k : Nat} (h : k < ns.length) : (level ns)[k]? = some (ns.sum / ns.length + if (k : Int) < ns.sum % ns.length then 1 else 0) := by
  have hb := rest_bounds h0
  unfold level
  by_cases hk : (k : Int) < ns.sum % ns.length
  · rw [if_pos hk, List.getElem?_append_left (by rw [List.length_replicate]; omega), List.getElem?_replicate, if_pos (by omega)]
  · rw [if_neg hk, List.getElem?_append_right (by rw [List.length_replicate]; omega), List.length_replicate, List.getElem?_replicate, if_pos (by omega), Int.add_zero]
end PwM
namespace L2
open PySem PySem.Spec PyProof.Rows
def optV : Option Nat → V
  | none => .non
  | some k => .int k
section
variable {X : Cx}
/-- a tuple of targets, K said (within a comprehension) -/
theorem pg_tupK {K : PySem.W.Frag} {es : List Expr} {k n : Nat} {t : TGs} {pos : Pos} (hK : X.K = K) (hc : X.calm = true) (h : PGs X es t) (hn : (assignEach es X.env).length = n) (hst : (assignEach es X.env).findIdx? (·.1) = none) : PG X (.Tuple es k pos) (gTup K n t) := by
  subst hK
  exact pg_tup hc h hn hst
theorem all_eq {n : Nat} {e : Nat → Bool} (h : ∀ j, j < n → e j = true) : (List.range n).all e = true := by
  rw [List.all_eq_true]
  exact fun j hj => h j (List.mem_range.mp hj)
/-- two lists of two rows each, alike -/
def rEqLL (K : PySem.W.Frag) : R2 := fun x y H Q => ∃ (a b p1 p2 q1 q2 : Addr) (ns ms : List Int), x = .ref a ∧ y = .ref b ∧ SqL K H a [.ref p1, .ref p2] ∧ SqL K H b [.ref q1, .ref q2] ∧ SqL K H p1 (ns.map V.int) ∧ SqL K H q1 (ns.map V.int) ∧ SqL K H p2 (ms.map V.int) ∧ SqL K H q2 (ms.map V.int) ∧ Q (.bl true) H
theorem ints_eqAt {A : Around} {pins : List (Addr × Obj)} {σ : St} {H : Hp} {s : Shared} {p q : Addr} {ns : List Int} (I : Inv X pins σ H s) (hu : A.units < cLine) (h1 : SqL X.K H p (ns.map V.int)) (h2 : SqL X.K H q (ns.map V.int)) : SeqAt.EqAt A s (.ref p) (.ref q) true := by
  by_cases e : p = q
  · rw [e]
    exact SeqAt.EqAt.same _
  · refine SeqAt.EqAt.of_refs e ?_
    obtain ⟨i1, r1, t1, _⟩ := I.list h1
    obtain ⟨i2, r2, t2, _⟩ := I.list h2
    have l1 : i1.length = ns.length := by rw [← r1.length, List.length_map]
    have l2 : i2.length = ns.length := by rw [← r2.length, List.length_map]
    have := SeqAt.RcAt.lists (A := A) (s := s) (e := fun _ => true) t1.isList t2.isList (by simp [l1, l2]) hu (fun j h1 h2 => ?_)
    · rw [all_eq (fun _ _ => rfl)] at this
      exact this
    · have hj : j < ns.length := by simpa [l1] using h1
      obtain ⟨u1, e1, g1⟩ := r1.get (i := j) (x := .int ns[j]) (by simp [hj])
      obtain ⟨u2, e2, g2⟩ := r2.get (i := j) (x := .int ns[j]) (by simp [hj])
      obtain ⟨t1, rfl⟩ := g1
      obtain ⟨t2, rfl⟩ := g2
      have k1 : i1.toArray[j] = .int ns[j] t1 := by
        rw [List.getElem?_eq_getElem (by omega)] at e1
        simpa using e1
      have k2 : i2.toArray[j] = .int ns[j] t2 := by
        rw [List.getElem?_eq_getElem (by omega)] at e2
        simpa using e2
      rw [k1, k2]
      have := SeqAt.EqAt.int_int (A := A.in1) (s := s) ns[j] t1 ns[j] t2
      rw [beq_self_eq_true] at this
      exact this
theorem op_eqLL (hu : X.A.units + 64 < cLine) : OpR X (compareOp .Eq) (rEqLL X.K) := by
  intro pins s σ H x y v u Q I rx ry h
  obtain ⟨a, b, p1, p2, q1, q2, ns, ms, rfl, rfl, ha, hb, k1, k2, k3, k4, q⟩ := h
  cases rx
  cases ry
  obtain ⟨i1, r1, t1, _⟩ := I.list ha
  obtain ⟨i2, r2, t2, _⟩ := I.list hb
  obtain ⟨u1, u2, rfl, g1, g2⟩ := vals2 r1
  obtain ⟨w1, w2, rfl, g3, g4⟩ := vals2 r2
  cases g1
  cases g2
  cases g3
  cases g4
  refine SeqAt.eq_listAt (e := fun _ => true) t1.isList t2.isList rfl (by omega) (fun j h1 h2 => ?_) ?_
  · have hu1 : X.A.in1.units < cLine := by
      have : X.A.in1.units ≤ X.A.units + 64 := by unfold Around.in1; simp
      omega
    match j, h1 with
    | 0, _ => exact ints_eqAt I hu1 k1 k2
    | 1, _ => exact ints_eqAt I hu1 k3 k4
  · rw [all_eq (fun _ _ => rfl)]
    exact ⟨.bl true, H, I, rfl, q⟩
end
end L2

set_option Elab.async false
set_option linter.all false
set_option maxRecDepth 100000
/-! A lambda as the key of sorted; a table that grows. -/
namespace L2
open PySem PySem.Spec PyProof.Rows PySem.W
/-! ### sorted over a range object, with a key -/
section
variable {prog : Program} {w : World} {A : Around} {E : Value → Shared → Prop} {s : Shared}
theorem collect_range {Q : List Value → Shared → Prop} {r : Addr} {a b c : Int} {t u v : Tok} {n : Nat} (hh : A.handled = none) (hr : IsRange s.heap r a b c t u v) (hsmall : Builtin.Range.small a b c = true)
    (hn : Builtin.Range.rangeSize a b c = n) (hlen : n ≤ 2 ^ 24)
    (h : ∀ h' tk acc, (∀ b o, s.heap.get? b = some o → h'.get? b = some o) → s.heap.objs.size < h'.objs.size → ItemsOf (fun i v => ∃ t, v = .int (a + i * c) t) acc n → Q acc.toList { s with heap := h', toks := tk }) :
    wpAny (model prog w) A (collect (.ref r)) Q E s := by
  unfold collect
  refine wpAny_bind (wpAny_runValue (codeAny_builtin PySem.F.entry_proto_collect ?_))
  rw [Around.under_plainId PySem.F.plain_proto_collect _]
  show wpAny _ A.in1 (newList [] >>= fun l => again (.builtin "list.__iadd__" ⟨[l, .ref r], []⟩)) _ _ s
  refine wpAny_bind (wpAny_newObj_type ?_)
  refine wpAny_pure ⟨plainId_quiet PySem.F.plain_list_iadd _, codeAny_builtin PySem.F.entry_list_iadd ?_⟩
  rw [Around.under_plainId PySem.F.plain_list_iadd _]
  show wpAny _ A.in1 (Builtin.List.listExtendWith (.ref s.heap.objs.size) (.ref r) (.ref s.heap.objs.size)) _ _ _
  refine wpAny_mono (wpAny_extend_range (A := A) (s := { s with heap := s.heap.push { cls := .type "list", data := .seq ([] : List Value).toArray } })
    (R := fun r' s' => r' = .ok (.ret (.ref s.heap.objs.size)) ∧ ∃ (h' : Heap) (tk : Nat) (acc : Array Value) (c' : Nat), s' = { s with heap := h', toks := tk } ∧ (∀ b o, s.heap.get? b = some o → h'.get? b = some o) ∧
      h'.get? s.heap.objs.size = some { cls := .type "list", data := .seq acc c' } ∧ ItemsOf (fun i v => ∃ t, v = .int (a + i * c) t) acc n) hh (Heap.get?_push_of_some _ hr) hsmall hn hlen s.heap.objs.size (.ref s.heap.objs.size) 0 (Heap.get?_push_size _ rfl)
    fun h' tk acc c' hk hS hacc => ⟨rfl, h', tk, acc, c', rfl, fun b o e => hk b o (Nat.ne_of_lt (Heap.lt_size e)) (Heap.get?_push_of_some _ e), hS, hacc⟩) (fun fin s' hf => ?_) (fun e s' hf => nomatch hf.1)
  have key : ∀ (h' : Heap) (tk : Nat) (acc : Array Value) (c' : Nat), (∀ b o, s.heap.get? b = some o → h'.get? b = some o) → h'.get? s.heap.objs.size = some { cls := .type "list", data := .seq acc c' } → ItemsOf (fun i v => ∃ t, v = .int (a + i * c) t) acc n →
      wpAny (model prog w) A (do
        let o ← load s.heap.objs.size
        match o.data with
        | .seq xs _ => pure xs.toList
        | _ => unsupported "internal:collect") Q E { s with heap := h', toks := tk } := fun h' tk acc c' k1 k2 k3 => wpAny_bind (wpAny_load k2 (wpAny_pure (h h' tk acc k1 (Heap.lt_size k2) k3)))
  cases fin with
  | done f =>
    obtain ⟨e, h', tk, acc, c', rfl, k1, k2, k3⟩ := hf
    cases e
    exact key h' tk acc c' k1 k2 k3
  | again c2 =>
    refine ⟨hf.1, codeAny_mono hf.2 fun r' s' z => ?_⟩
    obtain ⟨rfl, h', tk, acc, c', rfl, k1, k2, k3⟩ := z
    exact key h' tk acc c' k1 k2 k3
end
section
variable {prog : Program} {w : World} {A : Around} {E : Value → Shared → Prop} {s : Shared} {h₀ : Heap} {L : Addr} {m : Str → Option Value} {news : List (Addr × Obj)} {b : Bool} {Q : Value → Shared → Prop}
theorem sorted_rng {f : Value} {kw : List (Str × Value)} {r : Addr} {n : Nat} {t u v : Tok} (g : Int → Int) (hh : A.handled = none) (F : Fr h₀ L s.heap m) (N : News h₀ L s.heap news) (hr : IsRange s.heap r 0 n 1 t u v) (h64 : n < 64)
    (ha1 : argsOk "sorted" ⟨[.ref r], kw⟩) (ha2 : ∀ x, argsOk "list.sort" ⟨[.ref x], kw⟩) (ht : ∀ x, Builtin.«list.sort» ⟨[.ref x], kw⟩ = ksk_tree x f b)
    (turn : ∀ (i : Nat) (t : Tok) (h : Heap) (tk : Nat) (own : List (Addr × Obj)), i < n → Fr h₀ L h m → News h₀ L h (news ++ own) →
      wpAny (model prog w) A.in1.in1 (call f [.int i t]) (KskEnd h₀ L m (news ++ own) (g i) { s with heap := h, toks := tk }) (fun _ _ => False) { s with heap := h, toks := tk })
    (done : ∀ D vs' (ns' : List Int) c h' tk, Fr h₀ L h' m → News h₀ L h' ((D, seqObj "list" vs' c) :: news) → s.heap.objs.size ≤ D → IntsAre vs'.toList ns' → ns'.Perm ((List.range n).map fun (i : Nat) => (i : Int)) →
      ns'.Pairwise (fun x y => if b then g y ≤ g x else g x ≤ g y) → Q (.ref D) { s with heap := h', toks := tk }) :
    wpAny (model prog w) A (call (.builtin "sorted") [.ref r] kw) Q E s := by
  have hn : Builtin.Range.rangeSize 0 (n : Int) 1 = ((n : Nat) : Int) := by rw [rangeSize_one]; split <;> omega
  refine call_function_entry_kw kind_sorted plain_sorted entry_sorted ha1 ?_
  unfold Builtin.«sorted»
  refine wpAny_bind (m := checkCount "sorted" 1 1 _) (wpAny_pure ?_)
  refine wpAny_bind (collect_range hh hr (small_one (by omega) (by omega) (by omega) (by omega)) hn (by omega) fun h1 tk1 acc hk1 hsz1 hacc => ?_)
  have hv := vals_of_items hacc
  have hv' : Vals (((List.range n).map fun (i : Nat) => (i : Int)).map V.int) acc.toList := by rw [List.map_map]; exact hv
  have hi : IntsAre acc.toList ((List.range n).map fun (i : Nat) => (i : Int)) := intsAre_of hv'
  have hlen : acc.toList.length = n := by have := hi.length; simpa using this
  generalize hvs : acc.toList = vs at *
  refine wpAny_bind (wpAny_newList ?_ (by rw [sizeLine_eq]; omega))
  have hoL : (h1.push (seqObj "list" vs.toArray 0)).get? h1.objs.size = some (seqObj "list" vs.toArray 0) := Heap.get?_push_size _ rfl
  have keep : ∀ b o, s.heap.get? b = some o → (h1.push (seqObj "list" vs.toArray 0)).get? b = some o := fun b o q => Heap.get?_push_of_some _ (hk1 b o q)
  have hL : L < s.heap.objs.size := F.ns.lt
  refine wpAny_bind (wpAny_holding (wpAny_call_entry_kw slot_list_sort ⟨_, hoL, rfl⟩ entry_list_sort ?body (ha2 _)))
  case body =>
    have ht' := ht h1.objs.size
    show wpAny (model prog w) A.in1.in1 (Builtin.«list.sort» ⟨[.ref h1.objs.size], kw⟩) _ _ _
    rw [ht']
    refine ksk_sort (kz := ((List.range n).map fun (i : Nat) => g (i : Int))) (s := { s with heap := h1.push (seqObj "list" vs.toArray 0), toks := tk1 })
      (F.kept keep) (N.grown keep) hoL (Nat.ne_of_gt (Nat.lt_trans hL hsz1)) (Heap.get?_none_of_le (Nat.le_trans F.above (Nat.le_of_lt (Nat.lt_trans hL hsz1))))
      (fun p hp => Nat.ne_of_lt (Nat.lt_trans (Heap.lt_size (N p hp).1) hsz1)) (by rw [List.length_map, List.length_range, hlen]) (by omega) (fun i v k hv hk h tk own F' N' => ?_) fun h' tk out c F' N' ko => ⟨_, rfl, ?_⟩
    · have hin : i < n := by rw [← hlen]; exact (List.getElem?_eq_some_iff.mp hv).1
      rw [List.getElem?_map, List.getElem?_range hin] at hk
      have hk' : some (g i) = some k := hk
      cases hk'
      obtain ⟨t, ht'⟩ := hi.get i (i : Int) (by rw [List.getElem?_map, List.getElem?_range hin]; rfl)
      rw [ht'] at hv
      cases hv
      exact turn i t h tk own hin F' N'
    · refine wpAny_pure ⟨_, rfl, ?_⟩
      obtain ⟨ps, hp, ho, hs⟩ := ko
      have hrel : ∀ p, p ∈ ((List.range n).map fun (i : Nat) => g (i : Int)).zip vs → p.1 = g (numOf p.2) ∧ p.2 ∈ vs := by
        have e : ((List.range n).map fun (i : Nat) => g (i : Int)) = vs.map fun x => g (numOf x) := by
          have := hi.nums
          rw [show (vs.map fun x => g (numOf x)) = (vs.map numOf).map g by rw [List.map_map]; rfl, this, List.map_map]
          rfl
        rw [e, List.zip_map_left]
        intro p hp
        obtain ⟨⟨u, v⟩, hq, rfl⟩ := List.mem_map.mp hp
        have h1 : u = v ∧ u ∈ vs := mem_zip_self hq
        refine ⟨?_, ?_⟩
        · show g (numOf u) = g (numOf v)
          rw [h1.1]
        · show v ∈ vs
          rw [← h1.1]
          exact h1.2
      have hI : IntsAre (ps.map Prod.snd) ((ps.map Prod.snd).map numOf) := intsAre_map _ fun v hv => by
        obtain ⟨p, hp', rfl⟩ := List.mem_map.mp hv
        exact hi.all _ (hrel p (hp.mem_iff.mp hp')).2
      have hP : ((ps.map Prod.snd).map numOf).Perm ((List.range n).map fun (i : Nat) => (i : Int)) := by
        have h1 := (hp.map Prod.snd).map numOf
        rw [List.map_snd_zip (by rw [List.length_map, List.length_range]; omega), hi.nums] at h1
        exact h1
      have hO : ((ps.map Prod.snd).map numOf).Pairwise (fun x y => if b then g y ≤ g x else g x ≤ g y) := by
        rw [List.pairwise_map, List.pairwise_map]
        refine hs.imp_of_mem fun {p q} hp' hq' hr => ?_
        have hr' : if b then q.1 ≤ p.1 else p.1 ≤ q.1 := hr
        rw [(hrel p (hp.mem_iff.mp hp')).1, (hrel q (hp.mem_iff.mp hq')).1] at hr'
        exact hr'
      rw [← ho] at hI hP hO
      exact done _ out _ c h' tk F' N' (Nat.le_of_lt hsz1) hI hP hO
end
/-! ### the call of a lambda row[place] -/
section
variable {prog : Program} {w : World} {A : Around} {E : Value → Shared → Prop} {s : Shared}
theorem lam_call {f c c' l : Addr} {x y name qual : Str} {p1 p2 p3 : Pos} {params : Arguments} {scope : Scope} {pm ctv v : Value} {items : Array Value} {i : Nat} {t : Tok} (hroom : A.depth < recursionLimit)
    (ho : s.heap.get? f = some (kla_obj name qual params (.Subscript (.Name x p1) (.Name y p2) p3) scope [(x, c)] pm c' ctv)) (hcd : s.heap.CodeRec (.ref c') qual) (lim : s.heap.NoLimit)
    (hc : s.heap.IsCell c (some (.ref l))) (hl : s.heap.IsList l items) (hi : items[i]? = some v) (hi63 : i < 64)
    (hbind : ∀ cv u, bindArgs (kla_fn name qual params (.Subscript (.Name x p1) (.Name y p2) p3) scope [(x, c)] pm cv ctv) ⟨[u], []⟩ = pure [(y, u)])
    (hk : scope.kind = .function) (hco : scope.isCoroutine = false) (hgen : scope.isGenerator = false) (hnc : ∀ z ∈ scope.names, z.2 ≠ .cell) (hy : scope.names.lookup y = some .local) (hx : scope.names.lookup x = some .free)
    (dx : (x == ("__debug__" : Str)) = false) (dy : (y == ("__debug__" : Str)) = false) (dcx : (x == ("__classdict__" : Str)) = false) :
    wpAny (model prog w) A (call (.ref f) [.int i t]) (fun u s' => u = v ∧ ∃ h' tk, s' = { s with heap := h', toks := tk } ∧ ∀ b o, s.heap.get? b = some o → h'.get? b = some o) E s := by
  refine wpAny_call ?_
  refine kla_callFunE hroom ho rfl hco hgen rfl hcd ?_
  rw [hbind]
  refine wpAny_pure (wpAny_newFunctionEnv hnc (fun z hz => by rw [List.mem_singleton.mp hz]; exact hy) (fun h₁ hns hsb => ⟨lim.fresh _ hsb, ?_⟩) hk)
  have hk₁ : ∀ b o, s.heap.get? b = some o → h₁.get? b = some o := fun b o e => hsb.extBut b o (Nat.ne_of_lt (Heap.lt_size e)) (Heap.get?_push_of_some _ e)
  show codeAny _ _ (.expr _ (envX qual scope s.heap.objs.size f (.ref c') [(x, c)])) _ _
  refine kla_codeExpr (Subscript_ ?_)
  refine wpAny_Name (wpAny_loadName_free hk hx (by simp [List.lookup]) (hc.keeps hk₁) ?_ dcx) dx
  refine wpAny_Name (wpAny_loadName_local hk hy hns (v := .int i t) (by simp [List.lookup]) ?_) dy
  obtain ⟨o, e1, e2⟩ := hl
  exact item_listR (l := l) (items := items) (x := v) ⟨o, hk₁ _ _ e1, e2⟩ (by omega) (by omega) (by simpa using hi) ⟨rfl, h₁, _, rfl, hk₁⟩
end
end L2

set_option Elab.async false
set_option linter.all false
set_option maxRecDepth 100000
/-! What is handed on; what is due along gifts. -/
namespace PwM
/-! ### what is handed on from the fullest to the emptiest -/
def posSum (l : List Int) : Int := (l.map fun x => max x 0).sum
def nzc (l : List Int) : Int := (l.map fun x => if x = 0 then 0 else 1).sum
def amounts (gs : List (Int × Int × Int)) : Int := (gs.map fun g => g.2.2).sum
theorem amounts_snoc (gs : List (Int × Int × Int)) (g : Int × Int × Int) : amounts (gs ++ [g]) = amounts gs + g.2.2 := by simp [amounts]
theorem nzc_nonneg : ∀ l : List Int, 0 ≤ nzc l
  | [] => by simp [nzc]
  | x :: l => by
    have := nzc_nonneg l
    unfold nzc at *
    simp only [List.map_cons, List.sum_cons]
    split <;> omega
theorem nzc_le : ∀ l : List Int, nzc l ≤ l.length
  | [] => by simp [nzc]
  | x :: l => by
    have := nzc_le l
    unfold nzc at *
    simp only [List.map_cons, List.sum_cons, List.length_cons]
    split <;> omega
theorem nzc_two {l : List Int} {i j : Nat} (hi : i < l.length) (hj : j < l.length) (hij : i ≠ j) (h1 : l.getD i 0 ≠ 0) (h2 : l.getD j 0 ≠ 0) : 2 ≤ nzc l := by
  have n := nzc_nonneg ((l.set i 0).set j 0)
  unfold nzc at *
  rw [sum_map_set _ _ j _ (by simpa using hj), sum_map_set _ _ i _ hi, getD_set_ne hij, if_neg h1, if_neg h2] at n
  simp at n
  omega
theorem posSum_filter : ∀ l : List Int, posSum l = (l.filter fun z => decide (0 < z)).sum
  | [] => by simp [posSum]
  | x :: l => by
    have ih := posSum_filter l
    unfold posSum at *
    rw [List.map_cons, List.sum_cons, ih, List.filter_cons]
    by_cases h : 0 < x
    · rw [if_pos (decide_eq_true h), List.sum_cons]
      omega
    · rw [if_neg (by simpa using h)]
      omega
theorem getD_of_le {l : List Int} {i : Nat} (h : l.length ≤ i) : l.getD i 0 = 0 := by
  simp [List.getD, List.getElem?_eq_none_iff.mpr h]
theorem sum_pos_ex : ∀ (l : List Int), 0 < l.sum → ∃ j, j < l.length ∧ 0 < l.getD j 0
  | [], h => by simp at h
  | x :: l, h => by
    by_cases hx : 0 < x
    · exact ⟨0, by simp, by simpa using hx⟩
    · rw [List.sum_cons] at h
      obtain ⟨j, h1, h2⟩ := sum_pos_ex l (by omega)
      exact ⟨j + 1, by simpa using h1, by simpa using h2⟩
theorem sum_zero_all : ∀ (l : List Int), (∀ i, i < l.length → 0 ≤ l.getD i 0) → l.sum = 0 → ∀ i, l.getD i 0 = 0
  | [], _, _, i => by simp
  | x :: l, h, hs, i => by
    have h0 : 0 ≤ x := by simpa using h 0 (by simp)
    have hl : ∀ i, i < l.length → 0 ≤ l.getD i 0 := fun i hi => by simpa using h (i + 1) (by simpa using hi)
    have hp : 0 ≤ l.sum := by
      rcases Int.lt_or_le l.sum 0 with q | q
      · obtain ⟨j, h1, h2⟩ := sum_pos_ex (l.map fun x => -x) (by
          have : ∀ l : List Int, (l.map fun x => -x).sum = -l.sum := fun l => by
            induction l with
            | nil => simp
            | cons x l ih => simp only [List.map_cons, List.sum_cons, ih]; omega
          rw [this]; omega)
        rw [List.length_map] at h1
        have := hl j h1
        have e : (l.map fun x => -x).getD j 0 = -(l.getD j 0) := by simp [List.getD, h1]
        omega
      · exact q
    rw [List.sum_cons] at hs
    have e1 : x = 0 := by omega
    have e2 : l.sum = 0 := by omega
    cases i with
    | zero => simpa using e1
    | succ i => simpa using sum_zero_all l hl e2 i
theorem take_getD {l : List Int} {i k : Nat} (h : i < k) : (l.take k).getD i 0 = l.getD i 0 := by
  simp [List.getD, List.getElem?_take_of_lt h]
theorem done_take {l : List Int} {i j k : Nat} {d : Int} (hi : i < k) (hj : j < k) : (doneL l i j d).take k = doneL (l.take k) i j d := by
  unfold doneL
  rw [Int.toNat_natCast, Int.toNat_natCast, List.take_set, List.take_set, take_getD hi, take_getD hj]
theorem done_getD_l {l : List Int} {i j : Nat} {d : Int} (hi : i < l.length) (hij : i ≠ j) : (doneL l i j d).getD i 0 = l.getD i 0 - d := by
  unfold doneL
  rw [Int.toNat_natCast, Int.toNat_natCast, getD_set_ne (Ne.symm hij), getD_set_eq hi]
theorem done_getD_r {l : List Int} {i j : Nat} {d : Int} (hj : j < l.length) : (doneL l i j d).getD j 0 = l.getD j 0 + d := by
  unfold doneL
  rw [Int.toNat_natCast, Int.toNat_natCast, getD_set_eq (by simpa using hj)]
theorem done_getD_o {l : List Int} {i j k : Nat} {d : Int} (hi : k ≠ i) (hj : k ≠ j) : (doneL l i j d).getD k 0 = l.getD k 0 := by
  unfold doneL
  rw [Int.toNat_natCast, Int.toNat_natCast, getD_set_ne (Ne.symm hj), getD_set_ne (Ne.symm hi)]
theorem nat_getD {idx : List Nat} {i : Nat} (h : i < idx.length) : idx.getD i 0 = idx[i] := by simp [List.getD, h]
/-- what stays so while taker t takes from giver g -/
structure Hand (one w : List Int) (idx : List Nat) (more : List Int) (u t g : Nat) (left : List Int) (gs : List (Int × Int × Int)) (here : List Int) : Prop where
  llen : left.length = idx.length
  sums : ∀ k, u ≤ k → k ≤ idx.length → (left.take k).sum = (more.take k).sum
  nonneg : ∀ i, i < t → 0 ≤ left.getD i 0
  zero : ∀ i, i < g → left.getD i 0 = 0
  walk : walkR one gs = some here
  hlen : here.length = idx.length
  at_ : ∀ i, i < idx.length → here.getD (idx.getD i 0) 0 = w.getD i 0 + left.getD i 0
  cnt : (gs.length : Int) + max (nzc left - 1) 0 ≤ max ((idx.length : Int) - 1) 0
  amt : amounts gs + posSum left = posSum more
  gsl : gs.length ≤ idx.length
/-- the rows that are handed: w the second row, the fullest first; idx the places of the first row, the fullest first -/
structure HandIn (one w : List Int) (idx : List Nat) (more : List Int) : Prop where
  wlen : w.length = idx.length
  wdesc : w.Pairwise (fun a b => b ≤ a)
  mlen : more.length = idx.length
  olen : one.length = idx.length
  perm : idx.Perm (List.range idx.length)
  at0 : ∀ i, i < idx.length → one.getD (idx.getD i 0) 0 = w.getD i 0 + more.getD i 0
  pre : ∀ k, k ≤ idx.length → 0 ≤ (more.take k).sum
  tot : more.sum = 0
theorem HandIn.nd {one w : List Int} {idx : List Nat} {more : List Int} (h : HandIn one w idx more) {i j : Nat} (hi : i < idx.length) (hj : j < idx.length) (hij : i ≠ j) : idx.getD i 0 ≠ idx.getD j 0 := by
  have n : idx.Nodup := h.perm.nodup_iff.mpr List.nodup_range
  have p := List.pairwise_iff_getElem.mp n
  rw [nat_getD hi, nat_getD hj]
  rcases Nat.lt_or_gt_of_ne hij with q | q
  · exact p i j hi hj q
  · exact fun z => p j i hj hi q z.symm
theorem HandIn.lt {one w : List Int} {idx : List Nat} {more : List Int} (h : HandIn one w idx more) (i : Nat) (hi : i < idx.length) : idx.getD i 0 < idx.length := by
  rw [nat_getD hi]
  exact List.mem_range.mp (h.perm.mem_iff.mp (List.getElem_mem hi))
section
variable {one w : List Int} {idx : List Nat} {more : List Int} {u t g : Nat} {left : List Int} {gs : List (Int × Int × Int)} {here : List Int}
theorem Hand.start (h : HandIn one w idx more) : Hand one w idx more 0 0 0 more [] one where
  llen := h.mlen
  sums := fun _ _ _ => rfl
  nonneg := fun i hi => by omega
  zero := fun i hi => by omega
  walk := by simp [walkR]
  hlen := h.olen
  at_ := h.at0
  cnt := by
    have h1 := nzc_le more
    rw [h.mlen] at h1
    simp
    omega
  amt := by simp [amounts]
  gsl := by simp
theorem take_succ_sum {l : List Int} {t : Nat} (h : t < l.length) : (l.take (t + 1)).sum = (l.take t).sum + l.getD t 0 := by
  have e : l[t]? = some (l.getD t 0) := by simp [List.getD, h]
  exact take_sum l e

theorem Hand.weak {u' : Nat} (x : Hand one w idx more u t g left gs here) (h : u ≤ u') : Hand one w idx more u' t g left gs here := { x with sums := fun k hk => x.sums k (by omega) }
theorem Hand.next (x : Hand one w idx more (t + 1) t g left gs here) (h : ¬ left.getD t 0 < 0) : Hand one w idx more (t + 1) (t + 1) g left gs here := by
  refine { x with nonneg := fun i hi => ?_ }
  by_cases e : i = t
  · rw [e]; omega
  · exact x.nonneg i (by omega)
/-- someone in front still holds more -/
theorem Hand.giver (h : HandIn one w idx more) (x : Hand one w idx more (t + 1) t g left gs here) (ht : t < idx.length) (hneg : left.getD t 0 < 0) : ∃ j, g ≤ j ∧ j < t ∧ 0 < left.getD j 0 := by
  have e := take_succ_sum (l := left) (t := t) (by rw [x.llen]; exact ht)
  have hs := x.sums (t + 1) (Nat.le_refl _) (by omega)
  have hp := h.pre (t + 1) (by omega)
  obtain ⟨j, h1, h2⟩ := sum_pos_ex (left.take t) (by omega)
  rw [List.length_take] at h1
  rw [take_getD (by omega)] at h2
  rcases Nat.lt_or_ge j g with q | q
  · have := x.zero j q
    omega
  · exact ⟨j, q, by omega, h2⟩
theorem Hand.step (h : HandIn one w idx more) (x : Hand one w idx more (t + 1) t g left gs here) (ht : t < idx.length) (hneg : left.getD t 0 < 0) (hg : left.getD g 0 ≤ 0) : g < t ∧ Hand one w idx more (t + 1) t (g + 1) left gs here := by
  obtain ⟨j, h1, h2, h3⟩ := x.giver h ht hneg
  refine ⟨by omega, { x with zero := fun i hi => ?_ }⟩
  by_cases e : i = g
  · rw [e]
    have := x.nonneg g (by omega)
    omega
  · exact x.zero i (by omega)
theorem Hand.give (h : HandIn one w idx more) (x : Hand one w idx more (t + 1) t g left gs here) (ht : t < idx.length) (hneg : left.getD t 0 < 0) (hg : 0 < left.getD g 0) {a : Int} (ha : a = min (left.getD g 0) (-(left.getD t 0))) :
    g < t ∧ nzc (doneL left g t a) < nzc left ∧ gs.length < idx.length ∧ Hand one w idx more (t + 1) t g (doneL left g t a) (gs ++ [(((idx.getD g 0 : Nat) : Int), ((idx.getD t 0 : Nat) : Int), a)]) (doneL here ((idx.getD g 0 : Nat) : Int) ((idx.getD t 0 : Nat) : Int) a) := by
  obtain ⟨j, h1, h2, h3⟩ := x.giver h ht hneg
  have hgt : g < t := by omega
  have hgl : g < left.length := by rw [x.llen]; omega
  have htl : t < left.length := by rw [x.llen]; omega
  have hne : g ≠ t := by omega
  have ha1 : 1 ≤ a := by omega
  have nz := sum_map_done (fun x => if x = 0 then 0 else 1) (d := a) hgl htl hne
  have ps := sum_map_done (fun x => max x 0) (d := a) hgl htl hne
  have hnz : nzc (doneL left g t a) < nzc left := by
    unfold nzc
    rw [nz]
    rw [if_neg (by omega), if_neg (by omega)]
    by_cases q : left.getD g 0 ≤ -(left.getD t 0)
    · rw [if_pos (show left.getD g 0 - a = 0 by omega)]
      split <;> omega
    · rw [if_pos (show left.getD t 0 + a = 0 by omega)]
      split <;> omega
  have nn := nzc_nonneg (doneL left g t a)
  have nd : ∀ i j, i < idx.length → j < idx.length → i ≠ j → idx.getD i 0 ≠ idx.getD j 0 := fun i j hi hj hij => h.nd hi hj hij
  have hig : idx.getD g 0 < here.length := by rw [x.hlen]; exact h.lt g (by omega)
  have hit : idx.getD t 0 < here.length := by rw [x.hlen]; exact h.lt t ht
  have eg := x.at_ g (by omega)
  have et := x.at_ t ht
  have hw : w.getD t 0 ≤ w.getD g 0 := by
    have e1 : w.getD t 0 = w[t]'(by rw [h.wlen]; exact ht) := by simp [List.getD, h.wlen, ht]
    have e2 : w.getD g 0 = w[g]'(by rw [h.wlen]; omega) := by
      have : g < w.length := by rw [h.wlen]; omega
      simp [List.getD, this]
    rw [e1, e2]
    exact (List.pairwise_iff_getElem.mp h.wdesc) g t _ _ hgt
  have fit : fitB here ((idx.getD g 0 : Nat) : Int) ((idx.getD t 0 : Nat) : Int) a = true := fitB_mk ha1 hig hit (by omega)
  have hcnt := x.cnt
  have n2 := nzc_two hgl htl hne (by omega) (by omega)
  have hlt : gs.length < idx.length := by omega
  refine ⟨hgt, hnz, hlt, ?_⟩
  refine ⟨by rw [doneL_length]; exact x.llen, fun k hk hk2 => ?_, fun i hi => ?_, fun i hi => ?_, ?_, by rw [doneL_length]; exact x.hlen, fun i hi => ?_, ?_, ?_, ?_⟩
  · rw [done_take (by omega) (by omega), ← x.sums k hk hk2]
    have := sum_map_done (fun x => x) (ns := left.take k) (d := a) (i := g) (j := t) (by rw [List.length_take]; omega) (by rw [List.length_take]; omega) hne
    rw [map_id_sum, map_id_sum] at this
    omega
  · by_cases e : i = g
    · rw [e, done_getD_l hgl hne]
      omega
    · rw [done_getD_o e (by omega)]
      exact x.nonneg i hi
  · rw [done_getD_o (by omega) (by omega)]
    exact x.zero i hi
  · rw [walkR_snoc x.walk]
    exact if_pos fit
  · by_cases e1 : i = g
    · rw [e1, done_getD_l hig (nd g t (by omega) ht hne), done_getD_l hgl hne, eg]
      omega
    · by_cases e2 : i = t
      · rw [e2, done_getD_r hit, done_getD_r htl, et]
        omega
      · rw [done_getD_o (nd i g hi (by omega) e1) (nd i t hi ht e2), done_getD_o e1 e2, x.at_ i hi]
  · rw [List.length_append, List.length_singleton]
    omega
  · rw [amounts_snoc, ← x.amt]
    unfold posSum
    rw [ps]
    dsimp only
    omega
  · rw [List.length_append, List.length_singleton]
    omega
theorem Hand.final (h : HandIn one w idx more) (x : Hand one w idx more idx.length idx.length g left gs here) : here.Perm w ∧ amounts gs = posSum more ∧ (gs.length : Int) ≤ max ((idx.length : Int) - 1) 0 := by
  have z : ∀ i, left.getD i 0 = 0 := sum_zero_all left (fun i hi => x.nonneg i (by rw [← x.llen]; exact hi)) (by
    have := x.sums idx.length (Nat.le_refl _) (Nat.le_refl _)
    rw [List.take_of_length_le (by rw [x.llen]; exact Nat.le_refl _), List.take_of_length_le (by rw [h.mlen]; exact Nat.le_refl _)] at this
    rw [this]
    exact h.tot)
  have pz : posSum left = 0 := by
    rw [posSum_filter]
    have : left.filter (fun z => decide (0 < z)) = [] := by
      rw [List.filter_eq_nil_iff]
      intro v hv
      obtain ⟨i, hi⟩ := List.getElem?_of_mem hv
      have := z i
      simp [List.getD, hi] at this
      simp
      omega
    rw [this]
    rfl
  refine ⟨?_, by have := x.amt; omega, by have := x.cnt; omega⟩
  -- w is here, read at the places of idx
  have e : w = idx.map fun i => here.getD i 0 := by
    apply List.ext_getElem
    · rw [List.length_map, h.wlen]
    · intro i h1 h2
      rw [List.getElem_map]
      have hi : i < idx.length := by rw [← h.wlen]; exact h1
      have := x.at_ i hi
      rw [z i, nat_getD hi] at this
      have e1 : w.getD i 0 = w[i] := by simp [List.getD, h1]
      rw [← e1]
      omega
  have pr := h.perm
  have e2 : (List.range idx.length).map (fun i => here.getD i 0) = here := by
    apply List.ext_getElem
    · simp [x.hlen]
    · intro i h1 h2
      simp [List.getD, h2]
  rw [e]
  have := (pr.map fun i => here.getD i 0)
  rw [e2] at this
  exact this.symm
end
end PwM
namespace PwM
theorem handIn_of {ns ms : List Int} {idx : List Nat} (hl : Like ns ms) (hg : IsGap ns ms none) (hp : idx.Perm (List.range ns.length)) (hs : idx.Pairwise (fun a b => ns.getD b 0 ≤ ns.getD a 0)) : HandIn ns (desc ms) idx (moreL ns ms) := by
  have hlen : idx.length = ns.length := by simpa using hp.length_eq
  have eR : (List.range ns.length).map (fun i => ns.getD i 0) = ns := by
    apply List.ext_getElem
    · simp
    · intro i h1 h2
      simp [List.getD, h2]
  have hd : idx.map (fun i => ns.getD i 0) = desc ns := by
    refine desc_of ?_ ?_
    · have := hp.map fun i => ns.getD i 0
      rw [eR] at this
      exact this
    · rw [List.pairwise_map]
      exact hs
  have hm := moreL_length hl.1
  have get : ∀ i, i < ns.length → (moreL ns ms).getD i 0 = (desc ns).getD i 0 - (desc ms).getD i 0 := fun i hi => by
    have h1 : (desc ns)[i]? = some ((desc ns).getD i 0) := by simp [List.getD, desc_length, hi]
    have h2 : (desc ms)[i]? = some ((desc ms).getD i 0) := by simp [List.getD, desc_length, ← hl.1, hi]
    have := moreL_get h1 h2
    simp [List.getD, this]
  have pre : ∀ k, k ≤ ns.length → ((moreL ns ms).take k).sum = ((desc ns).take k).sum - ((desc ms).take k).sum := by
    intro k
    induction k with
    | zero => intro _; simp
    | succ k ih =>
      intro hk
      rw [take_succ_sum (by rw [hm]; omega), take_succ_sum (by rw [desc_length]; omega), take_succ_sum (by rw [desc_length, ← hl.1]; omega), ih (by omega), get k (by omega)]
      omega
  refine ⟨by rw [desc_length, hlen, hl.1], desc_sorted ms, by rw [hm, hlen], hlen.symm, by rw [hlen]; exact hp, fun i hi => ?_, fun k hk => ?_, ?_⟩
  · rw [get i (by omega)]
    have e : (desc ns).getD i 0 = ns.getD (idx.getD i 0) 0 := by
      rw [← hd, nat_getD hi]
      simp [List.getD, hi]
    omega
  · rw [pre k (by omega)]
    have := hg k (by omega)
    unfold Ahead at this
    omega
  · have := pre ns.length (Nat.le_refl _)
    rw [List.take_of_length_le (by rw [hm]; exact Nat.le_refl _), List.take_of_length_le (by rw [desc_length]; exact Nat.le_refl _), List.take_of_length_le (by rw [desc_length, hl.1]; exact Nat.le_refl _), perm_sum (desc_perm ns), perm_sum (desc_perm ms), hl.2] at this
    omega
theorem posSum_due (ns ms : List Int) : posSum (moreL ns ms) = (dueL ns ms).sum := posSum_filter _
/-! ### what is due between rows: the triangle, one gift -/
theorem posSum_tri : ∀ (a b c : List Int), a.length = b.length → b.length = c.length → posSum (List.zipWith (fun x y => x - y) a c) ≤ posSum (List.zipWith (fun x y => x - y) a b) + posSum (List.zipWith (fun x y => x - y) b c)
  | [], [], [], _, _ => by simp [posSum]
  | x :: a, y :: b, z :: c, h1, h2 => by
    have ih := posSum_tri a b c (by simpa using h1) (by simpa using h2)
    unfold posSum at *
    simp only [List.zipWith_cons_cons, List.map_cons, List.sum_cons]
    omega
theorem due_tri {a b c : List Int} (h1 : a.length = b.length) (h2 : b.length = c.length) : (dueL a c).sum ≤ (dueL a b).sum + (dueL b c).sum := by
  rw [← posSum_due, ← posSum_due, ← posSum_due]
  exact posSum_tri _ _ _ (by rw [desc_length, desc_length, h1]) (by rw [desc_length, desc_length, h2])
theorem cnt_iff {l : List Int} (h : l.Pairwise (fun a b => b ≤ a)) {k : Nat} (hk : k < l.length) (v : Int) : v ≤ l.getD k 0 ↔ k < l.countP (fun x => decide (v ≤ x)) := by
  obtain ⟨s1, s2⟩ := sorted_split h hk
  constructor
  · intro hv
    have e : (l.take (k + 1)).countP (fun x => decide (v ≤ x)) = (l.take (k + 1)).length := List.countP_eq_length.mpr fun x hx => decide_eq_true (Int.le_trans hv (s1 x hx))
    have := (List.take_sublist (k + 1) l).countP_le (p := fun x => decide (v ≤ x))
    rw [e, List.length_take] at this
    omega
  · intro hc
    rcases Int.lt_or_le (l.getD k 0) v with q | q
    · have e : l = l.take k ++ l.drop k := (List.take_append_drop k l).symm
      have z : (l.drop k).countP (fun x => decide (v ≤ x)) = 0 := by
        rw [List.countP_eq_zero]
        intro x hx
        have : x ≤ l.getD k 0 := by
          rw [List.drop_eq_getElem_cons hk] at hx
          rcases List.mem_cons.mp hx with e | e
          · rw [e]; simp [List.getD, hk]
          · exact s2 x e
        simp
        omega
      rw [e, List.countP_append, z] at hc
      have := List.countP_le_length (p := fun x => decide (v ≤ x)) (l := l.take k)
      rw [List.length_take] at this
      omega
    · exact q
theorem cnt_mono (v : Int) : ∀ (a b : List Int), a.length = b.length → (∀ i, i < a.length → a.getD i 0 ≤ b.getD i 0) → a.countP (fun x => decide (v ≤ x)) ≤ b.countP (fun x => decide (v ≤ x))
  | [], [], _, _ => by simp
  | x :: a, y :: b, hl, h => by
    have ih := cnt_mono v a b (by simpa using hl) fun i hi => by simpa using h (i + 1) (by simpa using hi)
    have h0 : x ≤ y := by simpa using h 0 (by simp)
    rw [List.countP_cons, List.countP_cons]
    by_cases q : v ≤ x
    · rw [if_pos (decide_eq_true q), if_pos (decide_eq_true (Int.le_trans q h0))]
      omega
    · rw [if_neg (by simpa using q)]
      omega
theorem desc_mono {a b : List Int} (hl : a.length = b.length) (h : ∀ i, i < a.length → a.getD i 0 ≤ b.getD i 0) {k : Nat} (hk : k < a.length) : (desc a).getD k 0 ≤ (desc b).getD k 0 := by
  rw [cnt_iff (desc_sorted b) (by rw [desc_length]; omega)]
  have h1 := (cnt_iff (desc_sorted a) (by rw [desc_length]; exact hk) ((desc a).getD k 0)).mp (Int.le_refl _)
  rw [(desc_perm a).countP_eq] at h1
  rw [(desc_perm b).countP_eq]
  have := cnt_mono ((desc a).getD k 0) a b hl h
  omega
theorem posSum_le : ∀ (a b : List Int), a.length = b.length → (∀ i, i < a.length → a.getD i 0 ≤ b.getD i 0) → posSum (List.zipWith (fun x y => x - y) a b) = 0 ∧ posSum (List.zipWith (fun x y => x - y) b a) = b.sum - a.sum
  | [], [], _, _ => by simp [posSum]
  | x :: a, y :: b, hl, h => by
    have ih := posSum_le a b (by simpa using hl) fun i hi => by simpa using h (i + 1) (by simpa using hi)
    have h0 : x ≤ y := by simpa using h 0 (by simp)
    unfold posSum at *
    simp only [List.zipWith_cons_cons, List.map_cons, List.sum_cons]
    omega
theorem due_le {a b : List Int} (hl : a.length = b.length) (h : ∀ i, i < a.length → a.getD i 0 ≤ b.getD i 0) : (dueL a b).sum = 0 ∧ (dueL b a).sum = b.sum - a.sum := by
  rw [← posSum_due, ← posSum_due]
  have := posSum_le (desc a) (desc b) (by rw [desc_length, desc_length, hl]) fun i hi => desc_mono hl h (by rw [← desc_length a]; exact hi)
  rw [perm_sum (desc_perm a), perm_sum (desc_perm b)] at this
  exact this
theorem sum_set {l : List Int} {i : Nat} {x : Int} (h : i < l.length) : (l.set i x).sum = l.sum - l.getD i 0 + x := by
  have := sum_map_set (fun x => x) l i x h
  rw [map_id_sum, map_id_sum] at this
  exact this
theorem due_gift {ns : List Int} {i j : Int} {d : Int} (h : fitB ns i j d = true) : (dueL ns (doneL ns i j d)).sum ≤ d := by
  obtain ⟨i, j, rfl, rfl, hi, hj, hij, hd, hd2⟩ := fitB_true h
  have l1 : (ns.set i (ns.getD i 0 - d)).length = ns.length := by simp
  have hs : (ns.set i (ns.getD i 0 - d)).sum = ns.sum - d := by rw [sum_set hi]; omega
  have a := due_le (a := ns.set i (ns.getD i 0 - d)) (b := ns) l1 fun k hk => by
    by_cases e : k = i
    · rw [e, getD_set_eq hi]; omega
    · rw [getD_set_ne (Ne.symm e)]; exact Int.le_refl _
  have b := due_le (a := ns.set i (ns.getD i 0 - d)) (b := doneL ns i j d) (by rw [l1, doneL_length]) fun k hk => by
    unfold doneL
    rw [Int.toNat_natCast, Int.toNat_natCast]
    by_cases e : k = j
    · rw [e, getD_set_eq (by rw [l1]; exact hj), getD_set_ne hij]; omega
    · rw [getD_set_ne (Ne.symm e)]; exact Int.le_refl _
  have t := due_tri (a := ns) (b := ns.set i (ns.getD i 0 - d)) (c := doneL ns i j d) l1.symm (by rw [l1, doneL_length])
  omega
/-- one row lies behind another: no gap, and at most d is due -/
structure Behind (a b : List Int) (d : Int) : Prop where
  like : Like a b
  tops : ∀ k, ((desc b).take k).sum ≤ ((desc a).take k).sum
  due : (dueL a b).sum ≤ d
theorem take_all {l : List Int} {k : Nat} (h : l.length ≤ k) : l.take k = l := List.take_of_length_le h
theorem Behind.refl (a : List Int) : Behind a a 0 := ⟨⟨rfl, rfl⟩, fun k => Int.le_refl _, by rw [due_self (List.Perm.refl a)]; exact Int.le_refl _⟩
theorem Behind.trans {a b c : List Int} {d e : Int} (x : Behind a b d) (y : Behind b c e) : Behind a c (d + e) := by
  refine ⟨⟨x.like.1.trans y.like.1, x.like.2.trans y.like.2⟩, fun k => Int.le_trans (y.tops k) (x.tops k), ?_⟩
  have := due_tri x.like.1 y.like.1
  have := x.due
  have := y.due
  omega
theorem Behind.gift {ns : List Int} {i j d : Int} (h : fitB ns i j d = true) : Behind ns (doneL ns i j d) d := by
  refine ⟨⟨(doneL_length ns i j d).symm, (done_sum h).symm⟩, fun k => ?_, due_gift h⟩
  rcases Nat.lt_or_ge ns.length k with q | q
  · rw [take_all (by rw [desc_length, doneL_length]; omega), take_all (by rw [desc_length]; omega), perm_sum (desc_perm _), perm_sum (desc_perm _), done_sum h]
    exact Int.le_refl _
  · exact done_tops h k q
theorem Behind.gap {a b : List Int} {d : Int} (x : Behind a b d) : IsGap a b none := fun k hk h => by
  have := x.tops k
  unfold Ahead at h
  omega
/-- backwards: the gap stands where the rows first differ -/
theorem Behind.back {a b : List Int} {d : Int} (x : Behind a b d) {k : Nat} (hk : k < b.length) (hne : (desc b).getD k 0 ≠ (desc a).getD k 0) (hs : ∀ j, j < k → (desc b).getD j 0 = (desc a).getD j 0) : IsGap b a (some (k + 1)) := by
  have hl := x.like.1
  have eq : ∀ j, j ≤ k → ((desc b).take j).sum = ((desc a).take j).sum := by
    intro j
    induction j with
    | zero => intro _; simp
    | succ j ih =>
      intro hj
      rw [take_succ_sum (by rw [desc_length]; omega), take_succ_sum (by rw [desc_length]; omega), ih (by omega), hs j (by omega)]
  refine ⟨by omega, ?_, fun j hj => ?_⟩
  · unfold Ahead
    have t := x.tops (k + 1)
    have e := eq k (Nat.le_refl _)
    have e1 := take_succ_sum (l := desc b) (t := k) (by rw [desc_length]; omega)
    have e2 := take_succ_sum (l := desc a) (t := k) (by rw [desc_length]; omega)
    omega
  · unfold Ahead
    rw [eq j (by omega)]
    omega
theorem Behind.same {a b : List Int} (hl : a.length = b.length) (hs : ∀ j, j < b.length → (desc b).getD j 0 = (desc a).getD j 0) : IsGap b a none := by
  have e : desc b = desc a := by
    apply List.ext_getElem
    · rw [desc_length, desc_length, hl]
    · intro i h1 h2
      have := hs i (by rw [← desc_length b]; exact h1)
      simp [List.getD, h1, h2] at this
      exact this
  intro k _
  unfold Ahead
  rw [e]
  omega
end PwM

set_option Elab.async false
set_option linter.all false
set_option maxRecDepth 100000
/-! A lambda is made: the table of its maker's code grows. -/
namespace L2
open PySem PySem.Spec PyProof.Rows PySem.W
def isTbl : HO → Bool
  | .tbl _ => true
  | _ => false
/-- all that was tracked is as it was, but a table may have grown -/
structure SameT (H H' : Hp) : Prop where
  same : ∀ b o, H b = some o → isTbl o = false → H' b = some o
  tbl : ∀ b ps, H b = some (.tbl ps) → ∃ ps', H' b = some (.tbl ps')
theorem SameT.refl (H : Hp) : SameT H H := ⟨fun _ _ h _ => h, fun _ ps h => ⟨ps, h⟩⟩
theorem Same.T {H H' : Hp} (s : Same H H') : SameT H H' := ⟨fun b o h _ => s b o h, fun b ps h => ⟨ps, s b _ h⟩⟩
theorem SameT.trans {H H1 H2 : Hp} (a : SameT H H1) (b : SameT H1 H2) : SameT H H2 := ⟨fun c o h n => b.same c o (a.same c o h n) n, fun c ps h => let ⟨p1, e⟩ := a.tbl c ps h; b.tbl c p1 e⟩
theorem SameT.free {H H' : Hp} (e : SameT H H') {l : Addr} (h : H' l = none) : H l = none := by
  cases q : H l with
  | none => rfl
  | some o =>
    cases z : isTbl o with
    | false => rw [e.same l o q z] at h; cases h
    | true =>
      cases o with
      | tbl ps =>
        obtain ⟨p, e'⟩ := e.tbl l ps q
        rw [e'] at h; cases h
      | _ => cases z
theorem SameT.lst {H H' : Hp} (e : SameT H H') {a : Addr} {xs : List V} (h : H a = some (.lst xs)) : H' a = some (.lst xs) := e.same a _ h rfl
theorem SameT.tup {H H' : Hp} (e : SameT H H') {a : Addr} {xs : List V} (h : H a = some (.tup xs)) : H' a = some (.tup xs) := e.same a _ h rfl
theorem SameT.seq {K : PySem.W.Frag} {H H' : Hp} {a : Addr} {xs : List V} (e : SameT H H') (h : SqL K H a xs) : SqL K H' a xs := by
  rcases h with (h | ⟨o, h⟩) | h
  · exact .inl (.inl (e.same _ _ h rfl))
  · exact .inl (.inr ⟨o, e.same _ _ h rfl⟩)
  · exact .inr h
theorem SameT.seqT {K : PySem.W.Frag} {H H' : Hp} {a : Addr} {xs : List V} (e : SameT H H') (h : SqT K H a xs) : SqT K H' a xs := by
  rcases h with (h | ⟨o, h⟩) | h
  · exact .inl (.inl (e.same _ _ h rfl))
  · exact .inl (.inr ⟨o, e.same _ _ h rfl⟩)
  · exact .inr h
theorem SameT.upd_new {H H' : Hp} (e : SameT H H') {l : Addr} {o : HO} (h : H l = none) : SameT H (upd H' l o) :=
  ⟨fun b u q n => by rw [upd_ne (ne_of_none q h)]; exact e.same b u q n, fun b ps q => by rw [upd_ne (ne_of_none q h)]; exact e.tbl b ps q⟩
theorem Gifts.sameT {K : PySem.W.Frag} {H H' : Hp} {a : Addr} {ps : List Addr} {gs : List Gv} (h : Gifts K H a ps gs) (s : SameT H H') : Gifts K H' a ps gs := ⟨s.seq h.sq, h.len, fun i p g e1 e2 => s.seqT (h.at_ i p g e1 e2)⟩
/-- where a lambda's code stands: its maker's table at P, its own place, its name -/
structure LamAt where
  P : Addr
  pos : Pos
  qual : Str
abbrev extO : HO := .ext fun _ => True
def CodeAt (H : Hp) (c : Addr) (qual : Str) : Prop := ∃ (o : Obj) (vs : Array Value) (t : Tok), H c = some (.frz o extO) ∧ o.data = .fields vs ∧ vs[1]? = some (.str qual t)
def Tab (T : LamAt) (H : Hp) : Prop := H T.P = some (.tbl #[]) ∨ ∃ c : Addr, H T.P = some (.tbl #[rawInt T.pos.line, rawInt T.pos.col, .ref c]) ∧ CodeAt H c T.qual
theorem CodeAt.sameT {H H' : Hp} {c : Addr} {q : Str} (x : CodeAt H c q) (s : SameT H H') : CodeAt H' c q := let ⟨o, vs, t, e, r⟩ := x; ⟨o, vs, t, s.same c _ e rfl, r⟩
theorem Tab.same {T : LamAt} {H H' : Hp} (x : Tab T H) (s : Same H H') : Tab T H' := by
  rcases x with x | ⟨c, e, x⟩
  · exact .inl (s _ _ x)
  · exact .inr ⟨c, s _ _ e, x.sameT s.T⟩
theorem Tab.upd {T : LamAt} {H : Hp} {l : Addr} {o : HO} (x : Tab T H) (h : H l = none) : Tab T (upd H l o) := x.same ((Same.refl H).upd_new h)
section
variable {X : Cx} {pins : List (Addr × Obj)} {σ : St} {H H' : Hp} {s : Shared} {h' : Heap}
theorem frz_ok {P : Program} {w : World} {H : Hp} {h : Heap} {a : Addr} {o : Obj} (e : h.get? a = some o) : ObjOk P w H h a (.frz o extO) := ⟨e, trivial, ⟨o, e⟩, fun _ _ _ _ => trivial⟩
/-- the table of a maker has grown, the code's own record is tracked -/
theorem Inv.tabled {P c : Addr} {ps more : Array Value} {oc : Obj} {tk : Nat} (I : Inv X pins σ H s) (hP : H P = some (.tbl ps)) (hx : Heap.ExtBut P s.heap h') (hc : s.heap.objs.size ≤ c) (hoc : h'.get? c = some oc)
    (hP' : h'.get? P = some (tabObj (ps ++ more))) : Inv X pins σ (upd (upd H P (.tbl (ps ++ more))) c (.frz oc extO)) { s with heap := h', toks := tk } := by
  have hPs : s.heap.get? P = some (tabObj ps) := I.hok P _ hP
  have hcP : c ≠ P := fun z => by
    have := Heap.lt_size hPs
    rw [z] at hc
    exact absurd this (Nat.not_lt.mpr hc)
  have hcn : H c = none := I.hok.fresh hc
  have old : ∀ b o, s.heap.get? b = some o → b ≠ c := fun b o e z => by
    have := Heap.lt_size e
    rw [z] at this
    exact absurd this (Nat.not_lt.mpr hc)
  have ext : ∀ b o, b ≠ P → s.heap.get? b = some o → h'.get? b = some o := fun b o hb e => hx b o hb e
  have nP : ∀ b, H b = none → b ≠ P := fun b n z => by rw [z, hP] at n; cases n
  have oth : ∀ b u, H b = some u → b ≠ P → (upd (upd H P (.tbl (ps ++ more))) c (.frz oc extO)) b = some u := fun b u e hb => by
    rw [upd_ne (ne_of_none e hcn), upd_ne hb]; exact e
  have nt : ∀ b u, H b = some u → isTbl u = false → b ≠ P := fun b u e n z => by
    rw [z, hP] at e
    cases e
    cases n
  refine I.un ⟨fun b o e n _ _ => ext b o (nP b n) e, fun b o e n _ _ => ⟨o.slots, ext b o (nP b n) e⟩, fun b o e n _ => ?_, fun b o e _ => ?_, fun b xs e => oth b _ e (nt b _ e rfl), fun b o u e => oth b _ e (nt b _ e rfl), fun b qs e => ?_⟩ (fun b u e => ?_)
  · rw [upd_ne (old b o e), upd_ne (nP b n)]
    exact n
  · by_cases hb : b = P
    · rw [hb]; exact ⟨_, hP'⟩
    · exact ⟨o, ext b o hb e⟩
  · by_cases hb : b = P
    · rw [hb, hP] at e
      cases e
      exact ⟨more, by rw [hb, upd_ne (Ne.symm hcP), upd_same]⟩
    · exact ⟨#[], by rw [oth b _ e hb]; simp⟩
  · by_cases hbc : b = c
    · rw [hbc, upd_same] at e
      cases e
      rw [hbc]
      exact frz_ok hoc
    · rw [upd_ne hbc] at e
      by_cases hb : b = P
      · rw [hb, upd_same] at e
        cases e
        rw [hb]
        exact hP'
      · rw [upd_ne hb] at e
        refine (I.hok b u e).stay (fun d v hd q => ext d v ?_ q) (fun d q => ?_) fun d xs q => ?_
        · rcases hd with z | z
          · rw [z]; exact hb
          · exact nt d _ z rfl
        · exact oth d _ q (nt d _ q rfl)
        · exact oth d _ q (nt d _ q rfl)
theorem sameT_tabled {P c : Addr} {ps ps' : Array Value} {o : HO} (hP : H P = some (.tbl ps)) (hc : H c = none) : SameT H (upd (upd H P (.tbl ps')) c o) := by
  refine ⟨fun b u e n => ?_, fun b qs e => ?_⟩
  · rw [upd_ne (ne_of_none e hc), upd_ne (fun z => by rw [z, hP] at e; cases e; cases n)]
    exact e
  · rw [upd_ne (ne_of_none e hc)]
    by_cases hb : b = P
    · rw [hb, upd_same]; exact ⟨_, rfl⟩
    · rw [upd_ne hb]; exact ⟨_, e⟩
/-- the law's base tells where the builtins stand -/
def BMain (mg : Str → Option Value) (base : Heap) : Prop := ∃ bm ob, mg "__builtins__" = some (.ref bm) ∧ bm ≠ builtinsNs ∧ base.get? bm = some ob ∧ ob.cls = .type "module" ∧ ob.dict = some builtinsNs ∧ ob.data = .plain
def tLam (T : LamAt) (fo : Addr → Value → Obj) : TE := fun _ H Q => Tab T H ∧ ∀ (f c : Addr) (ctv : Value) (H' : Hp), SameT H H' → Tab T H' → H f = none → H' f = some (.frz (fo c ctv) extO) → CodeAt H' c T.qual → Q (.ref f) H'
theorem pe_lam {T : LamAt} {params : Arguments} {body : Expr} {scope : Scope} {pos : Pos} {clos : List (Str × Addr)} {c : Addr} (hdef : defaultsOf params X.env = ([], [])) (hcl : closureFor scope X.env = pure clos) (hcode : X.env.code = .ref c)
    (C : CodeHd X.base c T.P) (B : BMain X.mg X.base) (hpos : T.pos = pos) (hq : T.qual = X.env.qual ++ "<lambda>") :
    PE X (.Lambda params body scope pos) (tLam T fun c' ctv => kla_obj "<lambda>" T.qual params body scope clos ((X.mg "__name__").getD .none) c' ctv) := by
  intro pins s σ H Q I h
  obtain ⟨tab, k⟩ := h
  obtain ⟨bm, ob, b1, b2, b3, b4, b5, b6⟩ := B
  have hg : s.heap.Ns mainGlobals X.mg := I.mod.glob.keeps I.bk
  subst hpos
  have tab0 := tab
  have hPs : ∃ ps, H T.P = some (.tbl ps) := by
    rcases tab with e | ⟨c', e, _⟩
    · exact ⟨_, e⟩
    · exact ⟨_, e⟩
  obtain ⟨ps, hP⟩ := hPs
  have hP2 : s.heap.get? T.P = some (tabObj ps) := I.hok _ _ hP
  have hgP : mainGlobals ≠ T.P := fun q => by
    obtain ⟨o, es, ep, e, hd, _⟩ := hg
    rw [q, hP2] at e; cases e; cases hd
  have hbP : bm ≠ T.P := fun q => by
    have e := I.bk _ _ b3
    rw [q, hP2] at e; cases e; cases b4
  have hbG : bm ≠ mainGlobals := fun q => by
    obtain ⟨o, es, ep, e, hd, _⟩ := I.mod.glob
    rw [q, e] at b3; cases b3; rw [hd] at b6; cases b6
  have hB : s.heap.BuiltinsAt X.mg T.P := ⟨bm, ob, b1, b2, hbG, hbP, I.bk _ _ b3, b4, b5, b6⟩
  have hCs : CodeHd s.heap c T.P := C.keeps I.bk
  refine kla_eval hdef ?_
  rw [← hq]
  rcases tab with e | ⟨c', e, hc'⟩
  · rw [hP] at e
    cases e
    refine kla_makeFunction (mg := X.mg) hcl I.ok.glob hg hcode hCs hP2 trivial rfl hgP hB fun c' ctv h' tk hx hge hlt hrec htb => ?_
    obtain ⟨c₂, oc, vs, t, e2, hoc, hd, hv⟩ := hrec
    cases e2
    have I1 := I.tabled (tk := tk) hP hx hge hoc htb
    have hcn : H c' = none := I.hok.fresh hge
    have sT := sameT_tabled (ps' := #[] ++ #[rawInt T.pos.line, rawInt T.pos.col, .ref c']) (o := .frz oc extO) hP hcn
    have hcP : c' ≠ T.P := fun z => by rw [z, hP] at hcn; cases hcn
    have tP : (upd (upd H T.P (.tbl (#[] ++ #[rawInt T.pos.line, rawInt T.pos.col, .ref c']))) c' (.frz oc extO)) T.P = some (.tbl #[rawInt T.pos.line, rawInt T.pos.col, .ref c']) := by
      rw [upd_ne (Ne.symm hcP), upd_same]; rfl
    have tC : CodeAt (upd (upd H T.P (.tbl (#[] ++ #[rawInt T.pos.line, rawInt T.pos.col, .ref c']))) c' (.frz oc extO)) c' T.qual := ⟨oc, vs, t, upd_same, hd, hv⟩
    generalize upd (upd H T.P (.tbl (#[] ++ #[rawInt T.pos.line, rawInt T.pos.col, .ref c']))) c' (.frz oc extO) = H1 at I1 sT tP tC
    have hf : H1 h'.objs.size = none := I1.hok.fresh (Nat.le_refl _)
    have I2 := I1.laid (a := h'.objs.size) (o := .frz (kla_obj "<lambda>" T.qual params body scope clos ((X.mg "__name__").getD .none) c' ctv) extO) (t' := tk) (h' := h'.push (kla_obj "<lambda>" T.qual params body scope clos ((X.mg "__name__").getD .none) c' ctv))
      (fun b o e => Heap.get?_push_of_some _ e) (Nat.le_refl _) (frz_ok (Heap.get?_push_size _ rfl))
    exact ⟨.ref h'.objs.size, _, I2, rfl, k _ c' ctv _ (sT.trans ((Same.refl H1).upd_new hf).T) (Tab.upd (.inr ⟨c', tP, tC⟩) hf) (sT.free hf) upd_same (tC.sameT ((Same.refl H1).upd_new hf).T)⟩
  · rw [hP] at e
    cases e
    have hf : codeAmong T.pos (#[rawInt T.pos.line, rawInt T.pos.col, .ref c'] : Array Value).toList = some (.ref c') := by simp [codeAmong, rawInt]
    refine kla_makeFunctionHit (mg := X.mg) hcl I.ok.glob hg hcode hCs hP2 trivial hf hB fun ctv h' tk hk hsz => ?_
    have I1 : Inv X pins σ H { s with heap := h', toks := tk } := I.kept hk
    have hfn : H h'.objs.size = none := I1.hok.fresh (Nat.le_refl _)
    have I2 := I1.laid (a := h'.objs.size) (o := .frz (kla_obj "<lambda>" T.qual params body scope clos ((X.mg "__name__").getD .none) c' ctv) extO) (t' := tk) (h' := h'.push (kla_obj "<lambda>" T.qual params body scope clos ((X.mg "__name__").getD .none) c' ctv))
      (fun b o e => Heap.get?_push_of_some _ e) (Nat.le_refl _) (frz_ok (Heap.get?_push_size _ rfl))
    exact ⟨.ref h'.objs.size, _, I2, rfl, k _ c' ctv _ ((Same.refl H).upd_new hfn).T (tab0.upd hfn) hfn upd_same (hc'.sameT ((Same.refl H).upd_new hfn).T)⟩
end
end L2

set_option Elab.async false
set_option linter.all false
set_option maxRecDepth 100000
/-! sorted(range(..), key=lambda, reverse=True) over the hand layer; the head of a law whose program makes a lambda. -/
namespace L2
open PySem PySem.Spec PyProof.Rows PySem.W
section
variable {X : Cx} {pins : List (Addr × Obj)} {σ : St} {H H' : Hp} {s : Shared} {h' : Heap}
/-- a new thing is laid; of the frame's own object only the map is known -/
theorem Inv.laidL {m : Str → Option Value} {D : Addr} {o : HO} {tk : Nat} (I : Inv X pins σ H s) (hm : s.heap.Ns X.env.locals m) (hm' : h'.Ns X.env.locals m) (k : ∀ b u, b ≠ X.env.locals → s.heap.get? b = some u → h'.get? b = some u)
    (hD : s.heap.objs.size ≤ D) (new : ObjOk X.prog X.w (upd H D o) h' D o) : Inv X pins σ (upd H D o) { s with heap := h', toks := tk } := by
  have hDn : H D = none := I.hok.fresh hD
  have ne : ∀ b u, s.heap.get? b = some u → b ≠ D := fun b u e z => absurd (Heap.lt_size e) (by rw [z]; exact Nat.not_lt.mpr hD)
  have neL : ∀ b u, H b = some u → b ≠ X.env.locals := fun b u e z => by rw [z, I.free] at e; cases e
  refine I.step (g' := s.gens) (d' := s.drawn) (ch := []) (fun _ z => nomatch z) (fun b u hL _ _ e _ => k b u hL e) (fun b u hL _ _ e _ => ⟨u.slots, k b u hL e⟩) (fun b u _ e n => by rw [upd_ne (ne b u e)]; exact n) (fun b u _ e => ?_)
    (fun b xs e => by rw [upd_ne (ne_of_none e hDn)]; exact e) (fun b u v e => by rw [upd_ne (ne_of_none e hDn)]; exact e) (fun b ps e => ⟨#[], by rw [upd_ne (ne_of_none e hDn), e]; simp⟩) (fun m' h2 => ?_) (fun b u e => ?_) I.bare
  · by_cases hb : b = X.env.locals
    · obtain ⟨o', _, _, e', _⟩ := hm'
      exact ⟨o', by rw [hb]; exact e'⟩
    · exact ⟨u, k b u hb e⟩
  · rw [h2.eq_nsMap, ← hm.eq_nsMap]
    exact hm'
  · by_cases hb : b = D
    · rw [hb, upd_same] at e
      cases e
      rw [hb]
      exact new
    · rw [upd_ne hb] at e
      refine (I.hok b u e).stay (fun d v hd q => k d v ?_ q) (fun d q => by rw [upd_ne (ne_of_none q hDn)]; exact q) fun d xs q => by rw [upd_ne (ne_of_none q hDn)]; exact q
      rcases hd with z | z
      · rw [z]; exact neL b u e
      · exact neL d _ z
theorem toNat_perm {ns' : List Int} {n : Nat} (h : ns'.Perm ((List.range n).map fun (i : Nat) => (i : Int))) : ∃ idx : List Nat, ns' = idx.map (fun (i : Nat) => (i : Int)) ∧ idx.Perm (List.range n) := by
  refine ⟨ns'.map Int.toNat, ?_, ?_⟩
  · rw [List.map_map]
    have : ∀ x ∈ ns', ((fun (i : Nat) => (i : Int)) ∘ Int.toNat) x = x := fun x hx => by
      obtain ⟨i, _, rfl⟩ := List.mem_map.mp (h.mem_iff.mp hx)
      rfl
    conv => lhs; rw [← List.map_id ns']
    exact List.map_congr_left fun x hx => (this x hx).symm
  · have := h.map Int.toNat
    rw [List.map_map] at this
    have e : (List.range n).map (Int.toNat ∘ fun (i : Nat) => (i : Int)) = List.range n := by
      conv => rhs; rw [← List.map_id (List.range n)]
      exact List.map_congr_left fun x _ => rfl
    rw [e] at this
    exact this
structure LamTxt where
  x : Str
  y : Str
  p1 : Pos
  p2 : Pos
  p3 : Pos
  params : Arguments
  scope : Scope
abbrev LamTxt.body (W : LamTxt) : Expr := .Subscript (.Name W.x W.p1) (.Name W.y W.p2) W.p3
def lamObj (W : LamTxt) (qual : Str) (c : Addr) (pm : Value) (c' : Addr) (ctv : Value) : Obj := kla_obj "<lambda>" qual W.params W.body W.scope [(W.x, c)] pm c' ctv
/-- the lambda's own words: one parameter, a free name -/
structure LamTxt.Ok (W : LamTxt) : Prop where
  bind : ∀ (qual : Str) (c : Addr) (pm cv ctv u : Value), bindArgs (kla_fn "<lambda>" qual W.params W.body W.scope [(W.x, c)] pm cv ctv) ⟨[u], []⟩ = pure [(W.y, u)]
  kind : W.scope.kind = .function
  co : W.scope.isCoroutine = false
  gen : W.scope.isGenerator = false
  nc : ∀ z ∈ W.scope.names, z.2 ≠ .cell
  hy : W.scope.names.lookup W.y = some .local
  hx : W.scope.names.lookup W.x = some .free
  dx : (W.x == ("__debug__" : Str)) = false
  dy : (W.y == ("__debug__" : Str)) = false
  dcx : (W.x == ("__classdict__" : Str)) = false
def rKey (X : Cx) (W : LamTxt) (qual : Str) (i : Nat) (c : Addr) (σ : St) : List V → List V → Hp → VK → Prop := fun vs zs H Q => ∃ (r f c' l : Addr) (ctv : Value) (ns : List Int), vs = [.ref r] ∧ zs = [.ref f, .bl true] ∧ H r = some (.rng 0 ns.length) ∧ ns.length < 64 ∧
  H f = some (.frz (lamObj W qual c ((X.mg "__name__").getD .none) c' ctv) extO) ∧ CodeAt H c' qual ∧ σ[i]? = some (some (.ref l)) ∧ SqL X.K H l (ns.map V.int) ∧
  ∀ (D : Addr) (idx : List Nat), H D = none → idx.Perm (List.range ns.length) → idx.Pairwise (fun a b => ns.getD b 0 ≤ ns.getD a 0) → Q (.ref D) (upd H D (.lst (idx.map fun (i : Nat) => V.int i)))
theorem sort_key {W : LamTxt} {qual : Str} {i j : Nat} {c : Addr} {xs zs : List V} {us ws : List Value} {Q : VK} (OW : W.Ok) (hr : Room j X.A) (hj : 2 ≤ j) (hcalm : X.calm = true) (hN : X.N[i]? = some W.x) (hk : X.env.kindOf W.x = some .cell) (hc : X.env.cells.lookup W.x = some c)
    (I : Inv X pins σ H s) (r : Vals xs us) (rz : Vals zs ws) (h : rKey X W qual i c σ xs zs H Q) :
    wpAny (model X.prog X.w) X.A (call (.builtin "sorted") us ([Str.ofString "key", Str.ofString "reverse"].zip ws)) (EP X pins σ Q) X.xe s := by
  obtain ⟨rg, f, c', l, ctv, ns, rfl, rfl, hrg, h64, hf, hC, hσ, hq, q⟩ := h
  obtain ⟨u, rfl, rx⟩ := vals1 r
  obtain ⟨w1, w2, rfl, rz1, rz2⟩ := vals2 rz
  cases rx
  cases rz1
  obtain rfl : w2 = Value.bool true := rz2
  obtain ⟨t, u, v, er⟩ := (show ObjOk X.prog X.w H s.heap rg (.rng 0 ns.length) from I.hok rg _ hrg)
  obtain ⟨m, hn, hloc⟩ := id I.loc
  obtain ⟨uu, ru, look⟩ := hloc i W.x (.ref l) hN hσ (.inr (.inl hk))
  cases ru
  have hcell : s.heap.IsCell c (some (.ref l)) := by
    rcases look with ⟨e, _⟩ | ⟨_, c2, e2, z⟩
    · rw [hk] at e; cases e
    · rw [hc] at e2; cases e2; exact z
  obtain ⟨its, hI, hl, hlen, hz⟩ := intsOfL I hq
  have F : Fr X.base X.env.locals s.heap m := ⟨hn, I.bk, Nat.le_trans I.ok.bsz I.ok.above⟩
  have N : News X.base X.env.locals s.heap (allNews X.base s.heap X.env.locals) := news_all
  have kept : ∀ (h : Heap) (own : List (Addr × Obj)), Fr X.base X.env.locals h m → News X.base X.env.locals h (allNews X.base s.heap X.env.locals ++ own) → ∀ b o, b ≠ X.env.locals → s.heap.get? b = some o → h.get? b = some o := fun h own F' N' b o hb e => by
    cases z : X.base.get? b with
    | some o' =>
      have := I.bk b o' z
      rw [e] at this
      cases this
      exact F'.keep b _ z
    | none => exact (N' (b, o) (List.mem_append_left _ (mem_allNews hb z e))).1
  have nL : ∀ b o, s.heap.get? b = some o → (∀ es ep, o.data ≠ .dict es ep) → b ≠ X.env.locals := fun b o e nd z => by
    obtain ⟨o', es, ep, e', hd, _⟩ := hn
    rw [z, e'] at e
    cases e
    exact nd es ep hd
  obtain ⟨ef, _⟩ := (show ObjOk X.prog X.w H s.heap f (.frz _ extO) from I.hok f _ hf)
  obtain ⟨oc, vsC, tC, hcc, hcd, hcq⟩ := hC
  obtain ⟨ec, _⟩ := (show ObjOk X.prog X.w H s.heap c' (.frz oc extO) from I.hok c' _ hcc)
  have roomA : X.A.in1.in1.depth < recursionLimit := (((hr.mono hj).in1).in1 (k := 0)).depth
  refine sorted_rng (b := true) (f := .ref f) (fun z => ns.getD z.toNat 0) (I.ok.hd hcalm) F N er h64 (ksk_s2 _ _ _) (fun x => ksk_l2 _ _ _) (fun x => ksk_t2 f x true) (fun k tk0 h tk own hkn F' N' => ?_) fun D vs' ns' cc h' tk F' N' hD hI' hP hO => ?_
  · have kp := kept h own F' N'
    have hv : its.toArray[k]? = some (its[k]'(by omega)) := by simp
    obtain ⟨tv, htv⟩ := hI.get k (ns.getD k 0) (by simp [List.getD, hkn])
    rw [List.getElem?_eq_getElem (by omega)] at htv
    have htv' := Option.some.inj htv
    obtain ⟨ol, el, cl, nl, dl⟩ := hl
    obtain ⟨oce, ece, dce⟩ := hcell
    have := lam_call (prog := X.prog) (w := X.w) (A := X.A.in1.in1) (E := fun _ _ => False) (s := { s with heap := h, toks := tk }) (f := f) (c := c) (c' := c') (l := l) (x := W.x) (y := W.y) (name := "<lambda>") (qual := qual) (params := W.params) (scope := W.scope) (p1 := W.p1) (p2 := W.p2) (p3 := W.p3) (pm := (X.mg "__name__").getD .none) (ctv := ctv) (items := its.toArray) (i := k) (t := tk0) (v := its[k]'(by omega)) roomA
      (kp f _ (nL f _ ef fun _ _ z => nomatch z) ef) ⟨c', oc, vsC, tC, rfl, kp c' _ (nL c' _ ec fun _ _ z => by rw [hcd] at z; cases z) ec, hcd, hcq⟩ (I.ok.mod.nolimit.keeps F'.keep)
      ⟨oce, kp c _ (I.cne _ _ hc) ece, dce⟩ ⟨ol, kp l _ (nL l _ el fun _ _ z => by rw [dl] at z; cases z) el, cl, nl, dl⟩ hv (by omega) (fun cv u => OW.bind _ _ _ _ _ _) OW.kind OW.co OW.gen OW.nc OW.hy OW.hx OW.dx OW.dy OW.dcx
    refine wpAny_mono this (fun v s' hvs => ?_) fun _ _ z => z
    obtain ⟨rfl, h2, tk2, rfl, keep2⟩ := hvs
    refine ⟨h2, tk2, tv, rfl, ?_, F'.kept keep2, N'.grown keep2⟩
    rw [htv']
    rfl
  · obtain ⟨idx, rfl, hp⟩ := toNat_perm hP
    have N2 : News X.base X.env.locals h' (allNews X.base s.heap X.env.locals ++ []) := fun p hp => N' p (List.mem_cons_of_mem _ (by simpa using hp))
    have kp := kept h' [] F' N2
    have hlen2 : (idx.map fun (i : Nat) => V.int i).length ≤ sizeLine := by
      rw [List.length_map, hp.length_eq, List.length_range]
      exact Nat.le_of_lt (small1000 (by omega))
    have hvv := vals_ints hI'
    rw [List.map_map] at hvv
    refine ⟨.ref D, _, I.laidL (D := D) (o := .lst (idx.map fun (i : Nat) => V.int i)) hn F'.ns kp hD (show ObjOk X.prog X.w _ h' D (.lst _) from ⟨hlen2, vs'.toList, cc, hvv, ?_⟩), rfl, q D idx (I.hok.fresh hD) hp ?_⟩
    · have := (N' (D, seqObj "list" vs' cc) (.head _)).1
      simpa using this
    · rw [List.pairwise_map] at hO
      exact hO.imp fun {a b} hab => by simpa using hab
theorem pe_sortKey {W : LamTxt} {qual : Str} {i j : Nat} {c : Addr} {p pos : Pos} {e : Expr} {es : List Expr} {kws : List Keyword} {t tk : TA} (OW : W.Ok) (hr : Room j X.A) (hj : 2 ≤ j) (hcalm : X.calm = true) (hN : X.N[i]? = some W.x) (hk : X.env.kindOf W.x = some .cell) (hc : X.env.cells.lookup W.x = some c)
    (hg : Gl X "sorted") (hm : X.mg "sorted" = none) (hv : bootBuiltins "sorted" = some (.builtin "sorted")) (ha : PA X (e :: es) t) (hkw0 : PK X kws tk)
    (hks : (backToKw pos (keywordEach kws X.env)).filterMap (·.1) = [Str.ofString "key", Str.ofString "reverse"] := by rfl)
    (he : backTo pos (starEach (e :: es) X.env) = (false, eval e X.env) :: backTo pos (starEach es X.env) := by rfl) (hpl : (backTo pos (starEach (e :: es) X.env)).any (·.1) = false := by rfl)
    (hall : (backToKw pos (keywordEach kws X.env)).all (·.1.isSome) = true := by rfl) (hkw : (backToKw pos (keywordEach kws X.env)).any (·.1.isNone) = false := by rfl) :
    PE X (.Call (.Name "sorted" p) (e :: es) kws pos) (fun σ H Q => t σ H fun vs H1 => tk σ H1 fun zs H2 => rKey X W qual i c σ vs zs H2 Q) := by
  intro pins s σ H Q I h
  refine wpAny_Call_Name_kw (ld_blt I hg hm hv ?_ (by decide) (by decide))
  refine callWith_kw (thn (ha pos pins s σ H _ I h) fun us s1 ⟨vs, H1, I1, r1, q1⟩ => ?_) he hpl hall hkw
  refine thn (hkw0 pos pins s1 σ H1 _ I1 q1) fun ws s2 ⟨zs, H2, I2, rz, q2⟩ => ?_
  rw [hks]
  exact sort_key OW hr hj hcalm hN hk hc I2 r1 rz q2
end
/-! ### a while, its measure beside the state -/
theorem while_at {c : TT} {tb : TS} {D : Ends} {σ : St} {H : Hp} (Pv : Nat → St → Hp → Prop) {m0 : Nat} (h0 : Pv m0 σ H)
    (hs : ∀ m σ H, Pv m σ H → c σ H fun b H1 => if b = true then tb { D with nx := fun σ' H' => ∃ m', m' < m ∧ Pv m' σ' H', ct := fun σ' H' => ∃ m', m' < m ∧ Pv m' σ' H', bk := D.nx } σ H1 else D.nx σ H1)
    (mono : ∀ σ H Q Q', (∀ b H1, Q b H1 → Q' b H1) → c σ H Q → c σ H Q') : tWhile c tb D σ H := by
  refine ⟨Pv, ⟨m0, h0⟩, fun m σ H p => mono σ H _ _ (fun b H1 z => ?_) (hs m σ H p)⟩
  cases b with
  | true => exact ⟨_, fun σ' H' y => y, z⟩
  | false => exact z
/-! ### a def whose code makes a lambda -/
def DefInC (K : PySem.W.Frag) (mg : Str → Option Value) (x : Str) (st : Stmt) (T : Addr) : Prop := ∃ (f : Addr) (oc : Value) (od : Option Addr) (kV doc pm : Value) (an : Option Addr) (c : Addr) (ct : Value) (osl : Array (Option Value)),
  mg x = some (.ref f) ∧ K.lookup f = some ⟨oc, od, .func (PySem.W.fnOf x x (defArgs st) (defBody st) (defScope st) .none kV doc pm an (.ref c) ct), osl⟩ ∧ PySem.W.codeIn K (.ref c) x = true ∧ PySem.W.keepIn K (.ref f) = true ∧ codeHdIn K c T = true
theorem DefInC.hd {K : PySem.W.Frag} {mg : Str → Option Value} {x : Str} {st : Stmt} {T : Addr} (D : DefInC K mg x st T) : ∃ c, codeHdIn K c T = true := let ⟨_, _, _, _, _, _, _, c, _, _, _, _, _, _, hd⟩ := D; ⟨c, hd⟩
theorem defInC_mk {K : PySem.W.Frag} {h : Heap} {mg : Str → Option Value} {x : Str} {st : Stmt} {T f c : Addr} {oc : Value} {od an : Option Addr} {osl : Array (Option Value)} {kV doc pm ct : Value} (X : K.In h) (G : h.Ns mainGlobals mg)
    (a : PySem.W.nsIn K mainGlobals x = some (some (.ref f))) (l : K.lookup f = some ⟨oc, od, .func (PySem.W.fnOf x x (defArgs st) (defBody st) (defScope st) .none kV doc pm an (.ref c) ct), osl⟩)
    (cd : PySem.W.codeIn K (.ref c) x = true) (k : PySem.W.keepIn K (.ref f) = true) (hd : codeHdIn K c T = true) : DefInC K mg x st T := ⟨f, oc, od, kV, doc, pm, an, c, ct, osl, PySem.W.mg_of X G a, l, cd, k, hd⟩
theorem callee_mkC {P : Program} {w : World} {K : PySem.W.Frag} {mg : Str → Option Value} {base : Heap} {x : Str} {st : Stmt} {N ps : List Str} {k : Nat} {sp : Sp} {T : Addr} (D : DefInC K mg x st T) (S : FnScope N ps (defScope st))
    (hb : ∀ (kV doc pm : Value) (an : Option Addr) (cdv ct : Value) (us : List Value), us.length = ps.length → bindArgs (PySem.W.fnOf x x (defArgs st) (defBody st) (defScope st) .none kV doc pm an cdv ct) ⟨us, []⟩ = pure (ps.zip us))
    (len : ∀ vs H Q E, sp vs H Q E → vs.length = ps.length)
    (hbody : ∀ (f c : Addr) (A : Around) (outer : List Env) (s : Shared) (H : Hp) (vs : List V) (Q : VK) (E : XK), codeHdIn K c T = true → Room k (A.deeper (envOfC x (defScope st) s.heap.objs.size f (.ref c))) → sp vs H Q E →
      ∃ t, PSs (cxOf CX0 P w K mg base N x (defScope st) f (.ref c) A outer s H E).nox (defBody st) t ∧ t { nx := fun _ H' => Q .non H', rt := Q } (start N vs) H) : Callee P w K mg base CX0 (k + 1) x ps sp := by
  obtain ⟨f, oc, od, kV, doc, pm, an, c, ct, osl, hm, lk, hcd, kp, hd⟩ := D
  refine ⟨f, _, fn_of lk hcd S len fun A outer s H vs Q E hr hsp => ?_, hm, kp, .all (hb kV doc pm an (.ref c) ct)⟩
  obtain ⟨t, h, q⟩ := hbody f c A outer s H vs Q E hd hr hsp
  exact ⟨t, h.nox, q⟩
/-! ### the head of the law -/
section
variable {P : Program} {w : World} {K : PySem.W.Frag} {mg mb : Str → Option Value} {k : Nat} {fa a T c : Addr} {fd : FuncData} {x : Str} {sp : Sp} {s₁ : Shared} {vs : List Value} {ns : List Int}
theorem law_callT (KX : K.In s₁.heap) (hns : s₁.heap.Ns mainGlobals mg) (hb : s₁.heap.Ns builtinsNs mb) (hbb : ∀ x : Str, x ≠ "__name__" → mb x = bootBuiltins x) (hlim : s₁.heap.NoLimit) (hg : s₁.gens = #[]) (hBM : BMain mg s₁.heap)
    (hT : s₁.heap.get? T = some (tabObj #[])) (hKT : K.lookup T = none) (hC : CodeHd s₁.heap c T)
    (ha : s₁.heap.get? a = some { cls := .type "list", data := .seq vs.toArray }) (hi : IntsAre vs ns) (hl : ns.length ≤ sizeLine) (hr : Room k callerA)
    (F : ∀ base : Heap, K.In base → base.Ns mainGlobals mg → BMain mg base → FnOk P w K mg base CX0 k fa fd [x] sp) (hbind : ∀ (s : Shared) (u : Value), BindsTo s fd ⟨[u], []⟩ [(x, u)])
    (hsp : ∀ H : Hp, H T = some (.tbl #[]) → SqL K H a (ns.map V.int) → sp [.ref a] H (fun v _ => v = .bl true) fun _ _ _ => False) :
    codeAny (model P w) callerA (.call (.ref fa) ⟨[.ref a], []⟩) (fun r s' => r = .ok (.ret (.bool true)) ∧ OldK s₁.heap s'.heap ∧ s'.os = s₁.os ∧ AllBare s'.gens) s₁ := by
  have lenV := hi.length
  have rv := vals_ints hi
  have hTa : T ≠ a := fun z => by rw [z, ha] at hT; cases hT
  -- what is tracked: the table; the script, if it is not one of the module's own
  obtain ⟨H, hHT, hHa, hHo⟩ : ∃ H : Hp, H T = some (.tbl #[]) ∧ ((H a = none ∧ ∃ o, K.lookup a = some o) ∨ (K.lookup a = none ∧ H a = some (.frz { cls := .type "list", data := .seq vs.toArray } (.lst (ns.map V.int))))) ∧ ∀ b, b ≠ T → b ≠ a → H b = none := by
    cases hk : K.lookup a with
    | some o => exact ⟨fun b => if b = T then some (.tbl #[]) else none, if_pos rfl, .inl ⟨if_neg (Ne.symm hTa), o, rfl⟩, fun b h1 _ => if_neg h1⟩
    | none => exact ⟨fun b => if b = T then some (.tbl #[]) else if b = a then some (.frz { cls := .type "list", data := .seq vs.toArray } (.lst (ns.map V.int))) else none, if_pos rfl, .inr ⟨rfl, by dsimp only; rw [if_neg (Ne.symm hTa), if_pos rfl]⟩,
        fun b h1 h2 => by dsimp only; rw [if_neg h1, if_neg h2]⟩
  have free : ∀ {b : Addr} {o : Obj}, s₁.heap.get? b = some o → o.cls ≠ .none → o.cls ≠ .type "list" → H b = none := fun {b o} e n1 n2 => by
    by_cases h1 : b = T
    · rw [h1, hT] at e; cases e; exact absurd rfl n1
    · by_cases h2 : b = a
      · rw [h2, ha] at e; cases e; exact absurd rfl n2
      · exact hHo b h1 h2
  have freeD : ∀ {b : Addr} {o : Obj} {es : Array DictEntry} {ep : Nat}, s₁.heap.get? b = some o → o.data = .dict es ep → H b = none := fun {b o es ep} e d => by
    by_cases h1 : b = T
    · rw [h1, hT] at e; cases e; cases d
    · by_cases h2 : b = a
      · rw [h2, ha] at e; cases e
        have d' : Data.seq vs.toArray _ = Data.dict es ep := d
        cases d'
      · exact hHo b h1 h2
  have nsK : ∀ {b : Addr} {m : Str → Option Value}, s₁.heap.Ns b m → (hidT s₁.heap H).Ns b m := fun {b m} ⟨o, es, ep, e, d, r⟩ => ⟨o, es, ep, hidT_get e (freeD e d), d, r⟩
  have hKb : K.In (hidT s₁.heap H) := fun b o e => hidT_get (KX b o e) (by
    by_cases h1 : b = T
    · rw [h1, hKT] at e; cases e
    · by_cases h2 : b = a
      · rcases hHa with ⟨z, _⟩ | ⟨z, _⟩
        · rw [h2]; exact z
        · rw [h2, z] at e; cases e
      · exact hHo b h1 h2)
  have hSq : SqL K H a (ns.map V.int) := by
    rcases hHa with ⟨_, o, z⟩ | ⟨_, z⟩
    · have e := KX a o z
      rw [ha] at e
      cases e
      exact .inr ⟨_, vs.toArray, _, z, rfl, rfl, rfl, by rw [List.size_toArray, lenV]; exact hl, by simpa using rv⟩
    · exact .inl (.inr ⟨_, z⟩)
  have hok : HOk P w H s₁.heap := fun b u e => by
    by_cases h1 : b = T
    · rw [h1, hHT] at e
      cases e
      rw [h1]
      exact hT
    · by_cases h2 : b = a
      · rcases hHa with ⟨z, _⟩ | ⟨_, z⟩
        · rw [h2, z] at e; cases e
        · rw [h2, z] at e
          cases e
          rw [h2]
          exact ⟨ha, by rw [List.length_map]; exact hl, vs, _, rv, ha⟩
      · rw [hHo b h1 h2] at e; cases e
  have hM : Mod K mg (hidT s₁.heap H) := ⟨hKb, nsK hns, ⟨mb, nsK hb, hbb⟩, let ⟨mc, h1, h2⟩ := hlim; ⟨mc, nsK h1, h2⟩⟩
  have hB2 : BMain mg (hidT s₁.heap H) := by
    obtain ⟨bm, ob, b1, b2, b3, b4, b5, b6⟩ := hBM
    exact ⟨bm, ob, b1, b2, hidT_get b3 (free b3 (by rw [b4]; simp) (by rw [b4]; decide)), b4, b5, b6⟩
  have e0 : Env0 P w K mg (hidT s₁.heap H) callerA [] s₁ H := ⟨rfl, hM, fun b o e => of_hidT e, Nat.le_of_eq (hidT_size _ _), trivial, fun b hb => absurd (show b ∈ ([] : List Addr) from hb) (by simp), hok, .of_eq hg⟩
  refine codeAny_mono ((F _ hKb (nsK hns) hB2).run callerA [] s₁ H ⟨[.ref a], []⟩ [.ref a] [.ref a] _ _ hr e0 (hbind s₁ (.ref a)) (.cons rfl .nil) (hsp H hHT hSq)) fun r s' h => ?_
  cases r with
  | error e => exact False.elim h
  | ok fl =>
    cases fl with
    | next => exact False.elim h
    | brk => exact False.elim h
    | cont => exact False.elim h
    | ret u =>
      obtain ⟨v, H', os, bare, un, hok', r', q⟩ := h
      have q' : v = .bl true := q
      subst q'
      obtain rfl : u = Value.bool true := r'
      have hfs : ∀ b : Addr, b ∉ frs [] := fun b z => absurd (show b ∈ ([] : List Addr) from z) (by simp)
      refine ⟨rfl, ⟨fun b o e => ?_, fun b o e => un.there b o e (by simp)⟩, os, bare⟩
      by_cases h1 : b = T
      · rw [h1, hT] at e
        cases e
        obtain ⟨more, em⟩ := un.tbls T #[] hHT
        have z : s'.heap.get? T = some (tabObj (#[] ++ more)) := hok' T _ em
        obtain ⟨oc, cv, _, _, _, _, _, _, _, c1, c2, c3, c4, _⟩ := hC
        rw [h1]
        exact .inr (.inl ⟨⟨c, oc, cv, c1, c2, c3, c4⟩, rfl, #[], more, rfl, z⟩)
      · refine .inl ?_
        cases z : H b with
        | none => exact un.keep b o e z (hfs b) (by simp)
        | some u =>
          by_cases h2 : b = a
          · rcases hHa with ⟨y, _⟩ | ⟨_, y⟩
            · rw [h2, y] at z; cases z
            · obtain ⟨e2, _⟩ := hok' a _ (un.frzs a _ _ y)
              rw [h2, ha] at e
              cases e
              rw [h2]
              exact e2
          · rw [hHo b h1 h2] at z; cases z
end
/-- the goal that k_head leaves, from the promise of the def «law»; T: the table of the one code that makes a lambda -/
theorem law_walkT {l : PySem.W.OpenLaw} {k : Nat} {q : Program} {loose : List Str} {XP : (Str → Option Value) → Heap → Prop} {YP : World → Heap → Prop} {d : DefRec} {K : Params → PySem.W.Frag} {st : Stmt} {sp : PySem.W.Frag → Sp} {T : Addr}
    (hn : l.most = some 63 ∨ l.most = some 83) (hdf : d.params.defaults = []) (hr : Room k callerA) (hY : ∀ (w : World) (h : Heap), YP w h → (K w.params).In h ∧ h.get? T = some (tabObj #[])) (hd : d.name = ("law" : Str)) (hKT : ∀ w : World, (K w.params).lookup T = none)
    (hb : ∀ (kV doc pm : Value) (an : Option Addr) (cdv ct : Value) (us : List Value), us.length = 1 → bindArgs (PySem.W.fnOf "law" "law" (defArgs st) (defBody st) (defScope st) .none kV doc pm an cdv ct) ⟨us, []⟩ = pure ((["_law_script"] : List Str).zip us))
    (F : ∀ (w : World) (mg : Str → Option Value) (h : Heap), (K w.params).In h → h.Ns mainGlobals mg → DefIn (K w.params) mg "law" st ∧ (∃ c, codeHdIn (K w.params) c T = true) ∧ ∀ (f : Addr) (fd : FuncData), Fun (K w.params) "law" "law" st f fd → ∀ base : Heap, (K w.params).In base → base.Ns mainGlobals mg → BMain mg base →
      FnOk l.prog w (K w.params) mg base CX0 k f fd ["_law_script"] (sp (K w.params)))
    (hsp : ∀ (K : PySem.W.Frag) (H : Hp) (a : Addr) (ns : List Int), ns.length ≤ 83 → (l.most = some 63 → ns.length ≤ 63) → (∀ i ∈ ns, Builtin.Int.intBits i ≤ 1048576) → H T = some (.tbl #[]) → SqL K H a (ns.map V.int) → sp K [.ref a] H (fun v _ => v = .bl true) fun _ _ _ => False) :
    PySem.W.WalkO q loose XP YP l.row.toRowW d [] (fun f vs => PySem.call f vs) := by
  intro w s₀ s₁ mg mb G Y fa o pm cd doc dV kV ho hd' hcd hD hmg hg args vals as hpre hlay hrd hwl hlo
  obtain rfl : dV = .none := PySem.W.Dflts.none hD hdf
  obtain rfl : kV = .none := PySem.W.Dflts.noKw hD
  obtain ⟨n, hn', hn83⟩ : ∃ n, l.most = some n ∧ n ≤ 83 := by
    rcases hn with e | e
    · exact ⟨63, e, by omega⟩
    · exact ⟨83, e, by omega⟩
  obtain ⟨a, vs, ns, rfl, rfl, hobj, hints, hlen⟩ := Att.script_of hn' hpre hwl
  obtain ⟨KX, hT⟩ := hY w _ Y
  obtain ⟨⟨f, fd, hf, Fu⟩, ⟨c, hC⟩, ok⟩ := F w mg _ KX G.T.g
  rw [hd, hf] at hmg
  cases hmg
  have hbind : ∀ (s : Shared) (u : Value), BindsTo s fd ⟨[u], []⟩ [("_law_script", u)] := fun s u => by
    obtain ⟨oc, od, kV, doc, pm, an, cdv, ct, osl, rfl, lk, hcd⟩ := Fu.ex
    exact .of_eq (hb kV doc pm an cdv ct [u] rfl)
  have hBM : BMain mg s₁.heap := by
    obtain ⟨bm, ob, b1, b2, b3, b4, b5, b6⟩ := G.T.bmain
    exact ⟨bm, ob, b1, b2, b3, b4, b5, b6⟩
  have key := law_callT (sp := sp (K w.params)) KX G.T.g G.T.b G.T.builtins G.T.nolimit hg hBM hT (hKT w) (codeHd_of_K KX hC) hobj hints (Nat.le_trans hlen (Nat.le_trans hn83 (by decide))) hr (fun base kb nb bb => ok _ fd Fu base kb nb bb) hbind
    (fun H h1 hS => hsp _ H a ns (Nat.le_trans hlen hn83) (fun e => by rw [hn'] at e; cases e; exact hlen) (bits_script hlay) h1 hS)
  refine PySem.W.enter_call (codeAny_mono key fun r s' hq => ?_)
  obtain ⟨rfl, h2, h3, h4⟩ := hq
  exact ⟨.inl ⟨.bool true, .bool true, [], rfl, fun _ => rfl, .bool true, Att.post_true l _, fun _ => ⟨List.Pairwise.nil, fun _ hm => (nomatch hm)⟩⟩, h2, h3, h4⟩
end L2

set_option Elab.async false
set_option linter.all false
set_option maxRecDepth 100000
/-! xs.index(k); != of two lists of rows. -/
namespace L2
open PySem PySem.Spec PyProof.Rows
section
variable {X : Cx}
def rIndex (K : PySem.W.Frag) : V → List V → Hp → VK → Prop := fun x vs H Q => ∃ (l : Addr) (ns : List Int) (k : Int), x = .ref l ∧ vs = [.int k] ∧ SqL K H l (ns.map V.int) ∧ ns.length ≤ 100 ∧ k ∈ ns ∧ ∀ j, j < ns.length → ns.getD j 0 = k → Q (.int (j : Nat)) H
theorem mt_index : MtR X "list.index" (rIndex X.K) := by
  intro pins s σ H x vs v us Q I rx rv h
  obtain ⟨l, ns, k, rfl, rfl, hq, h100, hk, q⟩ := h
  cases rx
  obtain ⟨u, rfl, r1⟩ := rv.one
  obtain ⟨t, rfl⟩ := r1
  obtain ⟨its, hi, hl, hn, hz⟩ := intsOfL I hq
  obtain ⟨⟨cls, dd, data, sl⟩, ho, hc, n, hd⟩ := id hl
  simp only at hc hd
  subst hc hd
  have hlen := hi.length
  have hj : ns.idxOf k < ns.length := List.idxOf_lt_length_iff.mpr hk
  refine call_meets PySem.F.slot_list_index ⟨_, ho, rfl⟩ PySem.F.entry_list_index (PySem.F.args_list_index_2 _ _)
    (SeqAt.list_indexAt l its.toArray n dd sl (.int k t) (isInt k) (ns.idxOf k) (by simpa [hlen] using hj) (by omega) ?_ ?_) ⟨ho, fun y hy => (eq_isInt k t hi y (by simpa using hy)).at _ _, ?_⟩
  · show isInt k its[ns.idxOf k] = true
    rw [isInt_at k hi _ (by omega) hj]
    simpa using List.getElem_idxOf hj
  · intro j hjs hlt
    show isInt k its[j] = false
    rw [isInt_at k hi j (by simpa using hjs) (by omega)]
    exact ne_of_lt_idxOf hlt _
  · exact ⟨.int (ns.idxOf k : Nat), H, I.tok _, ⟨_, rfl⟩, q _ hj (by simp [List.getD, hj])⟩
/-- two lists of two rows each, alike: != -/
theorem op_neLL (hu : X.A.units + 64 < cLine) : OpR X (compareOp .NotEq) (fun x y H Q => ∃ (a b p1 p2 q1 q2 : Addr) (ns ms : List Int), x = .ref a ∧ y = .ref b ∧ SqL X.K H a [.ref p1, .ref p2] ∧ SqL X.K H b [.ref q1, .ref q2] ∧ SqL X.K H p1 (ns.map V.int) ∧ SqL X.K H q1 (ns.map V.int) ∧ SqL X.K H p2 (ms.map V.int) ∧ SqL X.K H q2 (ms.map V.int) ∧ Q (.bl false) H) := by
  intro pins s σ H x y v u Q I rx ry h
  obtain ⟨a, b, p1, p2, q1, q2, ns, ms, rfl, rfl, ha, hb, k1, k2, k3, k4, q⟩ := h
  cases rx
  cases ry
  obtain ⟨i1, r1, t1, _⟩ := I.list ha
  obtain ⟨i2, r2, t2, _⟩ := I.list hb
  obtain ⟨u1, u2, rfl, g1, g2⟩ := vals2 r1
  obtain ⟨w1, w2, rfl, g3, g4⟩ := vals2 r2
  cases g1
  cases g2
  cases g3
  cases g4
  refine SeqAt.RcNeAt.lists (e := fun _ => true) t1.isList t2.isList rfl (by omega) (fun j h1 h2 => ?_) X.prog X.w X.xe _ ?_
  · have hu1 : X.A.in1.units < cLine := by
      have : X.A.in1.units ≤ X.A.units + 64 := by unfold Around.in1; simp
      omega
    match j, h1 with
    | 0, _ => exact ints_eqAt I hu1 k1 k2
    | 1, _ => exact ints_eqAt I hu1 k3 k4
  · rw [all_eq (fun _ _ => rfl)]
    exact ⟨.bl false, H, I, rfl, q⟩
end
end L2

set_option Elab.async false
set_option linter.all false
set_option maxRecDepth 100000
set_option maxHeartbeats 4000000
local macro_rules | `(tactic| walk_at "rd") => `(tactic| repeat (first | refine ⟨_, rfl, ?_⟩ | refine ⟨_, _, rfl, rfl, ?_⟩ | refine ⟨_, _, rfl, rfl, (by first | (dsimp only; decide) | exact ⟨by decide, by decide⟩ | exact ⟨by decide, by decide, by decide⟩ | exact .inl ⟨by decide, by decide⟩ | exact .inr ⟨by decide, by decide⟩ | (dsimp only; decide +kernel)), ?_⟩))
namespace K07
open PySem L2 PyProof.Rows
open Builtin.Int (intBits)
def top (i : Nat) : Stmt := PySem.Challenge.pw_pursewise_k07_whole_a_way_or_a_gap.main.body.getD i (.Pass ⟨0, 0, 0, 0⟩)
abbrev s_tops : Stmt := top 7
abbrev s_refuse_unlike : Stmt := top 9
abbrev s_gap : Stmt := top 10
abbrev s_held_more : Stmt := top 11
abbrev s_fullest_first : Stmt := top 12
abbrev s_handed_on : Stmt := top 13
abbrev s_way : Stmt := top 14
abbrev s__law_cell_at : Stmt := top 16
abbrev s__law_whole : Stmt := top 17
abbrev s__law_purse : Stmt := top 18
abbrev s__law_pulled : Stmt := top 19
abbrev s__law_one_back : Stmt := top 20
abbrev s__law_pair : Stmt := top 21
abbrev s__law_gap : Stmt := top 22
abbrev s__law_dues : Stmt := top 23
abbrev s__law_is_gift : Stmt := top 24
abbrev s__law_leads : Stmt := top 25
abbrev s__law_no_way : Stmt := top 26
abbrev s__law_good : Stmt := top 27
abbrev s_law : Stmt := top 28
section
variable {P : Program} {w : World} {K : PySem.W.Frag} {mg : Str → Option Value} {base : Heap}
/-! ### tops -/
def spTops (K : PySem.W.Frag) : Sp := fun vs H Q _ => ∃ (a : Addr) (ns : List Int), vs = [.ref a] ∧ SqL K H a (ns.map V.int) ∧ ns.length < 64 ∧
  ∀ (l : Addr) (H' : Hp), H l = none → Same H H' → H' l = some (.lst ((PwM.tops ns).map V.int)) → Q (.ref l) H'
theorem sc_tops : FnScope ["row", "sums", "held"] ["row"] (defScope s_tops) := ⟨rfl, rfl, rfl, by decide +kernel, rfl, by decide +kernel, by decide +kernel⟩
theorem ok_tops (D : DefIn K mg "tops" s_tops) (T : Blt mg) : Callee P w K mg base CX0 1 "tops" ["row"] (spTops K) := by
  refine callee_mk D sc_tops (fun _ _ _ _ _ _ us hl => match us, hl with | [_], _ => rfl) (fun vs H Q E h => ?_) (fun f cdv A outer s H vs Q E hr h => ?_)
  · obtain ⟨a, ns, rfl, _⟩ := h
    rfl
  · obtain ⟨a, ns, rfl, hS, hn, k⟩ := h
    refine ⟨_, (pss_cons (ps_set (i := 1) sc_tops.nd rfl (Or.inl rfl) (pe_lst (pa_cons pe_int pa_nil)))
      (pss_cons (ps_for PassesOwn.never rfl (pi_list (pe_callBK call_sortedR rfl T.sorted boot_sorted (pa_cons (pv 0) pa_nil) (pk_cons pe_bl pk_nil))) (pg_name (i := 2) sc_tops.nd rfl (Or.inl rfl)) (pss_one (ps_expr (pe_bm PySem.F.plainAttrs_list PySem.F.slot_list_append PySem.F.type_list_append mt_append (pv 1) (pa_cons (pe_op op_add (pe_ix ix_list (pv 1) (pe_un un_neg pe_int) (fun _ _ => rfl)) (pv 2)) pa_nil)))))
      (pss_one (ps_ret (pv 1))))), ?_⟩
    refine ⟨(by show 1 ≤ sizeLine; decide), fun l hl => ?_⟩
    have s1 : Same H (upd H l (.lst [.int 0])) := (Same.refl H).upd_new hl
    refine ⟨_, rfl, a, ns, rfl, rfl, s1.seq hS, hn, fun q hq => ?_⟩
    have nlq : l ≠ q := ne_of_none upd_same hq
    have hq0 : H q = none := s1.free hq
    have s2 : Same H (upd (upd H l (.lst [.int 0])) q (.lst ((PwM.desc ns).map V.int))) := s1.upd_new hq0
    refine ⟨q, rfl, ⟨_, SqL.of upd_same⟩, for_list (K := K) (a := q) (xs := (PwM.desc ns).map V.int) (fun i σ H2 => ∃ v, σ = [some (.ref a), some (.ref l), v] ∧ Same H H2 ∧ H2 q = some (.lst ((PwM.desc ns).map V.int)) ∧ H2 l = some (.lst ((PwM.sumsTo (PwM.desc ns) i).map V.int)))
      ⟨none, rfl, s2, upd_same, by rw [upd_ne nlq, upd_same, PwM.sumsTo_zero]; rfl⟩ (fun i σ H2 _ ⟨_, _, _, h3, _⟩ => SqL.of h3) ?_ ?_⟩
    · rintro i y σ H2 hi ⟨v, rfl, sH, h3, h4⟩
      have hil : i < ((PwM.desc ns).map V.int).length := (List.getElem?_eq_some_iff.mp hi).1
      rw [List.length_map, PwM.desc_length] at hil
      rw [List.getElem?_map] at hi
      obtain ⟨z, hz, rfl⟩ : ∃ z, (PwM.desc ns)[i]? = some z ∧ y = V.int z := by
        cases e : (PwM.desc ns)[i]? with
        | none => rw [e] at hi; cases hi
        | some z => rw [e] at hi; exact ⟨z, rfl, (Option.some.inj hi).symm⟩
      have hlast : atI ((PwM.sumsTo (PwM.desc ns) i).map V.int) (-1) = some (.int ((PwM.desc ns).take i).sum) := by
        obtain ⟨p, e⟩ := PwM.sumsTo_last (PwM.desc ns) i
        exact atI_lastV ⟨p.map V.int, by rw [e, List.map_append]; rfl⟩
      refine ⟨_, rfl, .inl ⟨rfl, _, SqL.of h4⟩, _, rfl, _, rfl, l, _, _, _, rfl, rfl, SqL.of h4, hlast, _, rfl, _, _, rfl, rfl, l, _, _, rfl, rfl, h4, (small1000 (by rw [List.length_map, PwM.sumsTo_length]; omega)), ?_⟩
      refine ⟨_, rfl, fun b o e => ?_, ?_, ?_⟩
      · rw [upd_ne (ne_of_none e hl)]
        exact sH b o e
      · rw [upd_ne nlq.symm]
        exact h3
      · rw [upd_same, PwM.sumsTo_succ, List.map_append, PwM.take_sum _ hz]
        rfl
    · rintro σ H2 ⟨v, rfl, sH, h3, h4⟩
      rw [List.length_map, PwM.desc_length] at h4
      exact ⟨_, rfl, k l H2 hl sH h4⟩
/-! ### refuse_unlike, gap, held_more, dues -/
def spRefuse (K : PySem.W.Frag) (cUnlike : Addr) : Sp := fun vs H Q E => ∃ (a b : Addr) (ns ms : List Int), vs = [.ref a, .ref b] ∧ SqL K H a (ns.map V.int) ∧ SqL K H b (ms.map V.int) ∧ (PwM.Like ns ms → Q .non H) ∧ (¬ PwM.Like ns ms → E (.ref cUnlike) none H)
theorem sc_refuse_unlike : FnScope ["one", "other"] ["one", "other"] (defScope s_refuse_unlike) := ⟨rfl, rfl, rfl, by decide +kernel, rfl, by decide +kernel, by decide +kernel⟩
theorem ok_refuse {cUnlike : Addr} (D : DefIn K mg "refuse_unlike" s_refuse_unlike) (T : Blt mg) (R_Unlike : ErX K mg "Unlike" cUnlike) : Callee P w K mg base (CX1 P w) 1 "refuse_unlike" ["one", "other"] (spRefuse K cUnlike) := by
  refine callee_mkX D sc_refuse_unlike (fun _ _ _ _ _ _ us hl => match us, hl with | [_, _], _ => rfl) (fun vs H Q E h => ?_) (fun f cdv A outer s H vs Q E hr h => ?_)
  · obtain ⟨a, b, ns, ms, rfl, _⟩ := h
    rfl
  · obtain ⟨a, b, ns, ms, rfl, h1, h2, kq, ke⟩ := h
    refine ⟨_, (pss_cons (ps_if (pt_cmpR op_ne (pe_callB call_len_seq rfl T.len PySem.boot_len (pa_cons (pv 0) pa_nil)) (pe_callB call_len_seq rfl T.len PySem.boot_len (pa_cons (pv 1) pa_nil)) (nomark _)) (pss_one (ps_raise raisesX rfl R_Unlike.exc rfl R_Unlike.mg (pa_cons pe_str pa_nil))) pss_nil)
      (pss_one (ps_if (pt_cmpR op_ne (pe_callB (call_sum rfl) rfl T.sum boot_sum (pa_cons (pv 0) pa_nil)) (pe_callB (call_sum rfl) rfl T.sum boot_sum (pa_cons (pv 1) pa_nil)) (nomark _)) (pss_one (ps_raise raisesX rfl R_Unlike.exc rfl R_Unlike.mg (pa_cons pe_str pa_nil))) pss_nil))), ?_⟩
    refine ⟨_, rfl, a, _, rfl, .inl h1, _, rfl, b, _, rfl, .inl h2, rfl, _, rfl, ?_⟩
    rw [List.length_map, List.length_map]
    by_cases hl : ns.length = ms.length
    · refine iteNS (by rw [hl]) ?_
      refine ⟨_, rfl, a, ns, rfl, h1, _, rfl, b, ms, rfl, h2, rfl, _, rfl, ?_⟩
      by_cases hs : ns.sum = ms.sum
      · exact iteNS (by rw [hs]) (kq ⟨hl, hs⟩)
      · rw [decide_eq_false (fun z => hs (V.int.inj z))]
        exact iteT ⟨(by show 1 ≤ sizeLine; decide), ke fun z => hs z.2⟩
    · rw [decide_eq_false (fun z => hl (by have := V.int.inj z; omega))]
      exact iteT ⟨(by show 1 ≤ sizeLine; decide), ke fun z => hl z.1⟩
def spGap (K : PySem.W.Frag) (cUnlike : Addr) : Sp := fun vs H Q E => ∃ (a b : Addr) (ns ms : List Int), vs = [.ref a, .ref b] ∧ SqL K H a (ns.map V.int) ∧ SqL K H b (ms.map V.int) ∧ ns.length < 64 ∧ ms.length < 64 ∧
  (PwM.Like ns ms → ∀ (o : Option Nat) (H' : Hp), PwM.IsGap ns ms o → Same H H' → Q (optV o) H') ∧ (¬ PwM.Like ns ms → E (.ref cUnlike) none H)
theorem sc_gap : FnScope ["one", "other", "first", "second", "count"] ["one", "other"] (defScope s_gap) := ⟨rfl, rfl, rfl, by decide +kernel, rfl, by decide +kernel, by decide +kernel⟩
theorem ok_gap {cUnlike : Addr} (D : DefIn K mg "gap" s_gap) (T : Blt mg) (C_refuse_unlike : Callee P w K mg base (CX1 P w) 1 "refuse_unlike" ["one", "other"] (spRefuse K cUnlike)) (C_tops : Callee P w K mg base CX0 1 "tops" ["row"] (spTops K)) :
    Callee P w K mg base (CX1 P w) 2 "gap" ["one", "other"] (spGap K cUnlike) := by
  refine callee_mkX D sc_gap (fun _ _ _ _ _ _ us hl => match us, hl with | [_, _], _ => rfl) (fun vs H Q E h => ?_) (fun f cdv A outer s H vs Q E hr h => ?_)
  · obtain ⟨a, b, ns, ms, rfl, _⟩ := h
    rfl
  · obtain ⟨a, b, ns, ms, rfl, h1, h2, l1, l2, kq, ke⟩ := h
    refine ⟨_, (pss_cons (ps_expr (pe_callC C_refuse_unlike hr (by decide) rfl passX (pa_cons (pv 0) (pa_cons (pv 1) pa_nil))))
      (pss_cons (ps_set (i := 2) sc_gap.nd rfl (Or.inl rfl) (pe_callC C_tops hr (by decide) rfl pass0 (pa_cons (pv 0) pa_nil)))
      (pss_cons (ps_set (i := 3) sc_gap.nd rfl (Or.inl rfl) (pe_callC C_tops hr (by decide) rfl pass0 (pa_cons (pv 1) pa_nil)))
      (pss_cons (ps_for PassesOwn.leaving rfl (pi_range1 rfl T.range (pa_cons (pe_callB call_len_seq rfl T.len PySem.boot_len (pa_cons (pv 2) pa_nil)) pa_nil)) (pg_name (i := 4) sc_gap.nd rfl (Or.inl rfl)) (pss_one (ps_if (pt_cmpR op_gt (pe_ix ix_list (pv 3) (pv 4) (fun _ _ => rfl)) (pe_ix ix_list (pv 2) (pv 4) (fun _ _ => rfl)) (nomark _)) (pss_one (ps_ret (pv 4))) pss_nil)))
      (pss_one (ps_ret pe_non)))))), ?_⟩
    refine ⟨_, rfl, _, rfl, a, b, ns, ms, rfl, h1, h2, fun hl => ?_, ke⟩
    refine ⟨_, rfl, a, ns, rfl, h1, l1, fun f H1 hf0 s1 hf1 => ?_⟩
    refine ⟨_, rfl, b, ms, rfl, s1.seq h2, l2, fun g H2 hg0 s2 hg2 => ?_⟩
    have hf2 := s2 _ _ hf1
    have s02 := s1.trans s2
    refine ⟨_, rfl, f, _, rfl, .inl (SqL.of hf2), _, rfl, (by rw [List.length_map, PwM.tops_length]; omega), (by rw [List.length_map, PwM.tops_length]; omega), ?_⟩
    refine for_range (lo := 0) (n := ((((PwM.tops ns).map V.int).length : Nat) : Int).toNat) (fun i σ H3 => ∃ v, σ = [some (.ref a), some (.ref b), some (.ref f), some (.ref g), v] ∧ H3 = H2 ∧ ∀ k, k < i → ¬ PwM.Ahead ns ms k) ⟨none, rfl, rfl, fun k hk => by omega⟩ ?_ ?_
    · rintro i σ H3 hi ⟨v, rfl, rfl, hno⟩
      rw [List.length_map, PwM.tops_length] at hi
      have hi1 : i ≤ ns.length := by omega
      have hi2 : i ≤ ms.length := by rw [← hl.1]; exact hi1
      have e0 : (0 : Int) + (i : Int) = (i : Int) := by omega
      rw [e0]
      refine ⟨_, rfl, _, rfl, g, _, _, _, rfl, rfl, SqL.of hg2, atI_map (PwM.tops_get ms hi2), _, rfl, _, rfl, f, _, _, _, rfl, rfl, SqL.of hf2, atI_map (PwM.tops_get ns hi1), _, _, rfl, rfl, _, rfl, ?_⟩
      refine ite2 (fun hp => ?_) (fun hp => ?_)
      · exact ⟨_, rfl, kq hl (some i) _ ⟨hi1, (show (_ : Int) < _ from of_decide_eq_true hp), hno⟩ s02⟩
      · refine ⟨_, rfl, rfl, fun k hk => ?_⟩
        by_cases e : k = i
        · rw [e]; exact fun z => hp (decide_eq_true (show (_ : Int) < _ from z))
        · exact hno k (by omega)
    · rintro σ H3 ⟨v, rfl, rfl, hno⟩
      rw [List.length_map, PwM.tops_length] at hno
      exact kq hl none _ (fun k hk => hno k (by omega)) s02
def spMore (K : PySem.W.Frag) : Sp := fun vs H Q _ => ∃ (a b : Addr) (ns ms : List Int), vs = [.ref a, .ref b] ∧ SqL K H a (ns.map V.int) ∧ SqL K H b (ms.map V.int) ∧ ns.length < 64 ∧ ns.length = ms.length ∧
  ∀ (l : Addr) (H' : Hp), H l = none → Same H H' → H' l = some (.lst ((PwM.moreL ns ms).map V.int)) → Q (.ref l) H'
theorem sc_held_more : FnScope ["one", "other", "fullest", "wanted"] ["one", "other"] (defScope s_held_more) := ⟨rfl, rfl, rfl, by decide +kernel, rfl, by decide +kernel, by decide +kernel⟩
theorem ok_more (D : DefIn K mg "held_more" s_held_more) (T : Blt mg) : Callee P w K mg base CX0 1 "held_more" ["one", "other"] (spMore K) := by
  refine callee_mk D sc_held_more (fun _ _ _ _ _ _ us hl => match us, hl with | [_, _], _ => rfl) (fun vs H Q E h => ?_) (fun f cdv A outer s H vs Q E hr h => ?_)
  · obtain ⟨a, b, ns, ms, rfl, _⟩ := h
    rfl
  · obtain ⟨a, b, ns, ms, rfl, h1, h2, l1, hl, kq⟩ := h
    refine ⟨_, (pss_cons (ps_set (i := 2) sc_held_more.nd rfl (Or.inl rfl) (pe_callBK call_sortedR rfl T.sorted boot_sorted (pa_cons (pv 0) pa_nil) (pk_cons pe_bl pk_nil)))
      (pss_cons (ps_set (i := 3) sc_held_more.nd rfl (Or.inl rfl) (pe_callBK call_sortedR rfl T.sorted boot_sorted (pa_cons (pv 1) pa_nil) (pk_cons pe_bl pk_nil)))
      (pss_one (ps_ret (pe_comp (N' := ["held", "asked"]) (fr := [none, none]) (.of rfl rfl) (pi_zip rfl T.zip (pa_cons (pv 2) (pa_cons (pv 3) pa_nil))) (fun _ _ _ _ => (pg_tupK (K := K) (n := 2) rfl rfl (pgs_cons (pg_name (i := 0) (show (["held", "asked"] : List Str).Nodup from by decide +kernel) rfl (Or.inl rfl) (.inr rfl)) (pgs_cons (pg_name (i := 1) (show (["held", "asked"] : List Str).Nodup from by decide +kernel) rfl (Or.inl rfl) (.inr rfl)) pgs_nil)) rfl rfl)) (fun _ _ _ _ => pf_nil) (fun _ _ _ _ => (pe_op op_sub (pv 0) (pv 1)))))))), ?_⟩
    refine ⟨_, rfl, a, ns, rfl, rfl, h1, l1, fun f hf0 => ?_⟩
    have s1 : Same H (upd H f (.lst ((PwM.desc ns).map V.int))) := (Same.refl H).upd_new hf0
    have hf1 : upd H f (.lst ((PwM.desc ns).map V.int)) f = some (.lst ((PwM.desc ns).map V.int)) := upd_same
    generalize upd H f (.lst ((PwM.desc ns).map V.int)) = H1 at s1 hf1 ⊢
    refine ⟨_, rfl, b, ms, rfl, rfl, s1.seq h2, by omega, fun g hg0 => ?_⟩
    have s2 : Same H1 (upd H1 g (.lst ((PwM.desc ms).map V.int))) := (Same.refl H1).upd_new hg0
    have hg2 : upd H1 g (.lst ((PwM.desc ms).map V.int)) g = some (.lst ((PwM.desc ms).map V.int)) := upd_same
    have hf2 := s2 _ _ hf1
    generalize upd H1 g (.lst ((PwM.desc ms).map V.int)) = H2 at s2 hg2 hf2 ⊢
    have s02 := s1.trans s2
    refine ⟨_, rfl, _, rfl, f, g, _, _, rfl, SqL.of hf2, SqL.of hg2, fun l hl0 => ?_⟩
    have e1 : ((PwM.desc ns).map V.int).length = ((PwM.desc ms).map V.int).length := by rw [List.length_map, List.length_map, PwM.desc_length, PwM.desc_length]; exact hl
    refine comp_zip (xs := (PwM.desc ns).map V.int) (ys := (PwM.desc ms).map V.int) (fun i σ H3 => ∃ v1 v2, σ = [v1, v2] ∧ Same H2 H3 ∧ H3 l = some (.lst (((PwM.moreL ns ms).take i).map V.int)))
      ⟨none, none, rfl, (Same.refl H2).upd_new hl0, by rw [upd_same]; rfl⟩ e1 (fun i σ H3 _ ⟨_, _, _, sH, _⟩ => ⟨SqL.of (sH _ _ hf2), SqL.of (sH _ _ hg2)⟩) ?_ ?_
    · rintro i x y p σ H3 hx hy hp ⟨v1, v2, rfl, sH, hL⟩
      obtain ⟨x, hx', rfl⟩ := int_item hx
      obtain ⟨y, hy', rfl⟩ := int_item hy
      have hm := PwM.moreL_get hx' hy'
      have hlp : l ≠ p := ne_of_none hL hp
      have hi : i < ns.length := by rw [← PwM.desc_length ns]; exact (List.getElem?_eq_some_iff.mp hx').1
      refine ⟨p, [.int x, .int y], rfl, SqT.of upd_same, rfl, _, _, rfl, _, _, rfl, rfl, ?_⟩
      dsimp only [tTrue]
      rw [if_pos rfl]
      refine ⟨_, rfl, _, rfl, _, _, rfl, rfl, _, by rw [upd_ne hlp]; exact hL, small1000 (by rw [List.length_map, List.length_take]; omega), _, _, rfl, ?_, ?_⟩
      · intro c o e
        rw [upd_ne (ne_of_none e hl0), upd_ne (ne_of_none (sH _ _ e) hp)]
        exact sH _ _ e
      · rw [upd_same, List.take_add_one, hm, List.map_append]
        rfl
    · rintro σ H3 ⟨v1, v2, rfl, sH, hL⟩
      refine kq l H3 (s02.free hl0) (s02.trans sH) ?_
      rw [List.length_map, PwM.desc_length, List.take_of_length_le (by rw [PwM.moreL_length hl]; exact Nat.le_refl _)] at hL
      exact hL
/-! ### fullest_first -/
def lamOf (st : Stmt) : LamTxt := match defBody st with
  | [.Return (some (.Call _ _ [⟨_, .Lambda params (.Subscript (.Name x p1) (.Name y p2) p3) scope _, _⟩, _] _)) _] => ⟨x, y, p1, p2, p3, params, scope⟩
  | _ => ⟨"", "", ⟨0, 0, 0, 0⟩, ⟨0, 0, 0, 0⟩, ⟨0, 0, 0, 0⟩, defArgs st, defScope st⟩
def lamPos (st : Stmt) : Pos := match defBody st with
  | [.Return (some (.Call _ _ [⟨_, .Lambda _ _ _ pos, _⟩, _] _)) _] => pos
  | _ => ⟨0, 0, 0, 0⟩
abbrev lamT (P : Addr) : LamAt := ⟨P, lamPos s_fullest_first, "fullest_first.<locals>.<lambda>"⟩
theorem lam_ok : (lamOf s_fullest_first).Ok := ⟨fun _ _ _ _ _ _ => rfl, rfl, rfl, rfl, by decide +kernel, rfl, rfl, by decide +kernel, by decide +kernel, by decide +kernel⟩
def idxV (idx : List Nat) : List V := (idx.map fun (i : Nat) => (i : Int)).map V.int
theorem idxV_get {idx : List Nat} {i : Nat} (h : i < idx.length) : atI (idxV idx) (i : Int) = some (.int ((idx.getD i 0 : Nat) : Int)) := by
  have e : (idx.map fun (i : Nat) => (i : Int))[i]? = some ((idx.getD i 0 : Nat) : Int) := by simp [List.getD, h]
  exact atI_map e
def spFull (K : PySem.W.Frag) (T : LamAt) : Sp := fun vs H Q _ => ∃ (a : Addr) (ns : List Int), vs = [.ref a] ∧ SqL K H a (ns.map V.int) ∧ ns.length < 64 ∧ Tab T H ∧
  ∀ (l : Addr) (idx : List Nat) (H' : Hp), H l = none → SameT H H' → Tab T H' → H' l = some (.lst (idxV idx)) → idx.Perm (List.range ns.length) → idx.Pairwise (fun a b => ns.getD b 0 ≤ ns.getD a 0) → Q (.ref l) H'
theorem sc_fullest_first : FnScope ["row"] ["row"] (defScope s_fullest_first) := ⟨rfl, rfl, rfl, by decide +kernel, rfl, by decide +kernel, by decide +kernel⟩
theorem ok_full {Tb : Addr} (kb : K.In base) (B : BMain mg base) (D : DefInC K mg "fullest_first" s_fullest_first Tb) (T : Blt mg) : Callee P w K mg base CX0 3 "fullest_first" ["row"] (spFull K (lamT Tb)) := by
  refine callee_mkC D sc_fullest_first (fun _ _ _ _ _ _ us hl => match us, hl with | [_], _ => rfl) (fun vs H Q E h => ?_) (fun f c A outer s H vs Q E hC hr h => ?_)
  · obtain ⟨a, ns, rfl, _⟩ := h
    rfl
  · obtain ⟨a, ns, rfl, hS, hn, hT, kq⟩ := h
    refine ⟨_, (pss_one (ps_ret (pe_sortKey (W := lamOf s_fullest_first) (qual := (lamT Tb).qual) (i := 0) (c := s.heap.objs.size + 1) lam_ok hr (by decide) rfl rfl rfl rfl rfl T.sorted boot_sorted
      (pa_cons (pe_callTy call_rangeV rfl T.range boot_range (pa_cons (pe_callB call_len_seq rfl T.len PySem.boot_len (pa_cons (pv 0) pa_nil)) pa_nil)) pa_nil)
      (pk_cons (pe_lam (T := lamT Tb) (clos := [("row", s.heap.objs.size + 1)]) (c := c) rfl rfl rfl (PySem.W.codeHd_of_K kb hC) B rfl rfl) (pk_cons pe_bl pk_nil))))), ?_⟩
    refine ⟨_, rfl, a, _, rfl, .inl hS, ns.length, (by rw [List.length_map]), (by omega), fun r hr0 => ?_⟩
    have s1 : Same H (upd H r (.rng 0 ns.length)) := (Same.refl H).upd_new hr0
    have hr1 : upd H r (.rng 0 ns.length) r = some (.rng 0 ns.length) := upd_same
    generalize upd H r (.rng 0 ns.length) = H1 at s1 hr1 ⊢
    refine ⟨hT.same s1, fun f2 c2 ctv H2 s2 t2 hf0 hf2 hc2 => ?_⟩
    refine ⟨r, f2, c2, a, ctv, ns, rfl, rfl, s2.same _ _ hr1 rfl, hn, hf2, hc2, rfl, (s1.T.trans s2).seq hS, fun D idx hD hp ho => ?_⟩
    refine kq D idx _ ((s1.T.trans s2).free hD) ((s1.T.trans s2).trans ((Same.refl H2).upd_new hD).T) (t2.upd hD) ?_ hp ho
    rw [upd_same]
    unfold idxV
    rw [List.map_map]
    rfl
/-! ### handed_on -/
structure GiftsH (H : Hp) (a : Addr) (ps : List Addr) (gs : List Gv) : Prop where
  hA : H a = some (.lst (ps.map V.ref))
  len : ps.length = gs.length
  at_ : ∀ (i : Nat) (p : Addr) (g : Gv), ps[i]? = some p → gs[i]? = some g → H p = some (tupG g)
theorem GiftsH.sameT {H H' : Hp} {a : Addr} {ps : List Addr} {gs : List Gv} (h : GiftsH H a ps gs) (s : SameT H H') : GiftsH H' a ps gs := ⟨s.lst h.hA, h.len, fun i p g e1 e2 => s.tup (h.at_ i p g e1 e2)⟩
structure GSt (H H3 : Hp) (l g : Addr) (left : List Int) (ps : List Addr) (gs : List Gv) : Prop where
  same : Same H H3
  hl : H3 l = some (.lst (left.map V.int))
  hg : H3 g = some (.lst (ps.map V.ref))
  len : ps.length = gs.length
  at_ : ∀ (i : Nat) (p : Addr) (x : Gv), ps[i]? = some p → gs[i]? = some x → H3 p = some (tupG x)
theorem GSt.give {H H3 : Hp} {l g p : Addr} {left left' : List Int} {ps : List Addr} {gs : List Gv} {x : Gv} (h : GSt H H3 l g left ps gs) (hl0 : H l = none) (hg0 : H g = none) (hlg : l ≠ g) (hp : H3 p = none) :
    GSt H (upd (upd (upd H3 p (tupG x)) g (.lst (ps.map V.ref ++ [V.ref p]))) l (.lst (left'.map V.int))) l g left' (ps ++ [p]) (gs ++ [x]) := by
  have pl : p ≠ l := fun z => by rw [z, h.hl] at hp; cases hp
  have pg : p ≠ g := fun z => by rw [z, h.hg] at hp; cases hp
  refine ⟨fun b o e => ?_, upd_same, by rw [upd_ne (Ne.symm hlg), upd_same, List.map_append]; rfl, by simp [h.len], fun i q y e1 e2 => ?_⟩
  · rw [upd_ne (ne_of_none e hl0), upd_ne (ne_of_none e hg0), upd_ne (ne_of_none (h.same _ _ e) hp)]
    exact h.same _ _ e
  · by_cases hi : i < ps.length
    · rw [List.getElem?_append_left hi] at e1
      rw [List.getElem?_append_left (by rw [← h.len]; exact hi)] at e2
      have e := h.at_ i q y e1 e2
      rw [upd_ne (fun z => by rw [z, h.hl] at e; cases e), upd_ne (fun z => by rw [z, h.hg] at e; cases e), upd_ne (ne_of_none e hp)]
      exact e
    · have hi' : i = ps.length := by
        have := (List.getElem?_eq_some_iff.mp e1).1
        simp at this
        omega
      subst hi'
      rw [List.getElem?_append_right (Nat.le_refl _), Nat.sub_self] at e1
      rw [List.getElem?_append_right (by rw [h.len]; exact Nat.le_refl _), h.len, Nat.sub_self] at e2
      simp at e1 e2
      subst e1 e2
      rw [upd_ne pl, upd_ne pg, upd_same]
def spHand (K : PySem.W.Frag) : Sp := fun vs H Q _ => ∃ (a b : Addr) (idx : List Nat) (one w' more : List Int), vs = [.ref a, .ref b] ∧ SqL K H a (idxV idx) ∧ SqL K H b (more.map V.int) ∧ idx.length < 64 ∧ PwM.HandIn one w' idx more ∧
  ∀ (l : Addr) (ps : List Addr) (gs : List Gv) (here : List Int) (H' : Hp), H l = none → Same H H' → GiftsH H' l ps gs → PwM.walkR one gs = some here → here.Perm w' → PwM.amounts gs = PwM.posSum more →
    (gs.length : Int) ≤ max ((one.length : Int) - 1) 0 → Q (.ref l) H'
theorem sc_handed_on : FnScope ["places", "more", "left", "gifts", "giver", "taker", "amount"] ["places", "more"] (defScope s_handed_on) := ⟨rfl, rfl, rfl, by decide +kernel, rfl, by decide +kernel, by decide +kernel⟩
theorem ok_hand (D : DefIn K mg "handed_on" s_handed_on) (T : Blt mg) : Callee P w K mg base CX0 1 "handed_on" ["places", "more"] (spHand K) := by
  refine callee_mk D sc_handed_on (fun _ _ _ _ _ _ us hl => match us, hl with | [_, _], _ => rfl) (fun vs H Q E h => ?_) (fun f cdv A outer s H vs Q E hr h => ?_)
  · obtain ⟨a, b, idx, one, w', more, rfl, _⟩ := h
    rfl
  · obtain ⟨a, b, idx, one, w', more, rfl, hA, hB, hn, hI, kq⟩ := h
    refine ⟨_, (pss_cons (ps_set (i := 2) sc_handed_on.nd rfl (Or.inl rfl) (pe_callTy call_list_of rfl T.list boot_list (pa_cons (pv 1) pa_nil)))
      (pss_cons (ps_set (i := 3) sc_handed_on.nd rfl (Or.inl rfl) (pe_lst pa_nil))
      (pss_cons (ps_set (i := 4) sc_handed_on.nd rfl (Or.inl rfl) pe_int)
      (pss_cons (ps_for PassesOwn.never rfl (pi_range1 rfl T.range (pa_cons (pe_callB call_len_seq rfl T.len PySem.boot_len (pa_cons (pv 0) pa_nil)) pa_nil)) (pg_name (i := 5) sc_handed_on.nd rfl (Or.inl rfl)) (pss_one (ps_while PassesOwn.never (pt_cmpR op_lt (pe_ix ix_list (pv 2) (pv 5) (fun _ _ => rfl)) pe_int (nomark _)) (pss_one (ps_if (pt_cmpR op_le (pe_ix ix_list (pv 2) (pv 4) (fun _ _ => rfl)) pe_int (nomark _)) (pss_one (ps_set (i := 4) sc_handed_on.nd rfl (Or.inl rfl) (pe_op op_add (pv 4) pe_int))) (pss_cons (ps_set (i := 6) sc_handed_on.nd rfl (Or.inl rfl) (pe_callB (call_min2 rfl) rfl T.min boot_min (pa_cons (pe_ix ix_list (pv 2) (pv 4) (fun _ _ => rfl)) (pa_cons (pe_un un_neg (pe_ix ix_list (pv 2) (pv 5) (fun _ _ => rfl))) pa_nil))))
      (pss_cons (ps_expr (pe_bm PySem.F.plainAttrs_list PySem.F.slot_list_append PySem.F.type_list_append mt_append (pv 3) (pa_cons (pe_tup (pa_cons (pe_ix ix_list (pv 0) (pv 4) (fun _ _ => rfl)) (pa_cons (pe_ix ix_list (pv 0) (pv 5) (fun _ _ => rfl)) (pa_cons (pv 6) pa_nil)))) pa_nil)))
      (pss_cons (ps_asg (pe_op op_sub (pe_ix ix_list (pv 2) (pv 4) (fun _ _ => rfl)) (pv 6)) (pg_sub (pv 2) (pv 4) set_list))
      (pss_one (ps_asg (pe_op op_add (pe_ix ix_list (pv 2) (pv 5) (fun _ _ => rfl)) (pv 6)) (pg_sub (pv 2) (pv 5) set_list)))))))))))
      (pss_one (ps_ret (pv 3))))))), ?_⟩
    refine ⟨_, rfl, b, _, rfl, .inl hB, fun l hl0 => ?_⟩
    have s1 : Same H (upd H l (.lst (more.map V.int))) := (Same.refl H).upd_new hl0
    have hl1 : upd H l (.lst (more.map V.int)) l = some (.lst (more.map V.int)) := upd_same
    generalize upd H l (.lst (more.map V.int)) = H1 at s1 hl1 ⊢
    refine ⟨Nat.zero_le _, fun g hg0 => ?_⟩
    have hlg : l ≠ g := ne_of_none hl1 hg0
    have hg00 : H g = none := s1.free hg0
    have s2 : Same H1 (upd H1 g (.lst [])) := (Same.refl H1).upd_new hg0
    have G0 : GSt H (upd H1 g (.lst [])) l g more [] [] := ⟨s1.trans s2, s2 _ _ hl1, upd_same, rfl, fun i p x e1 _ => by simp at e1⟩
    generalize upd H1 g (.lst []) = H2 at s2 G0 ⊢
    have idl : (idxV idx).length = idx.length := by unfold idxV; rw [List.length_map, List.length_map]
    refine ⟨_, rfl, a, _, rfl, .inl ((s1.trans s2).seq hA), _, rfl, (by rw [idl]; omega), (by rw [idl]; omega), ?_⟩
    refine for_range (lo := 0) (n := (((idxV idx).length : Nat) : Int).toNat) (fun t σ H3 => ∃ (gv : Nat) (left : List Int) (ps : List Addr) (gs : List Gv) (here : List Int) (v5 v6 : Option V),
      σ = [some (.ref a), some (.ref b), some (.ref l), some (.ref g), some (.int (gv : Int)), v5, v6] ∧ GSt H H3 l g left ps gs ∧ PwM.Hand one w' idx more t t gv left gs here) ⟨0, more, [], [], one, none, none, rfl, G0, PwM.Hand.start hI⟩ ?_ ?_
    · rintro t σ H3 ht ⟨gv, left, ps, gs, here, v5, v6, rfl, G, x⟩
      rw [idl, Int.toNat_natCast] at ht
      have e0 : (0 : Int) + (t : Int) = (t : Int) := by omega
      rw [e0]
      refine while_at (fun m σ H3 => ∃ (gv : Nat) (left : List Int) (ps : List Addr) (gs : List Gv) (here : List Int) (v6 : Option V),
        σ = [some (.ref a), some (.ref b), some (.ref l), some (.ref g), some (.int (gv : Int)), some (.int (t : Int)), v6] ∧ m = (t - gv) + (PwM.nzc left).toNat ∧ GSt H H3 l g left ps gs ∧ PwM.Hand one w' idx more (t + 1) t gv left gs here)
        ⟨gv, left, ps, gs, here, v6, rfl, rfl, G, x.weak (by omega)⟩ ?_ ?_
      · rintro m σ H3 ⟨gv, left, ps, gs, here, v6, rfl, rfl, G, x⟩
        have htl : t < left.length := by rw [x.llen]; exact ht
        have et : left[t]? = some (left.getD t 0) := getD_of htl
        refine ⟨_, rfl, _, rfl, l, _, _, _, rfl, rfl, SqL.of G.hl, atI_map et, _, _, rfl, rfl, _, rfl, ?_⟩
        refine ite2 (fun hneg => ?_) (fun hneg => ?_)
        · have hneg' := of_decide_eq_true hneg
          obtain ⟨j, hj1, hj2, hj3⟩ := x.giver hI ht hneg'
          have hgl : gv < left.length := by omega
          have eg : left[gv]? = some (left.getD gv 0) := getD_of hgl
          refine ⟨_, rfl, _, rfl, l, _, _, _, rfl, rfl, SqL.of G.hl, atI_map eg, _, _, rfl, rfl, _, rfl, ?_⟩
          refine ite2 (fun hle => ?_) (fun hle => ?_)
          · obtain ⟨q1, q2⟩ := x.step hI ht hneg' (of_decide_eq_true hle)
            refine ⟨_, rfl, _, _, rfl, rfl, _, ?_, gv + 1, left, ps, gs, here, v6, rfl, rfl, G, q2⟩
            omega
          · have hpos : 0 < left.getD gv 0 := Int.not_le.mp fun z => hle (decide_eq_true z)
            refine ⟨_, rfl, _, rfl, l, _, _, _, rfl, rfl, SqL.of G.hl, atI_map eg, _, rfl, _, rfl, l, _, _, _, rfl, rfl, SqL.of G.hl, atI_map et, _, rfl, _, _, rfl, ?_⟩
            have ea : (if -(left.getD t 0) < left.getD gv 0 then -(left.getD t 0) else left.getD gv 0) = min (left.getD gv 0) (-(left.getD t 0)) := by
              by_cases q : -(left.getD t 0) < left.getD gv 0
              · rw [if_pos q]; omega
              · rw [if_neg q]; omega
            rw [ea]
            obtain ⟨q1, q2, q3, q4⟩ := x.give hI ht hneg' hpos rfl
            generalize min (left.getD gv 0) (-(left.getD t 0)) = d at q2 q4 ⊢
            have hA3 : SqL K H3 a (idxV idx) := G.same.seq hA
            refine ⟨_, rfl, .inl ⟨rfl, _, SqL.of G.hg⟩, _, rfl, _, rfl, a, _, _, _, rfl, rfl, hA3, idxV_get (by omega), _, rfl, _, rfl, a, _, _, _, rfl, rfl, hA3, idxV_get ht, _, rfl, (by show 3 ≤ sizeLine; decide), fun p hp => ?_⟩
            have gp : g ≠ p := ne_of_none G.hg hp
            have lp : l ≠ p := ne_of_none G.hl hp
            refine ⟨g, _, _, rfl, rfl, (by rw [upd_ne gp]; exact G.hg), small1000 (by rw [List.length_map, G.len]; omega), ?_⟩
            have hl3 : upd (upd H3 p (.tup [.int ((idx.getD gv 0 : Nat) : Int), .int ((idx.getD t 0 : Nat) : Int), .int d])) g (.lst (ps.map V.ref ++ [.ref p])) l = some (.lst (left.map V.int)) := by rw [upd_ne hlg, upd_ne lp]; exact G.hl
            refine ⟨_, rfl, _, rfl, l, _, _, _, rfl, rfl, SqL.of hl3, atI_map eg, _, rfl, _, _, rfl, rfl, _, rfl, _, rfl, l, _, _, gv, rfl, rfl, hl3, ixN_nat (by rw [List.length_map]; exact hgl), ?_⟩
            have hne : gv ≠ t := by omega
            have et2 : (left.set gv (left.getD gv 0 - d))[t]? = some (left.getD t 0) := by rw [List.getElem?_set_ne hne]; exact et
            rw [← List.map_set]
            refine ⟨_, rfl, _, rfl, l, _, _, _, rfl, rfl, SqL.of upd_same, atI_map et2, _, rfl, _, _, rfl, rfl, _, rfl, _, rfl, l, _, _, t, rfl, rfl, upd_same, ixN_nat (by rw [List.length_map, List.length_set]; exact htl), ?_⟩
            rw [upd_upd, ← List.map_set]
            have nn := PwM.nzc_nonneg (PwM.doneL left gv t d)
            have ed : (left.set gv (left.getD gv 0 - d)).set t (left.getD t 0 + d) = PwM.doneL left gv t d := by unfold PwM.doneL; rw [Int.toNat_natCast, Int.toNat_natCast]
            rw [ed]
            refine ⟨_, ?_, gv, PwM.doneL left gv t d, ps ++ [p], gs ++ [(((idx.getD gv 0 : Nat) : Int), ((idx.getD t 0 : Nat) : Int), d)], _, some (.int d), rfl, rfl, G.give (x := (((idx.getD gv 0 : Nat) : Int), ((idx.getD t 0 : Nat) : Int), d)) hl0 hg00 hlg hp, q4⟩
            omega
        · exact ⟨gv, left, ps, gs, here, _, v6, rfl, G, x.next fun z => hneg (decide_eq_true z)⟩
      · rintro σ H Q Q' hQ ⟨x1, e1, x2, e2, p, xs, i, v, e3, e4, h1, h2, i1, j1, e5, e6, b, e7, h3⟩
        exact ⟨x1, e1, x2, e2, p, xs, i, v, e3, e4, h1, h2, i1, j1, e5, e6, b, e7, hQ _ _ h3⟩
    · rintro σ H3 ⟨gv, left, ps, gs, here, v5, v6, rfl, G, x⟩
      rw [idl, Int.toNat_natCast] at x
      obtain ⟨f1, f2, f3⟩ := PwM.Hand.final hI x
      refine ⟨_, rfl, kq g ps gs here H3 hg00 G.same ⟨G.hg, G.len, G.at_⟩ x.walk f1 f2 ?_⟩
      rw [hI.olen]
      exact f3
end
end K07

set_option Elab.async false
set_option linter.all false
set_option maxRecDepth 100000
/-! An own error class with its own __init__: made, raised, its attribute read. -/
namespace L2
open PySem PySem.Spec PyProof.Rows PySem.W PySem.Calls PySem.Builtin PySem.Builtin.ObjectAttr
def exMro : List Value → Bool
  | .ref _ :: r => exMro r
  | l => l == bmVE
theorem exMro_cons {v : Value} {r : List Value} (e : exMro (v :: r) = true) : (∃ c, v = .ref c ∧ exMro r = true) ∨ v :: r = bmVE := by
  cases v with
  | ref c => exact .inl ⟨c, rfl, by unfold exMro at e; exact e⟩
  | _ => exact .inr (beq_iff_eq.mp e)
theorem exMro_refuse (self : Value) : ∀ {l : List Value}, exMro l = true → refuseLoop self "__setattr__" l = pure ()
  | [], e => by cases e
  | v :: r, e => by
    rcases exMro_cons e with ⟨c, rfl, q⟩ | q
    · rw [refuseLoop_ref]; exact exMro_refuse self q
    · rw [q]; exact PySem.F.store_ValueError.passes self
theorem exMro_has : ∀ {l : List Value}, exMro l = true → l.contains (.type "object") = true
  | [], e => by cases e
  | v :: r, e => by
    rcases exMro_cons e with ⟨c, rfl, q⟩ | q
    · rw [List.contains_cons, exMro_has q, Bool.or_true]
    · rw [q]; decide
def exOver (K : Frag) (C : Addr) : Bool := (clsIn K C).any fun cd => exMro cd.mro && cd.hasDict
section
variable {prog : Program} {w : World} {A : Around} {E : Value → Shared → Prop} {s : Shared} {K : Frag} {C x : Addr} {R : Result → Shared → Prop}
theorem osa_openE {ox : Obj} {od : Option Obj} {name : Str} {tk : Tok} {v : Value} (X : K.In s.heap) (I : InstAt s.heap x ox C od) (hp : exOver K C = true) (ht : findIn K (.ref C) name = some none)
    (h : ∀ b, wpAny (model prog w) A.in1 (storeInOwnDict (.ref x) (.ref C) (.str name tk) name v b)
      (fun (fin : PySem.Fin) s' => match fin with | .done f => R (.ok f) s' | .again c' => c'.quiet = true ∧ codeAny (model prog w) A c' R s') (fun e s' => R (.error e) s') s) :
    codeAny (model prog w) A (.call (.builtin "object.__setattr__") ⟨[.ref x, .str name tk, v], []⟩) R s := by
  have SF := PySem.F.store_object
  obtain ⟨cd, hc, ho'⟩ := any_some hp
  have ho : exMro cd.mro = true := (Bool.and_eq_true_iff.mp ho').1
  have ne : cd.mro.isEmpty = false := by cases q : cd.mro with | nil => rw [q] at ho; cases ho | cons _ _ => rfl
  have sub : Looks (model prog w) s.heap (isInstance (.ref x) (.type "object")) true := I.type.andThen (looks_mroIn X (by unfold mroIn; rw [hc, Option.bind_some, if_neg (by rw [ne]; decide), exMro_has ho]))
  refine codeAny_call_builtin SF.slot.plain SF.entry (@check_slot (model prog w) _ _ s "object.__setattr__" "object" "__setattr__" (.ref x) [.str name tk, v] [] _ SF.kind SF.split sub (SF.args (.ref x) (.str name tk) v) ?_)
  have hm : Looks (model prog w) s.heap (mroOf (.ref C)) cd.mro := (looks_clsIn X hc).andThen .now
  rw [osa_eq, refuse_eq]
  refine wpAny_bind (wpAny_bind (I.type.here (wpAny_bind (hm.here ?_))))
  rw [exMro_refuse _ ho]
  refine wpAny_pure (wpAny_bind (I.type.here (wpAny_bind ((looks_findIn X ht).here (wpAny_bind (wpAny_pure ?_))))))
  exact h _
/-- the first attribute of a new error: its dict is made -/
theorem setattr_exc {ox : Obj} {name : Str} {v : Value} {Q : Unit → Shared → Prop} (X : K.In s.heap) (hx : s.heap.get? x = some ox) (hcl : ox.cls = .ref C) (hdn : ox.dict = none) (hnc : ∀ c, ox.data ≠ .cls c) (hp : exOver K C = true) (ht : findIn K (.ref C) name = some none)
    (hs : findIn K (.ref C) "__setattr__" = some (some (.builtin "object.__setattr__")))
    (h : ∀ (h' : Heap) (tk : Nat), h'.get? x = some { ox with dict := some s.heap.objs.size } → h'.Ns1 s.heap.objs.size (fun y => if y = name then some v else none) → (∀ b o, b ≠ x → s.heap.get? b = some o → h'.get? b = some o) → Q () { s with heap := h', toks := tk }) :
    wpAny (model prog w) A (setAttr (.ref x) name v) Q E s := by
  have hno : notCls ox = true := by
    unfold notCls
    split
    · rename_i c q; exact absurd q (hnc c)
    · rfl
  have I : InstAt s.heap x ox C none := ⟨hx, hcl, hno, by rw [hdn]; trivial⟩
  refine set_plain X I hs (osa_openE (s := { s with toks := s.toks + 1 }) X I hp ht fun b => ?_)
  obtain ⟨cd, hc, ho'⟩ := any_some hp
  have hd' : cd.hasDict = true := (Bool.and_eq_true_iff.mp ho').2
  obtain ⟨oc, odi, oda, osl⟩ := ox
  dsimp only at hcl hdn hnc
  subst hcl hdn
  refine wpAny_bind (wpAny_pure (wpAny_bind (wpAny_bind (wpAny_loadPart hx (wpAny_bind (looks_clsIn X hc _ _ _ _ (fun _ _ e => e) ?_))))))
  rw [hd']
  show wpAny _ _ (match oda with
    | .cls c => pure none
    | _ => do
      let d ← alloc { cls := Value.type "dict", data := Data.dict #[] }
      update x fun o => { cls := o.cls, dict := some d, data := o.data, slots := o.slots }
      dictMade (.ref C) x d) _ _ _
  split
  · exact absurd rfl (hnc _)
  · have hx₁ : (s.heap.push { cls := .type "dict", data := .dict #[] }).get? x = some ⟨.ref C, none, oda, osl⟩ := Heap.get?_push_of_some _ hx
    have hxs : x ≠ s.heap.objs.size := Nat.ne_of_lt (Heap.lt_size hx)
    refine wpAny_bind (wpAny_alloc' ?_)
    refine wpAny_bind (wpAny_update' hx₁ ?_)
    refine wpAny_pure ?_
    have hgd : ((s.heap.push { cls := .type "dict", data := .dict #[] }).update x fun o => { cls := o.cls, dict := some s.heap.objs.size, data := o.data, slots := o.slots }).get? s.heap.objs.size
        = some { cls := .type "dict", data := .dict #[] } :=
      (Heap.get?_update_ne _ _ _ _ hxs.symm).trans (Heap.get?_push_at rfl rfl)
    have hnd : ((s.heap.push { cls := .type "dict", data := .dict #[] }).update x fun o => { cls := o.cls, dict := some s.heap.objs.size, data := o.data, slots := o.slots }).Ns s.heap.objs.size (fun _ => none) :=
      ⟨_, #[], _, hgd, rfl, fun e he => absurd he (by simp), fun _ => rfl⟩
    show wpAny _ _ (storeInDict s.heap.objs.size (.str name _) name v) _ _ _
    unfold storeInDict newKeyGuard
    refine wpAny_bind (wpAny_pure (wpAny_bind (wpAny_nsSet1 (Heap.Ns1.of_empty hnd) fun h' hn' hs => ?_)))
    obtain ⟨oD, esD, epD, hoD, hdD, hcD⟩ := hn'.count (Within.cons name v Within.nil)
    refine wpAny_bind (wpAny_lookBehind hoD (by rw [hdD]; exact pastItsLine_dict (Nat.le_trans hcD (by rw [List.length_cons, List.length_nil, sizeLine_eq]; omega))) ?_)
    refine wpAny_pure ?_
    refine h h' _ ?_ hn' fun b ob hbx hb => ?_
    · refine (hs.2 x hxs).trans (Heap.get?_update_self _ hx₁ ?_)
      have hfr := (Heap.get?_some_iff.mp hx).2
      cases oda <;> first | rfl | exact hfr
    · exact (hs.2 b (Nat.ne_of_lt (Heap.lt_size hb))).trans ((Heap.get?_update_ne _ _ _ _ hbx).trans (Heap.get?_push_of_some _ hb))
end
end L2
namespace L2
open PySem PySem.Spec PyProof.Rows PySem.W PySem.Calls PySem.Builtin PySem.Builtin.ObjectAttr
/-- the words of an __init__ that stores its one argument -/
structure IniTxt where
  name : Str
  qual : Str
  self_ : Str
  arg : Str
  attr : Str
  p1 : Pos
  p2 : Pos
  p3 : Pos
  p4 : Pos
  params : Arguments
  scope : Scope
abbrev IniTxt.body (W : IniTxt) : List Stmt := [.Assign [.Attribute (.Name W.self_ W.p1) W.attr W.p2] (.Name W.arg W.p3) W.p4]
structure IniTxt.Ok (W : IniTxt) : Prop where
  bind : ∀ (kV doc pm : Value) (an : Option Addr) (cdv ct : Value) (us : List Value), us.length = 2 → bindArgs (fnOf W.name W.qual W.params W.body W.scope .none kV doc pm an cdv ct) ⟨us, []⟩ = pure ([W.self_, W.arg].zip us)
  nd : [W.self_, W.arg].Nodup
  kind : W.scope.kind = .function
  co : W.scope.isCoroutine = false
  gen : W.scope.isGenerator = false
  hs : W.scope.names.lookup W.self_ = some .local
  ha : W.scope.names.lookup W.arg = some .local
  ds : (W.self_ == ("__debug__" : Str)) = false
  da : (W.arg == ("__debug__" : Str)) = false
  sw : ∀ (L f : Addr) (cdv : Value), swapsWith (.Name W.arg W.p3) (some (.Attribute (.Name W.self_ W.p1) W.attr W.p2)) W.p4.line (envOfC W.qual W.scope L f cdv) = pure false
/-- the class C stands in K with W as its __init__, at fI -/
structure IniCls (K : Frag) (C fI : Addr) (W : IniTxt) : Prop where
  lk : ∃ (oc : Value) (od : Option Addr) (kV doc pm : Value) (an : Option Addr) (cdv ct : Value) (osl : Array (Option Value)), K.lookup fI = some ⟨oc, od, .func (fnOf W.name W.qual W.params W.body W.scope .none kV doc pm an cdv ct), osl⟩ ∧ codeIn K cdv W.qual = true
  fn : typeIn K (.ref fI) = some (.type "function")
  over : exOver K C = true
  at_ : findIn K (.ref C) W.attr = some none
  sa : findIn K (.ref C) "__setattr__" = some (some (.builtin "object.__setattr__"))
section
variable {prog : Program} {w : World} {A : Around} {E : Value → Shared → Prop} {s : Shared} {K : Frag} {C fI e : Addr} {R : Result → Shared → Prop} {W : IniTxt}
theorem init_call {ox : Obj} {u : Value} (OW : W.Ok) (IC : IniCls K C fI W) (X : K.In s.heap) (hlim : s.heap.NoLimit) (hroom : A.depth < recursionLimit) (he : s.heap.get? e = some ox) (hcl : ox.cls = .ref C) (hdn : ox.dict = none) (hnc : ∀ c, ox.data ≠ .cls c)
    (h : ∀ (h' : Heap) (tk : Nat) (dx : Addr), s.heap.objs.size ≤ dx → h'.get? e = some { ox with dict := some dx } → h'.Ns1 dx (fun y => if y = W.attr then some u else none) → (∀ b o, b ≠ e → s.heap.get? b = some o → h'.get? b = some o) → R (.ok (.ret .none)) { s with heap := h', toks := tk }) :
    codeAny (model prog w) A (.call (.ref fI) ⟨[.ref e, u], []⟩) R s := by
  obtain ⟨oc, od, kV, doc, pm, an, cdv, ct, osl, lk, hcd⟩ := IC.lk
  have hk1 : ([W.self_, W.arg].zip [Value.ref e, u]) = [(W.self_, .ref e), (W.arg, u)] := rfl
  refine Att.call_fn X hlim lk hcd hroom (binds := [W.self_, W.arg].zip [Value.ref e, u]) (.of_eq (OW.bind kV doc pm an cdv ct [.ref e, u] rfl)) (by rw [hk1]; simp [OW.hs, OW.ha]) (fun s₁ x => ?_) OW.co OW.gen OW.kind
  obtain ⟨h1, tk, e1, hk⟩ := x.done
  have hns := x.toInCall.ns
  subst e1
  refine wpAny_execs_cons (plainObj_wpAny_Assign_Attribute ?_ (OW.sw _ _ _))
  refine wpAny_Name (wpAny_loadName_local OW.kind OW.ha hns (bindL_get (P := [W.self_, W.arg]) (vs := [Value.ref e, u]) (i := 1) (v := u) OW.nd rfl rfl OW.ha) ?_) OW.da
  refine wpAny_Name (wpAny_loadName_local OW.kind OW.hs hns (bindL_get (P := [W.self_, W.arg]) (vs := [Value.ref e, u]) (i := 0) (v := .ref e) OW.nd rfl rfl OW.hs) ?_) OW.ds
  refine setattr_exc (C := C) (X.keeps hk) (hk _ _ he) hcl hdn hnc IC.over IC.at_ IC.sa fun h' tk' k1 k2 k3 => ?_
  refine wpAny_execs_nil (h h' tk' _ ?_ k1 k2 fun b o hb ho => k3 b o hb (hk b o ho))
  exact Nat.le_of_lt hns.lt
end
/-- what K knows of an own error class with an __init__ of its own -/
def excInI (K : Frag) (C : Addr) (fI : Addr) (newId : String) : Bool := match K.lookup C with
  | some ⟨.type "type", _, .cls cd, sl⟩ => (match cd.mro, sl.toList with
    | .ref C' :: bm, [_, _, _, _, some (.builtin n), _] => C' == C && n == newId && !cd.hasDel && tailIn K bmVE bm && nsOkIn K cd.ns && nsIn K cd.ns "__init__" == some (some (.ref fI))
    | _, _ => false)
  | _ => false
theorem ns_some_of {K : Frag} {h : Heap} {N : Addr} {mg : Str → Option Value} {n : Str} {v : Value} (X : K.In h) (G : h.Ns N mg) (e : nsIn K N n = some (some v)) : mg n = some v := by
  obtain ⟨o, es, ep, ho, hd, _, hf⟩ := G
  unfold nsIn at e
  split at e
  · rename_i c d es' n' sl q
    have := X _ _ q
    rw [ho] at this
    cases this
    cases hd
    split at e
    · rename_i y he
      rw [← hf]
      unfold nsFind findBy
      rw [← Array.find?_toList, he]
      exact Option.some.inj e
    · split at e <;> cases e
  · cases e
theorem exc_objI {K : Frag} {h : Heap} {C fI : Addr} {nid : String} (kin : K.In h) (chk : excInI K C fI nid = true) :
    ∃ bm N nm qn bs hdct sn sub ab col dd k0 k1 k2 k3 k5 mN, h.get? C = some (excClassObj nm qn C N bs bm hdct sn sub ab col dd k0 k1 k2 k3 k5 nid) ∧ h.Ns N mN ∧ mN "__init__" = some (.ref fI) ∧ OwnTail h bmVE bm := by
  unfold excInI at chk
  split at chk
  · rename_i od cdat slo lk
    split at chk
    · rename_i D tl a0 a1 a2 a3 mk a5 emro eslo
      simp only [Bool.and_eq_true, beq_iff_eq, Bool.not_eq_true'] at chk
      obtain ⟨⟨⟨⟨⟨e1, e2⟩, e3⟩, e4⟩, e5⟩, e6⟩ := chk
      subst e1 e2
      have e7 : slo = #[a0, a1, a2, a3, some (.builtin mk), a5] := Array.toList_inj.mp eslo
      obtain ⟨z1, z2, z3, z4, z5, z6, z7, z8, z9, z10, z11⟩ := cdat
      dsimp only at emro e3 e5 e6
      subst emro e3 e7
      have hN : h.Ns z4 (h.nsMap z4) := .of_isNs (isNs_of_in kin e5)
      exact ⟨tl, z4, z1, z5, z2, z6, z7, z8, z9, z10, od, a0, a1, a2, a3, a5, _, kin _ _ lk, hN, ns_some_of kin hN e6, tail_of_in kin e4⟩
    · cases chk
  · cases chk
section
variable {prog : Program} {w : World} {A : Around} {E : Value → Shared → Prop} {h : Heap} {g : Array GenState} {d : Drawn} {t : Nat} {os : OsState} {K : Frag} {W : IniTxt}
variable {nm q : Str} {C N fI : Addr} {bs bm : List Value} {hdct : Bool} {sn : List Str} {sub : List Value} {ab : Bool} {col : Option Bool} {dd : Option Addr} {k0 k1 k2 k3 k5 : Option Value}
theorem type_call_excI (OW : W.Ok) (IC : IniCls K C fI W) (X : K.In h) (hlim : h.NoLimit) (hroom : A.depth < recursionLimit) (T : OwnTail h bmVE bm) {mN : Str → Option Value} {u : Value} {Q : PySem.Fin → Shared → Prop}
    (hC : h.get? C = some (excClassObj nm q C N bs bm hdct sn sub ab col dd k0 k1 k2 k3 k5 "ValueError.__new__")) (hn : h.Ns N mN) (hni : mN "__init__" = some (.ref fI))
    (hq : ∀ (h' : Heap) (tk : Nat) (e t' dx : Addr), h.objs.size ≤ e → h.objs.size ≤ dx → e ≠ dx → h'.get? e = some { cls := .ref C, dict := some dx, data := .fields #[.ref t', .none, .none, .none, .bool false, .none] } →
      h'.Ns1 dx (fun y => if y = W.attr then some u else none) → (∀ b o, h.get? b = some o → h'.get? b = some o) → Q (.done (.ret (.ref e))) ⟨h', g, d, tk, os⟩) :
    wpAny (model prog w) A (Builtin.«type.__call__» ⟨.ref C :: [u], []⟩) Q E ⟨h, g, d, t, os⟩ := by
  have F := PySem.F.excBase_ValueError
  repeat (first | with_reducible refine wpAny_loadPart_at hC ?_ | with_reducible refine wpAny_madeBy_exc hC ?_ | wp_step)
  refine codeAny_call_builtin_code (Code.quiet_builtin _ F.quiet) (wpAny_check_new_subT F T hC ?_)
  refine codeAny_exc_new_subT F T hC ?_ (by show 1 ≤ sizeLine; decide)
  show wpAny _ _ _ _ _ _
  have hC₁ := Heap.get?_push_of_some { cls := .ref C, data := .fields #[.ref h.objs.size, .none, .none, .none, .bool false, .none] }
    (Heap.get?_push_of_some { cls := .type "tuple", data := .seq [u].toArray } hC)
  have kp : ∀ b o, h.get? b = some o → ((h.push { cls := .type "tuple", data := .seq [u].toArray }).push { cls := .ref C, data := .fields #[.ref h.objs.size, .none, .none, .none, .bool false, .none] }).get? b = some o :=
    fun b o e => Heap.get?_push_of_some _ (Heap.get?_push_of_some _ e)
  have hn₁ := hn.keeps kp
  have hget : ((h.push { cls := .type "tuple", data := .seq [u].toArray }).push
      { cls := .ref C, data := .fields #[.ref h.objs.size, .none, .none, .none, .bool false, .none] }).get? (h.objs.size + 1) = some
      { cls := .ref C, data := .fields #[.ref h.objs.size, .none, .none, .none, .bool false, .none] } := by heap_get
  have hcC : (Value.ref C :: bm).contains (.ref C) = true := by simp
  have T₁ := T.keeps kp
  unfold isInstance
  repeat (first | with_reducible refine wpAny_loadPart_at hget ?_ | (with_reducible refine wpAny_isSubtype_exc hC₁ ?_; rw [hcC]) | wp_step)
  show wpAny _ _ (typeLookup (.ref C) _) _ _ _
  refine wpAny_typeLookup_tail hC₁ hn₁ T₁ F.mroIs F.init.lookup ?_
  rw [hni]
  refine wpAny_holding (wpAny_bind (bind_fn (X.keeps kp) _ IC.fn _ _ _ _ (fun _ _ e => e) ?_))
  refine wpAny_bind (wpAny_call (init_call OW IC (X.keeps kp) (hlim.keeps kp) hroom hget rfl rfl (fun c z => nomatch z) fun h' tk dx hdx k1 k2 k3 => ?_))
  have sz : ((h.push { cls := .type "tuple", data := .seq [u].toArray }).push { cls := .ref C, data := .fields #[.ref h.objs.size, .none, .none, .none, .bool false, .none] }).objs.size = h.objs.size + 2 := by rw [Heap.size_push, Heap.size_push]
  have hdx' : h.objs.size + 2 ≤ dx := by rw [← sz]; exact hdx
  refine wpAny_pure ?_
  refine wpAny_pure (hq h' tk (h.objs.size + 1) h.objs.size dx (Nat.le_succ _) (Nat.le_trans (Nat.le_add_right _ 2) hdx') (Nat.ne_of_lt (Nat.lt_of_lt_of_le (Nat.lt_succ_self _) hdx')) k1 k2 fun b o e => k3 b o (Nat.ne_of_lt (Nat.lt_succ_of_lt (Heap.lt_size e))) (kp b o e))
theorem call_excI (OW : W.Ok) (IC : IniCls K C fI W) (X : K.In h) (hlim : h.NoLimit) {j : Nat} (hroom : Room (j + 1) A) (T : OwnTail h bmVE bm) {mN : Str → Option Value} {u : Value} {Q : Value → Shared → Prop}
    (hC : h.get? C = some (excClassObj nm q C N bs bm hdct sn sub ab col dd k0 k1 k2 k3 k5 "ValueError.__new__")) (hn : h.Ns N mN) (hni : mN "__init__" = some (.ref fI))
    (hq : ∀ (h' : Heap) (tk : Nat) (e t' dx : Addr), h.objs.size ≤ e → h.objs.size ≤ dx → e ≠ dx → h'.get? e = some { cls := .ref C, dict := some dx, data := .fields #[.ref t', .none, .none, .none, .bool false, .none] } →
      h'.Ns1 dx (fun y => if y = W.attr then some u else none) → (∀ b o, h.get? b = some o → h'.get? b = some o) → Q (.ref e) ⟨h', g, d, tk, os⟩) :
    wpAny (model prog w) A (call (.ref C) [u]) Q E ⟨h, g, d, t, os⟩ := by
  have f1 := tc_lookup
  have f2 := tc_bind (.ref C)
  have hT : (⟨h, g, d, t, os⟩ : Shared).TypeIs (.ref C) "type" := ⟨_, hC, rfl⟩
  refine wpAny_call (codeAny_of_tree ?_)
  show wpAny _ _ (callAny (.ref C) _) _ _ _
  repeat (any_goals (first | assumption | with_reducible refine wpAny_loadPart_at hC ?_ | wp_step))
  refine ⟨rfl, ?_⟩
  refine codeAny_call_builtin_at (Code.quiet_builtin _ (by decide +kernel)) entry_typeCall (wpAny_check_type_call_sub hC (type_call_excI OW IC X hlim ?_ T hC hn hni fun h' tk e t' dx z1 z2 z3 z4 z5 z6 => ?_))
  · exact (hroom.make C [u] []).depth
  · exact hq h' tk e t' dx z1 z2 z3 z4 z5 z6
end
end L2
namespace L2
open PySem PySem.Spec PyProof.Rows PySem.W PySem.Calls
section
variable {M : Model} {A : Around} {E : Value → Shared → Prop} {env : Env}
variable {nm q : Str} {C N : Addr} {bs bm : List Value} {hdct : Bool} {sn : List Str} {sub : List Value} {ab : Bool} {col : Option Bool} {dd : Option Addr} {k0 k1 k2 k3 k5 : Option Value} {newId : String}
theorem raiseStmt_madeI {s : Shared} {x : Sem Value} {Q : Flow → Shared → Prop} (hbase : bm.contains (.type "BaseException") = true) (hh : A.handled = none)
    (h : wpAny M A x (fun v s₁ => ∃ e t dx, v = .ref e ∧ s₁.heap.get? C = some (excClassObj nm q C N bs bm hdct sn sub ab col dd k0 k1 k2 k3 k5 newId) ∧
      s₁.heap.get? e = some { cls := .ref C, dict := some dx, data := .fields #[.ref t, .none, .none, .none, .bool false, .none] } ∧ E (.ref e) s₁) E s) :
    wpAny M A (raiseStmt env (some x) none) Q E s := by
  have hcB : (Value.ref C :: bm).contains (.type "BaseException") = true := by rw [List.contains_cons, hbase, Bool.or_true]
  unfold raiseStmt
  refine wpAny_bind (wpAny_mono h (fun v s₁ h₁ => ?_) fun _ _ x => x)
  obtain ⟨e, t, dx, rfl, hC, he, hE⟩ := h₁
  obtain ⟨hp, g, d, tk, os⟩ := s₁
  repeat (first | with_reducible refine wpAny_loadPart_at he ?_ | with_reducible refine wpAny_loadPart_at hC ?_ | (with_reducible refine wpAny_isSubtype_exc hC ?_; rw [hcB]) | wp_step)
  exact wpAny_raiseNew_none hh hE
end
def RaisesI (X : Cx) (E : XK) (attr : Str) : Prop := ∀ (pins : List (Addr × Obj)) (σ : St) (H : Hp) (s : Shared) (h' : Heap) (tk : Nat) (e C t' dx : Addr) (v : V) (u : Value), Inv X pins σ H s → s.heap.objs.size ≤ e → s.heap.objs.size ≤ dx → e ≠ dx →
  h'.get? e = some { cls := .ref C, dict := some dx, data := .fields #[.ref t', .none, .none, .none, .bool false, .none] } → h'.Ns1 dx (fun y => if y = attr then some u else none) → (∀ b o, s.heap.get? b = some o → h'.get? b = some o) → RelV v u →
  E (.ref C) (some dx) (upd H dx (.xd [(attr, v)])) → X.xe (.ref e) { s with heap := h', toks := tk }
theorem relO_one {attr f : Str} {v : V} {u : Value} (r : RelV v u) : RelO (([(attr, v)] : List (Str × V)).lookup f) (if f = attr then some u else none) := by
  by_cases q : f = attr
  · subst q
    rw [if_pos rfl]
    simp [List.lookup, RelO, r]
  · rw [if_neg q]
    have : (f == attr) = false := by simpa using q
    simp [List.lookup, this, RelO]
theorem raisesIX {P : Program} {w : World} {K : PySem.W.Frag} {mg : Str → Option Value} {base : Heap} {N : List Str} {qual : Str} {scope : Scope} {f : Addr} {cd : Value} {A : Around} {outer : List Env} {s₀ : Shared} {H₀ : Hp} {E : XK} {attr : Str} :
    RaisesI (cxOf (CX1 P w) P w K mg base N qual scope f cd A outer s₀ H₀ E) E attr := fun pins σ H s h' tk e C t' dx v u I z1 z2 z3 z4 z5 z6 rv q => by
  have I' := I.laid (a := dx) (o := .xd [(attr, v)]) (h' := h') (t' := tk) z6 z2 (show ObjOk P w _ h' dx (.xd [(attr, v)]) from ⟨_, z5, fun f => relO_one rv⟩)
  have n0 : s₀.heap.get? e = none := Heap.get?_none_of_le (Nat.le_trans I.sz z1)
  refine fly_first I' z4 rfl n0 ?_ q
  rw [upd_ne z3]
  exact I.hok.fresh z1
def tRaiseI (C : Addr) (attr : Str) (E : XK) (t : TA) : TS := fun _ σ H => t σ H fun vs H1 => ∃ v, vs = [v] ∧ ∀ dx, H1 dx = none → E (.ref C) (some dx) (upd H1 dx (.xd [(attr, v)]))
theorem ps_raiseI {X : Cx} {E : XK} {C fI : Addr} {W : IniTxt} {x : Str} {np cpos pos : Pos} {e : Expr} {t : TA} {j : Nat} (hX : RaisesI X E W.attr) (hc : X.calm = true) (OW : W.Ok) (IC : IniCls X.K C fI W) (c : excInI X.K C fI "ValueError.__new__" = true) (hr : Room (j + 1) X.A)
    (hg : Gl X x) (hm : X.mg x = some (.ref C)) (ha : PA X [e] t)
    (hd : (x == ("__debug__" : Str)) = false := by decide) (he : starEach [e] X.env = (false, eval e X.env) :: starEach [] X.env := by rfl) (hpl : (backTo cpos (starEach [e] X.env)).any (·.1) = false := by rfl) :
    PS X (.Raise (some (.Call (.Name x np) [e] [] cpos)) none pos) (tRaiseI C W.attr E t) := by
  intro pins s σ H D I h
  obtain ⟨tl, NN, nm, q, bs, hdct, sn, sub, ab, col, dd, k0, k1, k2, k3, k5, mN, hC, hN, hni, T⟩ := exc_objI I.mod.kin c
  rw [arm_exec_Raise]
  refine wpAny_bind (wpAny_standAt (raiseStmt_madeI (C := C) (nm := nm) (q := q) (N := NN) (bs := bs) (bm := tl) (hdct := hdct) (sn := sn) (sub := sub) (ab := ab) (col := col) (dd := dd) (k0 := k0) (k1 := k1) (k2 := k2) (k3 := k3) (k5 := k5) (newId := "ValueError.__new__") (T.hasType PySem.F.excBase_ValueError.hasBase) (I.ok.hd hc)
    (wpAny_bind (wpAny_mono (wpAny_Call_ofName (ld_glob I hg hm ?_ hd)) (fun v s₃ h₃ => wpAny_bind (wpAny_standAt (wpAny_pure h₃))) fun _ _ x => x))))
  have key := ha cpos pins s σ H _ I h
  have args : wpAny (model X.prog X.w) X.A (evalArgs (.ref C) true (backTo cpos (starEach [e] X.env)) []) (fun a s₂ => a.kw = [] ∧ ∃ (u : Value) (v : V) (H1 : Hp), a.pos = [u] ∧ RelV v u ∧ Inv X pins σ H1 s₂ ∧ ∀ dx, H1 dx = none → E (.ref C) (some dx) (upd H1 dx (.xd [(W.attr, v)]))) X.xe s := by
    rw [he] at key ⊢
    refine Calls.evalArgs_plain (thn key fun us s1 ⟨vs, H1, I1, r, v, ev, q⟩ => ⟨rfl, ?_⟩)
    subst ev
    obtain ⟨u, rfl, rv⟩ := vals1 r
    exact ⟨u, v, H1, rfl, rv, I1, q⟩
  unfold callWith
  refine wpAny_bind (wpAny_holding (wpAny_mono args (fun a s₂ h₂ => wpAny_bind (wpAny_standAt ?_)) fun _ _ x => x))
  obtain ⟨apos, akw⟩ := a
  obtain ⟨hkw, u, v, H1, hpos, rv, I1, q1⟩ := h₂
  obtain rfl : akw = [] := hkw
  obtain rfl : apos = [u] := hpos
  obtain ⟨hp, g, d, tk, os⟩ := s₂
  simp only [hpl]
  have hC1 := I1.bk _ _ hC
  refine wpAny_bind (wpAny_keeperOf_exc hC1 ?_)
  refine wpAny_bind (call_excI OW IC I1.kIn I1.nolimit hr (T.keeps I1.bk) hC1 (hN.keeps I1.bk) hni fun h' tk2 e2 t2 dx z1 z2 z3 z4 z5 z6 => wpAny_bind (wpAny_holding (wpAny_point (wpAny_pure ?_))))
  exact ⟨e2, t2, dx, rfl, z6 _ _ hC1, z4, hX pins σ H1 ⟨hp, g, d, tk, os⟩ h' tk2 e2 C t2 dx v u I1 z1 z2 z3 z4 z5 z6 rv (q1 dx (I1.hok.fresh z2))⟩
end L2
namespace L2
open PySem PySem.Spec PyProof.Rows PySem.W PySem.Calls
/-- e.f of an error that was taken -/
def tXat (K : Frag) (ta : TE) (f : Str) : TE := fun σ H Q => ta σ H fun x H1 => ∃ (e C dx : Addr) (fs : List (Str × V)) (v : V), x = .ref e ∧ H1 e = some (excO e C (some dx)) ∧ H1 dx = some (.xd fs) ∧ ExK K C ∧ hasDictIn K C = true ∧ findIn K (.ref C) f = some none ∧ fs.lookup f = some v ∧ Q v H1
theorem pe_excAt {X : Cx} {K : Frag} {o : Expr} {f : Str} {pos : Pos} {ta : TE} (hK : X.K = K) (he : PE X o ta) (hb : attributeBase o f X.env (eval o X.env) = eval o X.env) : PE X (.Attribute o f pos) (tXat K ta f) := by
  subst hK
  intro pins s σ H Q I h
  refine attr_of hb (thn (he pins s σ H _ I h) fun u s1 ⟨x, H1, I1, rx, e, C, dx, fs, v, ex, ee, ed, k, hh, hf, hl, q⟩ => ?_)
  subst ex
  obtain rfl : u = Value.ref e := rx
  obtain ⟨⟨vs, hv⟩, _, _⟩ := (show ObjOk X.prog X.w H1 s1.heap e (excO e C (some dx)) from I1.hok e _ ee)
  obtain ⟨mA, hns, hr⟩ := (show ObjOk X.prog X.w H1 s1.heap dx (.xd fs) from I1.hok dx _ ed)
  obtain ⟨u2, hu2, ru2⟩ := RelO.some_of (v := v) (o := mA f) (by rw [← hl]; exact hr f)
  obtain ⟨od, hod, hlk0⟩ := lookIn_ns hns
  have hlk : lookIn f od = some (some u2) := by rw [hlk0, hu2]
  have IA : InstAt s1.heap e { cls := .ref C, dict := some dx, data := .fields vs } C (some od) := ⟨hv, rfl, rfl, hod⟩
  obtain ⟨hp, g, d, tk, os⟩ := s1
  unfold getAttr
  refine wpAny_bind (wpAny_mkText ?_)
  refine exc_by I1.kIn IA k (wpAny_call (exc_ga I1.kIn IA k (exc_entry_value I1.kIn IA (findObj_own hh hf rfl hlk) ?_)))
  exact ⟨handed_of ru2, v, H1, I1.tok _, ru2, q⟩
/-- isinstance of an error that was taken, its own dict or none -/
theorem call_isinstXD {X : Cx} {K : Frag} (hK : X.K = K) : CallR X (.builtin "isinstance") (fun xs H Q => ∃ (e C dx : Addr) (fs : List (Str × V)) (c : V) (cv : Value) (b : Bool), xs = [.ref e, c] ∧ RelV c cv ∧ (∀ u, RelV c u → u = cv) ∧ H e = some (excO e C (some dx)) ∧ H dx = some (.xd fs) ∧ ExK K C ∧ PySem.W.kitOne K (.ref C) cv = some b ∧ Q (.bl b) H) := by
  subst hK
  intro pins s σ H xs us Q I r h
  obtain ⟨e, C, dx, fs, c, cv, b, rfl, rc, huq, he, ed, k, hk, q⟩ := h
  obtain ⟨u, v, rfl, rx, rv⟩ := vals2 r
  obtain rfl := huq v rv
  cases rx
  obtain ⟨⟨vs, hv⟩, _, _⟩ := (show ObjOk X.prog X.w H s.heap e (excO e C (some dx)) from I.hok e _ he)
  obtain ⟨mA, ⟨od, es, ep, hod, _⟩, hr⟩ := (show ObjOk X.prog X.w H s.heap dx (.xd fs) from I.hok dx _ ed)
  have IA : InstAt s.heap e { cls := .ref C, dict := some dx, data := .fields vs } C (some od) := ⟨hv, rfl, rfl, hod⟩
  exact PySem.W.kia_one (exc_kit k) I.kIn ⟨_, _, IA⟩ hk (fun z => nomatch z) fun tk => ⟨.bl b, H, I.tok tk, rfl, q⟩
end L2

set_option Elab.async false
set_option linter.all false
set_option maxRecDepth 100000
set_option maxHeartbeats 4000000
namespace K07
open PySem L2 PyProof.Rows
open Builtin.Int (intBits)
section
variable {P : Program} {w : World} {K : PySem.W.Frag} {mg : Str → Option Value} {base : Heap}
/-! ### the error Gap; way -/
abbrev s_init : Stmt := inClass (top 4) 0
def iniOf (st : Stmt) : IniTxt := match defBody st with
  | [.Assign [.Attribute (.Name x p1) a p2] (.Name y p3) p4] => ⟨"__init__", "Gap.__init__", x, y, a, p1, p2, p3, p4, defArgs st, defScope st⟩
  | _ => ⟨"", "", "", "", "", ⟨0, 0, 0, 0⟩, ⟨0, 0, 0, 0⟩, ⟨0, 0, 0, 0⟩, ⟨0, 0, 0, 0⟩, defArgs st, defScope st⟩
theorem ini_ok : (iniOf s_init).Ok := ⟨fun _ _ _ _ _ _ us hl => match us, hl with | [_, _], _ => rfl, by decide +kernel, rfl, rfl, rfl, rfl, rfl, by decide +kernel, by decide +kernel, fun _ _ _ => rfl⟩
structure ErrsG (K : PySem.W.Frag) (mg : Str → Option Value) (cG cU cN cT cP fI : Addr) : Prop where
  rU : ErX K mg "Unlike" cU
  rG : Er K mg "Gap" cG
  rN : Er K mg "NoGift" cN
  rT : Er K mg "NoText" cT
  rP : Er K mg "PurseError" cP
  kx : ExK K cG
  xN : PySem.W.exmOne K (.ref cG) (.ref cN) = some false
  xU : PySem.W.exmOne K (.ref cG) (.ref cU) = some false
  xT : PySem.W.exmOne K (.ref cG) (.ref cT) = some false
  xG : PySem.W.exmOne K (.ref cG) (.ref cG) = some true
  xP : PySem.W.exmOne K (.ref cG) (.ref cP) = some true
  kv : PySem.W.kitOne K (.ref cG) (.type "ValueError") = some true
  ve : mg "ValueError" = none
  ci : excInI K cG fI "ValueError.__new__" = true
  ic : IniCls K cG fI (iniOf s_init)
  hd : PySem.W.hasDictIn K cG = true
theorem errsG_mk {K : PySem.W.Frag} {h : Heap} {mg : Str → Option Value} {cG cU cN cT cP fI : Addr} {oc : Value} {od an : Option Addr} {osl : Array (Option Value)} {kV doc pm cdv ct : Value} (X : K.In h) (G : h.Ns mainGlobals mg)
    (aG : PySem.W.nsIn K mainGlobals "Gap" = some (some (.ref cG))) (aU : PySem.W.nsIn K mainGlobals "Unlike" = some (some (.ref cU))) (aN : PySem.W.nsIn K mainGlobals "NoGift" = some (some (.ref cN))) (aT : PySem.W.nsIn K mainGlobals "NoText" = some (some (.ref cT))) (aP : PySem.W.nsIn K mainGlobals "PurseError" = some (some (.ref cP)))
    (aV : PySem.W.nsIn K mainGlobals "ValueError" = some none) (ii : PySem.W.findIn K (.ref cG) "__init__" = some (some (.ref fI)))
    (l : K.lookup fI = some ⟨oc, od, .func (PySem.W.fnOf "__init__" "Gap.__init__" (defArgs s_init) (defBody s_init) (defScope s_init) .none kV doc pm an cdv ct), osl⟩) (cd' : PySem.W.codeIn K cdv "Gap.__init__" = true)
    (b0 : PySem.W.excIn K cU bmVE "ValueError.__new__" = true) (b1 : PySem.W.findIn K (.ref cG) "__getattribute__" = some (some (.builtin "BaseException.__getattribute__"))) (b2 : PySem.W.findIn K (.ref cG) "__getattr__" = some none) (b3 : PySem.W.findIn K (.ref cG) "__class__" = some (some (.builtin "object.__class__")))
    (b4 : PySem.W.specialIn K (.builtin "object.__class__") "__get__" = some (some (.builtin "getset_descriptor.__get__"))) (b5 : PySem.W.takesIn K (.builtin "object.__class__") = some true) (b6 : PySem.W.mroIn K cG (.type "object") = some true) (b7 : PySem.W.mroIn K cG (.type "BaseException") = some true) {cd : ClassData} (b8 : PySem.W.clsIn K cG = some cd)
    (sa : PySem.W.findIn K (.ref cG) "__setattr__" = some (some (.builtin "object.__setattr__"))) (at_ : PySem.W.findIn K (.ref cG) "at" = some none) (fn : PySem.W.typeIn K (.ref fI) = some (.type "function"))
    (m1 : PySem.W.exmOne K (.ref cG) (.ref cN) = some false) (m2 : PySem.W.exmOne K (.ref cG) (.ref cU) = some false) (m3 : PySem.W.exmOne K (.ref cG) (.ref cT) = some false) (m4 : PySem.W.exmOne K (.ref cG) (.ref cG) = some true) (m5 : PySem.W.exmOne K (.ref cG) (.ref cP) = some true)
    (n1 : PySem.W.kitOne K (.ref cG) (.type "ValueError") = some true) (ov : exOver K cG = true) (hd : PySem.W.hasDictIn K cG = true) (ci : excInI K cG fI "ValueError.__new__" = true) : ∃ cG cU cN cT cP fI, ErrsG K mg cG cU cN cT cP fI :=
  ⟨cG, cU, cN, cT, cP, fI, ⟨⟨PySem.W.mg_of X G aU⟩, ⟨b0⟩⟩, ⟨PySem.W.mg_of X G aG⟩, ⟨PySem.W.mg_of X G aN⟩, ⟨PySem.W.mg_of X G aT⟩, ⟨PySem.W.mg_of X G aP⟩, ⟨b1, b2, b3, b4, b5, b6, b7, by rw [b8]; rfl⟩, m1, m2, m3, m4, m5, n1, PySem.W.ns_none_of X G aV, ci,
    ⟨⟨oc, od, kV, doc, pm, an, cdv, ct, osl, l, cd'⟩, fn, ov, at_, sa⟩, hd⟩
def spWay7 (K : PySem.W.Frag) (cG : Addr) (T : LamAt) : Sp := fun vs H Q E => ∃ (a b : Addr) (ns ms : List Int) (o : Option Nat), vs = [.ref a, .ref b] ∧ SqL K H a (ns.map V.int) ∧ SqL K H b (ms.map V.int) ∧ ns.length < 64 ∧ PwM.Like ns ms ∧ PwM.IsGap ns ms o ∧ Tab T H ∧
  (o = none → ∀ (l : Addr) (ps : List Addr) (gs : List Gv) (here : List Int) (H' : Hp), H l = none → SameT H H' → Tab T H' → GiftsH H' l ps gs → PwM.walkR ns gs = some here → here.Perm ms → PwM.amounts gs = (PwM.dueL ns ms).sum →
    (gs.length : Int) ≤ max ((ns.length : Int) - 1) 0 → Q (.ref l) H') ∧
  (∀ k, o = some k → ∀ (dx : Addr) (H' : Hp), H dx = none → Same H H' → H' dx = some (.xd [("at", .int (k : Nat))]) → E (.ref cG) (some dx) H')
theorem sc_way : FnScope ["one", "other", "at"] ["one", "other"] (defScope s_way) := ⟨rfl, rfl, rfl, by decide +kernel, rfl, by decide +kernel, by decide +kernel⟩
theorem ok_way {cG cU cN cT cP fI : Addr} {L : LamAt} (D : DefIn K mg "way" s_way) (T : Blt mg) (ER : ErrsG K mg cG cU cN cT cP fI) (C_gap : Callee P w K mg base (CX1 P w) 2 "gap" ["one", "other"] (spGap K cU)) (C_held_more : Callee P w K mg base CX0 1 "held_more" ["one", "other"] (spMore K))
    (C_fullest_first : Callee P w K mg base CX0 3 "fullest_first" ["row"] (spFull K L)) (C_handed_on : Callee P w K mg base CX0 1 "handed_on" ["places", "more"] (spHand K)) : Callee P w K mg base (CX1 P w) 4 "way" ["one", "other"] (spWay7 K cG L) := by
  refine callee_mkX D sc_way (fun _ _ _ _ _ _ us hl => match us, hl with | [_, _], _ => rfl) (fun vs H Q E h => ?_) (fun f cdv A outer s H vs Q E hr h => ?_)
  · obtain ⟨a, b, ns, ms, o, rfl, _⟩ := h
    rfl
  · obtain ⟨a, b, ns, ms, o, rfl, h1, h2, l1, lk, hg, hT, kq, ke⟩ := h
    have l2 : ms.length < 64 := by rw [← lk.1]; exact l1
    refine ⟨_, (pss_cons (ps_set (i := 2) sc_way.nd rfl (Or.inl rfl) (pe_callC C_gap hr (by decide) rfl passX (pa_cons (pv 0) (pa_cons (pv 1) pa_nil))))
      (pss_cons (ps_if (pt_cmpR op_notN (pv 2) pe_non (nomark _)) (pss_one (ps_raiseI (W := iniOf s_init) raisesIX rfl ini_ok ER.ic ER.ci hr rfl ER.rG.mg (pa_cons (pv 2) pa_nil))) pss_nil)
      (pss_one (ps_ret (pe_callC C_handed_on hr (by decide) rfl pass0 (pa_cons (pe_callC C_fullest_first hr (by decide) rfl pass0 (pa_cons (pv 0) pa_nil)) (pa_cons (pe_callC C_held_more hr (by decide) rfl pass0 (pa_cons (pv 0) (pa_cons (pv 1) pa_nil))) pa_nil))))))), ?_⟩
    refine ⟨_, rfl, _, rfl, a, b, ns, ms, rfl, h1, h2, l1, l2, fun _ o2 H1 ho s1 => ?_, fun z => absurd lk z⟩
    obtain rfl := hg.uniq ho
    cases o with
    | some k =>
      refine ⟨_, rfl, rfl, _, rfl, ?_⟩
      rw [decide_eq_false (show ¬ optV (some k) = V.non from fun z => nomatch z)]
      exact iteT ⟨_, rfl, _, rfl, fun dx hdx => ke k rfl dx _ (s1.free hdx) (s1.upd_new (s1.free hdx)) upd_same⟩
    | none =>
      refine ⟨_, rfl, rfl, _, rfl, iteNS rfl ?_⟩
      refine ⟨_, rfl, a, ns, rfl, s1.seq h1, l1, hT.same s1, fun f idx H2 hf0 s2 t2 hf2 hp ho2 => ?_⟩
      have s02 := s1.T.trans s2
      refine ⟨_, rfl, _, rfl, a, b, ns, ms, rfl, s02.seq h1, s02.seq h2, l1, lk.1, fun m H3 hm0 s3 hm3 => ?_⟩
      have s03 := s02.trans s3.T
      have hlen : idx.length = ns.length := by simpa using hp.length_eq
      refine ⟨f, m, idx, ns, PwM.desc ms, PwM.moreL ns ms, rfl, SqL.of (s3 _ _ hf2), SqL.of hm3, by omega, PwM.handIn_of lk hg hp ho2, fun l ps gs here H4 hl0 s4 hG hw hpm ha hc => ?_⟩
      exact kq rfl l ps gs here H4 (s03.free hl0) (s03.trans s4.T) ((t2.same s3).same s4) hG hw (hpm.trans (PwM.desc_perm ms)) (ha.trans (PwM.posSum_due ns ms)) hc
end
end K07

set_option Elab.async false
set_option linter.all false
set_option maxRecDepth 100000
set_option maxHeartbeats 4000000
namespace K07
open PySem L2 PyProof.Rows
open Builtin.Int (intBits)
section
variable {P : Program} {w : World} {K : PySem.W.Frag} {mg : Str → Option Value} {base : Heap}
/-! ### the law's helpers -/
def spCell (K : PySem.W.Frag) : Sp := fun vs H Q _ => ∃ (a : Addr) (ns : List Int) (k : Nat), vs = [.ref a, .int k] ∧ SqL K H a (ns.map V.int) ∧ Q (.int (ns.getD k 0)) H
theorem sc__law_cell_at : FnScope ["_law_script", "_law_k"] ["_law_script", "_law_k"] (defScope s__law_cell_at) := ⟨rfl, rfl, rfl, by decide +kernel, rfl, by decide +kernel, by decide +kernel⟩
theorem ok_cell (D : DefIn K mg "_law_cell_at" s__law_cell_at) (T : Blt mg) : Callee P w K mg base CX0 1 "_law_cell_at" ["_law_script", "_law_k"] (spCell K) := by
  refine callee_mk D sc__law_cell_at (fun _ _ _ _ _ _ us hl => match us, hl with | [_, _], _ => rfl) (fun vs H Q E h => ?_) (fun f cdv A outer s H vs Q E hr h => ?_)
  · obtain ⟨a, ns, k, rfl, _⟩ := h
    rfl
  · obtain ⟨a, ns, k, rfl, hS, kq⟩ := h
    refine ⟨_, (pss_cons (ps_if (pt_cmpR op_lt (pv 1) (pe_callB call_len_seq rfl T.len PySem.boot_len (pa_cons (pv 0) pa_nil)) (nomark _)) (pss_one (ps_ret (pe_ix ix_list (pv 0) (pv 1) (fun _ _ => rfl)))) pss_nil)
      (pss_one (ps_ret pe_int))), ?_⟩
    refine ⟨_, rfl, _, rfl, a, _, rfl, .inl hS, _, _, rfl, rfl, _, rfl, ?_⟩
    refine ite2 (fun h => ?_) (fun h => ?_)
    · have h' : k < ns.length := by
        have h0 := of_decide_eq_true h
        rw [List.length_map] at h0
        omega
      exact ⟨_, rfl, _, rfl, a, _, _, _, rfl, rfl, hS, atI_map (getD_of h'), kq⟩
    · have h' : ¬ k < ns.length := fun z => h (decide_eq_true (by rw [List.length_map]; omega))
      have e : ns.getD k 0 = 0 := by simp [List.getD, List.getElem?_eq_none (by omega : ns.length ≤ k)]
      rw [e] at kq
      exact kq
/-- a script: at most 63 ints, of at most 2 ^ 20 bits -/
structure Scr (K : PySem.W.Frag) (H : Hp) (a : Addr) (ns : List Int) : Prop where
  sq : SqL K H a (ns.map V.int)
  len : ns.length ≤ 63
  bits : ∀ n ∈ ns, intBits n ≤ 1048576
theorem Scr.same {H H' : Hp} {a : Addr} {ns : List Int} (h : Scr K H a ns) (s : Same H H') : Scr K H' a ns := ⟨s.seq h.sq, h.len, h.bits⟩
theorem Scr.getD {H : Hp} {a : Addr} {ns : List Int} (h : Scr K H a ns) (k : Nat) : intBits (ns.getD k 0) ≤ 1048576 := by
  by_cases hk : k < ns.length
  · exact h.bits _ (mem_getD hk)
  · have e : ns.getD k 0 = 0 := by simp [List.getD, List.getElem?_eq_none (by omega : ns.length ≤ k)]
    rw [e]
    decide
/-! ### the law's own: whole, purse, level, gap, dues -/
def spWhole : Sp := fun vs H Q _ => ∃ z : Int, vs = [.int z] ∧ Q (.bl true) H
theorem sc__law_whole : FnScope ["_law_found"] ["_law_found"] (defScope s__law_whole) := ⟨rfl, rfl, rfl, by decide +kernel, rfl, by decide +kernel, by decide +kernel⟩
theorem kit_ii : PySem.W.kitOne K (.type "int") (.type "int") = some true := by rfl
theorem kit_ib : PySem.W.kitOne K (.type "int") (.type "bool") = some false := by rfl
theorem ok_whole (D : DefIn K mg "_law_whole" s__law_whole) (T : Blt mg) : Callee P w K mg base CX0 1 "_law_whole" ["_law_found"] spWhole := by
  refine callee_mk D sc__law_whole (fun _ _ _ _ _ _ us hl => match us, hl with | [_], _ => rfl) (fun vs H Q E h => ?_) (fun f cdv A outer s H vs Q E hr h => ?_)
  · obtain ⟨z, rfl, _⟩ := h
    rfl
  · obtain ⟨z, rfl, kq⟩ := h
    refine ⟨_, (pss_one (ps_ret (pe_and (pe_callB call_isinst rfl T.isinstance boot_isinstance (pa_cons (pv 0) (pa_cons (pe_bltn (v := .ty "int") rfl T.int boot_int rfl) pa_nil))) (pe_one (pe_not (pe_callB call_isinst rfl T.isinstance boot_isinstance (pa_cons (pv 0) (pa_cons (pe_bltn (v := .ty "bool") rfl T.bool boot_bool rfl) pa_nil)))))))), ?_⟩
    refine ⟨_, rfl, _, _, _, _, true, rfl, rfl, fun u h => h, TyOf.int z, kit_ii, _, rfl, iteT ?_⟩
    exact ⟨_, rfl, _, _, _, _, false, rfl, rfl, fun u h => h, TyOf.int z, kit_ib, _, rfl, kq⟩
def spGap0 (K : PySem.W.Frag) : Sp := fun vs H Q _ => ∃ (a b : Addr) (ns ms : List Int), vs = [.ref a, .ref b] ∧ SqL K H a (ns.map V.int) ∧ SqL K H b (ms.map V.int) ∧ ns.length < 64 ∧ ns.length = ms.length ∧
  ∀ (o : Option Nat) (H' : Hp), PwM.IsGap ns ms o → Same H H' → Q (optV o) H'
theorem sc__law_gap : FnScope ["_law_one", "_law_other", "_law_here", "_law_there", "_law_more", "_law_k"] ["_law_one", "_law_other"] (defScope s__law_gap) := ⟨rfl, rfl, rfl, by decide +kernel, rfl, by decide +kernel, by decide +kernel⟩
theorem ok_lgap (D : DefIn K mg "_law_gap" s__law_gap) (T : Blt mg) : Callee P w K mg base CX0 1 "_law_gap" ["_law_one", "_law_other"] (spGap0 K) := by
  refine callee_mk D sc__law_gap (fun _ _ _ _ _ _ us hl => match us, hl with | [_, _], _ => rfl) (fun vs H Q E h => ?_) (fun f cdv A outer s H vs Q E hr h => ?_)
  · obtain ⟨a, b, ns, ms, rfl, _⟩ := h
    rfl
  · obtain ⟨a, b, ns, ms, rfl, h1, h2, l1, hl, kq⟩ := h
    refine ⟨_, (pss_cons (ps_set (i := 2) sc__law_gap.nd rfl (Or.inl rfl) (pe_callBK call_sortedR rfl T.sorted boot_sorted (pa_cons (pv 0) pa_nil) (pk_cons pe_bl pk_nil)))
      (pss_cons (ps_set (i := 3) sc__law_gap.nd rfl (Or.inl rfl) (pe_callBK call_sortedR rfl T.sorted boot_sorted (pa_cons (pv 1) pa_nil) (pk_cons pe_bl pk_nil)))
      (pss_cons (ps_set (i := 4) sc__law_gap.nd rfl (Or.inl rfl) pe_int)
      (pss_cons (ps_for PassesOwn.never rfl (pi_range1 rfl T.range (pa_cons (pe_callB call_len_seq rfl T.len PySem.boot_len (pa_cons (pv 2) pa_nil)) pa_nil)) (pg_name (i := 5) sc__law_gap.nd rfl (Or.inl rfl)) (pss_cons (ps_set (i := 4) sc__law_gap.nd rfl (Or.inl rfl) (pe_op op_sub (pe_op op_add (pv 4) (pe_ix ix_list (pv 3) (pv 5) (fun _ _ => rfl))) (pe_ix ix_list (pv 2) (pv 5) (fun _ _ => rfl))))
      (pss_one (ps_if (pt_cmpR op_gt (pv 4) pe_int (nomark _)) (pss_one (ps_ret (pe_op op_add (pv 5) pe_int))) pss_nil))))
      (pss_one (ps_ret pe_non)))))), ?_⟩
    refine ⟨_, rfl, a, ns, rfl, rfl, h1, l1, fun f hf0 => ?_⟩
    have s1 : Same H (upd H f (.lst ((PwM.desc ns).map V.int))) := (Same.refl H).upd_new hf0
    have hf1 : upd H f (.lst ((PwM.desc ns).map V.int)) f = some (.lst ((PwM.desc ns).map V.int)) := upd_same
    generalize upd H f (.lst ((PwM.desc ns).map V.int)) = H1 at s1 hf1 ⊢
    refine ⟨_, rfl, b, ms, rfl, rfl, s1.seq h2, by omega, fun g hg0 => ?_⟩
    have s2 : Same H1 (upd H1 g (.lst ((PwM.desc ms).map V.int))) := (Same.refl H1).upd_new hg0
    have hg2 : upd H1 g (.lst ((PwM.desc ms).map V.int)) g = some (.lst ((PwM.desc ms).map V.int)) := upd_same
    have hf2 := s2 _ _ hf1
    generalize upd H1 g (.lst ((PwM.desc ms).map V.int)) = H2 at s2 hg2 hf2 ⊢
    have s02 := s1.trans s2
    refine ⟨_, rfl, f, _, rfl, .inl (SqL.of hf2), _, rfl, (by rw [List.length_map, PwM.desc_length]; omega), (by rw [List.length_map, PwM.desc_length]; omega), ?_⟩
    refine for_range (lo := 0) (n := ((((PwM.desc ns).map V.int).length : Nat) : Int).toNat) (fun i σ H3 => ∃ v, σ = [some (.ref a), some (.ref b), some (.ref f), some (.ref g), some (.int (((PwM.desc ms).take i).sum - ((PwM.desc ns).take i).sum)), v] ∧ H3 = H2 ∧ ∀ k, k ≤ i → ¬ PwM.Ahead ns ms k)
      ⟨none, rfl, rfl, fun k hk => by rw [Nat.le_zero.mp hk]; exact PwM.ahead_zero ns ms⟩ ?_ ?_
    · rintro i σ H3 hi ⟨v, rfl, rfl, hno⟩
      rw [List.length_map, PwM.desc_length] at hi
      have hi1 : i < (PwM.desc ns).length := by rw [PwM.desc_length]; omega
      have hi2 : i < (PwM.desc ms).length := by rw [PwM.desc_length]; omega
      have g1 : (PwM.desc ns)[i]? = some (PwM.desc ns)[i] := List.getElem?_eq_getElem hi1
      have g2 : (PwM.desc ms)[i]? = some (PwM.desc ms)[i] := List.getElem?_eq_getElem hi2
      generalize (PwM.desc ns)[i] = x at g1
      generalize (PwM.desc ms)[i] = y at g2
      have e0 : (0 : Int) + (i : Int) = (i : Int) := by omega
      rw [e0]
      refine ⟨_, rfl, _, rfl, _, rfl, g, _, _, _, rfl, rfl, SqL.of hg2, atI_map g2, _, _, rfl, rfl, _, rfl, _, rfl, f, _, _, _, rfl, rfl, SqL.of hf2, atI_map g1, _, _, rfl, rfl, ?_⟩
      have t1 := PwM.take_sum _ g1
      have t2 := PwM.take_sum _ g2
      refine ⟨_, rfl, _, _, rfl, rfl, _, rfl, ?_⟩
      refine ite2 (fun hp => ?_) (fun hp => ?_)
      · have hp' := of_decide_eq_true hp
        refine ⟨_, rfl, _, _, rfl, rfl, kq (some (i + 1)) _ ⟨by omega, ?_, fun j hj => hno j (by omega)⟩ s02⟩
        unfold PwM.Ahead
        rw [t1, t2]
        omega
      · have hp' : ¬ (0 : Int) < ((PwM.desc ms).take i).sum - ((PwM.desc ns).take i).sum + y - x := fun z => hp (decide_eq_true z)
        refine ⟨some (.int i), ?_, rfl, fun k hk => ?_⟩
        · rw [t1, t2, show ((PwM.desc ms).take i).sum + y - (((PwM.desc ns).take i).sum + x) = ((PwM.desc ms).take i).sum - ((PwM.desc ns).take i).sum + y - x from by omega]
          rfl
        · by_cases e : k = i + 1
          · rw [e]
            unfold PwM.Ahead
            rw [t1, t2]
            omega
          · exact hno k (by omega)
    · rintro σ H3 ⟨v, rfl, rfl, hno⟩
      rw [List.length_map, PwM.desc_length] at hno
      exact kq none _ (fun k hk => hno k (by omega)) s02
def spDues0 (K : PySem.W.Frag) : Sp := fun vs H Q _ => ∃ (a b : Addr) (ns ms : List Int), vs = [.ref a, .ref b] ∧ SqL K H a (ns.map V.int) ∧ SqL K H b (ms.map V.int) ∧ ns.length < 64 ∧ ns.length = ms.length ∧
  ∀ H', Same H H' → Q (.int (PwM.dueL ns ms).sum) H'
theorem sc__law_dues : FnScope ["_law_one", "_law_other", "_law_here", "_law_there"] ["_law_one", "_law_other"] (defScope s__law_dues) := ⟨rfl, rfl, rfl, by decide +kernel, rfl, by decide +kernel, by decide +kernel⟩
theorem ok_ldues (D : DefIn K mg "_law_dues" s__law_dues) (T : Blt mg) : Callee P w K mg base CX0 1 "_law_dues" ["_law_one", "_law_other"] (spDues0 K) := by
  refine callee_mk D sc__law_dues (fun _ _ _ _ _ _ us hl => match us, hl with | [_, _], _ => rfl) (fun vs H Q E h => ?_) (fun f cdv A outer s H vs Q E hr h => ?_)
  · obtain ⟨a, b, ns, ms, rfl, _⟩ := h
    rfl
  · obtain ⟨a, b, ns, ms, rfl, h1, h2, l1, hl, kq⟩ := h
    refine ⟨_, (pss_cons (ps_set (i := 2) sc__law_dues.nd rfl (Or.inr rfl) (pe_callBK call_sortedR rfl T.sorted boot_sorted (pa_cons (pv 0) pa_nil) (pk_cons pe_bl pk_nil)))
      (pss_cons (ps_set (i := 3) sc__law_dues.nd rfl (Or.inr rfl) (pe_callBK call_sortedR rfl T.sorted boot_sorted (pa_cons (pv 1) pa_nil) (pk_cons pe_bl pk_nil)))
      (pss_one (ps_ret (pe_callB (call_sum rfl) rfl T.sum boot_sum (pa_cons (pe_comp (N' := ["_law_k", "_law_here", "_law_there"]) (fr := [none, some 2, some 3]) (.of rfl rfl) (pi_range1 rfl T.range (pa_cons (pe_callB call_len_seq rfl T.len PySem.boot_len (pa_cons (pv 2) pa_nil)) pa_nil)) (fun _ _ _ _ => (pg_name (i := 0) (show (["_law_k", "_law_here", "_law_there"] : List Str).Nodup from by decide +kernel) rfl (Or.inl rfl))) (fun _ _ _ _ => (pf_one (pt_cmpR op_gt (pe_ix (ix_listK (K := K) rfl) (pv 1) (pv 0) (fun _ _ => rfl)) (pe_ix (ix_listK (K := K) rfl) (pv 2) (pv 0) (fun _ _ => rfl)) (nomark _)))) (fun _ _ _ _ => (pe_op op_sub (pe_ix (ix_listK (K := K) rfl) (pv 1) (pv 0) (fun _ _ => rfl)) (pe_ix (ix_listK (K := K) rfl) (pv 2) (pv 0) (fun _ _ => rfl))))) pa_nil)))))), ?_⟩
    refine ⟨_, rfl, a, ns, rfl, rfl, h1, l1, fun f hf0 => ?_⟩
    have s1 : Same H (upd H f (.lst ((PwM.desc ns).map V.int))) := (Same.refl H).upd_new hf0
    have hf1 : upd H f (.lst ((PwM.desc ns).map V.int)) f = some (.lst ((PwM.desc ns).map V.int)) := upd_same
    generalize upd H f (.lst ((PwM.desc ns).map V.int)) = H1 at s1 hf1 ⊢
    refine ⟨_, rfl, b, ms, rfl, rfl, s1.seq h2, by omega, fun g hg0 => ?_⟩
    have s2 : Same H1 (upd H1 g (.lst ((PwM.desc ms).map V.int))) := (Same.refl H1).upd_new hg0
    have hg2 : upd H1 g (.lst ((PwM.desc ms).map V.int)) g = some (.lst ((PwM.desc ms).map V.int)) := upd_same
    have hf2 := s2 _ _ hf1
    generalize upd H1 g (.lst ((PwM.desc ms).map V.int)) = H2 at s2 hg2 hf2 ⊢
    have s02 := s1.trans s2
    refine ⟨_, rfl, f, _, rfl, .inl (SqL.of hf2), _, rfl, (by rw [List.length_map, PwM.desc_length]; omega), (by rw [List.length_map, PwM.desc_length]; omega), fun l hl0 => ?_⟩
    have ml := PwM.moreL_length hl
    refine comp_range (lo := 0) (n := ((((PwM.desc ns).map V.int).length : Nat) : Int).toNat) (fun i σ H3 => ∃ v, σ = [v, some (.ref f), some (.ref g)] ∧ Same H2 H3 ∧ H3 l = some (.lst ((((PwM.moreL ns ms).take i).filter fun z => decide (0 < z)).map V.int)))
      ⟨none, rfl, (Same.refl H2).upd_new hl0, by rw [upd_same]; rfl⟩ ?_ ?_
    · rintro i σ H3 hi ⟨v, rfl, sH, hL⟩
      rw [List.length_map, PwM.desc_length] at hi
      have hi1 : i < (PwM.desc ns).length := by rw [PwM.desc_length]; omega
      have hi2 : i < (PwM.desc ms).length := by rw [PwM.desc_length]; omega
      have g1 : (PwM.desc ns)[i]? = some (PwM.desc ns)[i] := List.getElem?_eq_getElem hi1
      have g2 : (PwM.desc ms)[i]? = some (PwM.desc ms)[i] := List.getElem?_eq_getElem hi2
      generalize (PwM.desc ns)[i] = x at g1
      generalize (PwM.desc ms)[i] = y at g2
      have hm := PwM.moreL_get g1 g2
      have e0 : (0 : Int) + (i : Int) = (i : Int) := by omega
      rw [e0]
      have hfl : (((PwM.moreL ns ms).take i).filter fun z => decide (0 < z)).length ≤ i := Nat.le_trans (List.length_filter_le _ _) (by rw [List.length_take]; omega)
      have hf3 := sH _ _ hf2
      have hg3 := sH _ _ hg2
      refine ⟨_, rfl, _, rfl, f, _, _, _, rfl, rfl, SqL.of hf3, atI_map g1, _, rfl, _, rfl, g, _, _, _, rfl, rfl, SqL.of hg3, atI_map g2, _, _, rfl, rfl, _, rfl, ?_⟩
      refine ite2 (fun hp => ?_) (fun hp => ?_)
      · have hp' := of_decide_eq_true hp
        refine ⟨_, rfl, _, rfl, f, _, _, _, rfl, rfl, SqL.of hf3, atI_map g1, _, rfl, _, rfl, g, _, _, _, rfl, rfl, SqL.of hg3, atI_map g2, _, _, rfl, rfl, _, hL, small1000 (by rw [List.length_map]; omega), _, rfl, ?_, ?_⟩
        · intro c o e
          rw [upd_ne (ne_of_none e hl0)]
          exact sH _ _ e
        · rw [upd_same, PwM.filter_snoc _ _ hm, if_pos (decide_eq_true (by omega)), List.map_append]
          rfl
      · have hp' : ¬ y < x := fun z => hp (decide_eq_true z)
        refine ⟨_, rfl, sH, ?_⟩
        rw [hL, PwM.filter_snoc _ _ hm, if_neg (fun z => by have := of_decide_eq_true z; omega), List.append_nil]
    · rintro σ H3 ⟨v, rfl, sH, hL⟩
      rw [List.length_map, PwM.desc_length, Int.toNat_natCast, ← ml, List.take_of_length_le (Nat.le_refl _)] at hL
      exact ⟨l, _, rfl, SqL.of hL, kq H3 (s02.trans sH)⟩
/-! ### _law_is_gift, _law_leads -/
theorem walkR_step {ns here cur : List Int} {gs : List Gv} {i : Nat} {x : Gv} (h : PwM.walkR ns gs = some here) (hx : gs[i]? = some x) (hc : PwM.walkR ns (gs.take i) = some cur) :
    PwM.fitB cur x.1 x.2.1 x.2.2 = true ∧ PwM.walkR ns (gs.take (i + 1)) = some (PwM.doneL cur x.1 x.2.1 x.2.2) := by
  have hi : i < gs.length := (List.getElem?_eq_some_iff.mp hx).1
  have e : gs = gs.take i ++ x :: gs.drop (i + 1) := by
    have h2 := (List.getElem?_eq_some_iff.mp hx).2
    rw [← h2, ← List.drop_eq_getElem_cons hi, List.take_append_drop]
  have hf : PwM.fitB cur x.1 x.2.1 x.2.2 = true := by
    cases q : PwM.fitB cur x.1 x.2.1 x.2.2 with
    | true => rfl
    | false =>
      rw [e, PwM.walkR_none hc q] at h
      cases h
  refine ⟨hf, ?_⟩
  rw [List.take_add_one, hx, Option.toList, PwM.walkR_snoc hc, if_pos hf]
theorem amounts_take {gs : List Gv} {i : Nat} {x : Gv} (hx : gs[i]? = some x) : PwM.amounts (gs.take (i + 1)) = PwM.amounts (gs.take i) + x.2.2 := by
  rw [List.take_add_one, hx, Option.toList, PwM.amounts_snoc]
theorem gtt0 {x : Gv} : atI [V.int x.1, V.int x.2.1, V.int x.2.2] 0 = some (.int x.1) := rfl
theorem gtt1 {x : Gv} : atI [V.int x.1, V.int x.2.1, V.int x.2.2] 1 = some (.int x.2.1) := rfl
theorem gtt2 {x : Gv} : atI [V.int x.1, V.int x.2.1, V.int x.2.2] 2 = some (.int x.2.2) := rfl
theorem kit_tt : PySem.W.kitOne K (.type "tuple") (.type "tuple") = some true := by rfl
theorem kit_ll : PySem.W.kitOne K (.type "list") (.type "list") = some true := by rfl
def spIsGift (K : PySem.W.Frag) : Sp := fun vs H Q _ => ∃ (g a : Addr) (x : Gv) (ns : List Int), vs = [.ref g, .ref a] ∧ H g = some (tupG x) ∧ SqL K H a (ns.map V.int) ∧ PwM.fitB ns x.1 x.2.1 x.2.2 = true ∧ Q (.bl true) H
theorem sc__law_is_gift : FnScope ["_law_gift", "_law_here", "_law_part"] ["_law_gift", "_law_here"] (defScope s__law_is_gift) := ⟨rfl, rfl, rfl, by decide +kernel, rfl, by decide +kernel, by decide +kernel⟩
theorem ok_isgift (D : DefIn K mg "_law_is_gift" s__law_is_gift) (T : Blt mg) (C__law_whole : Callee P w K mg base CX0 1 "_law_whole" ["_law_found"] spWhole) : Callee P w K mg base CX0 2 "_law_is_gift" ["_law_gift", "_law_here"] (spIsGift K) := by
  refine callee_mk D sc__law_is_gift (fun _ _ _ _ _ _ us hl => match us, hl with | [_, _], _ => rfl) (fun vs H Q E h => ?_) (fun f cdv A outer s H vs Q E hr h => ?_)
  · obtain ⟨g, a, x, ns, rfl, _⟩ := h
    rfl
  · obtain ⟨g, a, x, ns, rfl, hG, hA, hf, kq⟩ := h
    have hQ : SqT K H g [.int x.1, .int x.2.1, .int x.2.2] := SqT.of hG
    refine ⟨_, (pss_cons (ps_if (PW.pt (pw_or (pt_not (pt_val (pe_callB call_isinst rfl T.isinstance boot_isinstance (pa_cons (pv 0) (pa_cons (pe_bltn (v := .ty "tuple") rfl T.tuple boot_tuple rfl) pa_nil))))) (pw_or1 (pt_cmpR op_ne (pe_callB call_len_seq rfl T.len PySem.boot_len (pa_cons (pv 0) pa_nil)) pe_int (nomark _))))) (pss_one (ps_ret pe_bl)) pss_nil)
      (pss_cons (ps_for PassesOwn.never rfl (pi_tup (pv 0)) (pg_name (i := 2) sc__law_is_gift.nd rfl (Or.inl rfl)) (pss_one (ps_if (pt_not (pt_val (pe_callC C__law_whole hr (by decide) rfl pass0 (pa_cons (pv 2) pa_nil)))) (pss_one (ps_ret pe_bl)) pss_nil)))
      (pss_cons (ps_if (PW.pt (pw_or (pt_cmpR op_lt (pe_ix ix_tup (pv 0) pe_int (fun _ _ => rfl)) pe_int (nomark _)) (pw_or (pt_cmpR op_ge (pe_ix ix_tup (pv 0) pe_int (fun _ _ => rfl)) (pe_callB call_len_seq rfl T.len PySem.boot_len (pa_cons (pv 1) pa_nil)) (nomark _)) (pw_or (pt_cmpR op_lt (pe_ix ix_tup (pv 0) pe_int (fun _ _ => rfl)) pe_int (nomark _)) (pw_or1 (pt_cmpR op_ge (pe_ix ix_tup (pv 0) pe_int (fun _ _ => rfl)) (pe_callB call_len_seq rfl T.len PySem.boot_len (pa_cons (pv 1) pa_nil)) (nomark _))))))) (pss_one (ps_ret pe_bl)) pss_nil)
      (pss_one (ps_ret (pe_and (pe_cmpR op_ne (pe_ix ix_tup (pv 0) pe_int (fun _ _ => rfl)) (pe_ix ix_tup (pv 0) pe_int (fun _ _ => rfl)) (nomark _)) (pe_and (pe_cmpR op_gt (pe_ix ix_tup (pv 0) pe_int (fun _ _ => rfl)) pe_int (nomark _)) (pe_one (pe_cmpR op_ge (pe_op op_sub (pe_ix ix_list (pv 1) (pe_ix ix_tup (pv 0) pe_int (fun _ _ => rfl)) (fun _ _ => rfl)) (pe_ix ix_list (pv 1) (pe_ix ix_tup (pv 0) pe_int (fun _ _ => rfl)) (fun _ _ => rfl))) (pe_ix ix_tup (pv 0) pe_int (fun _ _ => rfl)) (nomark _)))))))))), ?_⟩
    obtain ⟨i, j, e1, e2, hi, hj, hij, hd, hd2⟩ := PwM.fitB_true hf
    refine ⟨_, rfl, _, _, _, _, true, rfl, rfl, fun u h => h, TyOf.tup hG, kit_tt, _, rfl, iteF ?_⟩
    refine ⟨_, rfl, g, _, rfl, .inr hQ, rfl, _, rfl, ?_⟩
    refine iteNS rfl ?_
    refine ⟨_, rfl, g, rfl, ⟨_, hQ⟩, for_tup (K := K) (a := g) (xs := [V.int x.1, V.int x.2.1, V.int x.2.2]) (fun k σ H2 => ∃ v, σ = [some (.ref g), some (.ref a), v] ∧ H2 = H) ⟨none, rfl, rfl⟩ (fun k σ H2 _ ⟨_, _, e⟩ => by rw [e]; exact hQ) ?_ ?_⟩
    · rintro k y σ H2 hk ⟨v, rfl, rfl⟩
      have hy : ∃ z : Int, y = .int z := by
        have := List.mem_of_getElem? hk
        simp at this
        rcases this with h | h | h <;> exact ⟨_, h⟩
      obtain ⟨z, rfl⟩ := hy
      exact ⟨_, rfl, z, rfl, _, rfl, iteF ⟨_, rfl, rfl⟩⟩
    · rintro σ H2 ⟨v, rfl, rfl⟩
      refine ⟨_, rfl, g, _, _, _, rfl, rfl, hQ, gtt0, _, _, rfl, rfl, _, rfl, ?_⟩
      rw [decide_eq_false (show ¬ x.1 < 0 by omega)]
      refine iteF ⟨_, rfl, g, _, _, _, rfl, rfl, hQ, gtt0, _, rfl, a, _, rfl, .inl hA, _, _, rfl, rfl, _, rfl, ?_⟩
      rw [List.length_map, decide_eq_false (show ¬ x.1 ≥ (ns.length : Int) by omega)]
      refine iteF ⟨_, rfl, g, _, _, _, rfl, rfl, hQ, gtt1, _, _, rfl, rfl, _, rfl, ?_⟩
      rw [decide_eq_false (show ¬ x.2.1 < 0 by omega)]
      refine iteF ⟨_, rfl, g, _, _, _, rfl, rfl, hQ, gtt1, _, rfl, a, _, rfl, .inl hA, _, _, rfl, rfl, _, rfl, ?_⟩
      rw [List.length_map, decide_eq_false (show ¬ x.2.1 ≥ (ns.length : Int) by omega)]
      refine iteF ?_
      refine ⟨_, rfl, g, _, _, _, rfl, rfl, hQ, gtt0, _, rfl, g, _, _, _, rfl, rfl, hQ, gtt1, rfl, _, rfl, ?_⟩
      rw [decide_eq_false (show ¬ (V.int x.1 = V.int x.2.1) from fun z => by have := V.int.inj z; omega)]
      refine iteT ⟨_, rfl, g, _, _, _, rfl, rfl, hQ, gtt2, _, _, rfl, rfl, _, rfl, ?_⟩
      rw [decide_eq_true (show x.2.2 > 0 by omega)]
      have ei : atI (ns.map V.int) x.1 = some (.int (ns.getD i 0)) := by rw [e1]; exact atI_map (getD_of hi)
      have ej : atI (ns.map V.int) x.2.1 = some (.int (ns.getD j 0)) := by rw [e2]; exact atI_map (getD_of hj)
      refine iteT ⟨_, rfl, _, rfl, g, _, _, _, rfl, rfl, hQ, gtt0, a, _, _, _, rfl, rfl, hA, ei, _, rfl, _, rfl, g, _, _, _, rfl, rfl, hQ, gtt1, a, _, _, _, rfl, rfl, hA, ej, _, _, rfl, rfl, _, rfl, g, _, _, _, rfl, rfl, hQ, gtt2, _, _, rfl, rfl, ?_⟩
      dsimp only
      rw [decide_eq_true (show x.2.2 ≤ ns.getD i 0 - ns.getD j 0 by omega)]
      exact kq
def spLeads (K : PySem.W.Frag) : Sp := fun vs H Q _ => ∃ (a b c : Addr) (ns ms : List Int) (ps : List Addr) (gs : List Gv) (here : List Int), vs = [.ref a, .ref b, .ref c] ∧ SqL K H a (ns.map V.int) ∧ SqL K H b (ms.map V.int) ∧ GiftsH H c ps gs ∧ ns.length < 64 ∧ ns.length = ms.length ∧
  PwM.walkR ns gs = some here ∧ here.Perm ms ∧ PwM.amounts gs = (PwM.dueL ns ms).sum ∧ (gs.length : Int) ≤ max ((ns.length : Int) - 1) 0 ∧ ∀ H', Same H H' → Q (.bl true) H'
theorem sc__law_leads : FnScope ["_law_one", "_law_other", "_law_gifts", "_law_here", "_law_handed_on", "_law_gift"] ["_law_one", "_law_other", "_law_gifts"] (defScope s__law_leads) := ⟨rfl, rfl, rfl, by decide +kernel, rfl, by decide +kernel, by decide +kernel⟩
theorem ok_leads (D : DefIn K mg "_law_leads" s__law_leads) (T : Blt mg) (C__law_is_gift : Callee P w K mg base CX0 2 "_law_is_gift" ["_law_gift", "_law_here"] (spIsGift K)) (C__law_dues : Callee P w K mg base CX0 1 "_law_dues" ["_law_one", "_law_other"] (spDues0 K)) :
    Callee P w K mg base CX0 3 "_law_leads" ["_law_one", "_law_other", "_law_gifts"] (spLeads K) := by
  refine callee_mk D sc__law_leads (fun _ _ _ _ _ _ us hl => match us, hl with | [_, _, _], _ => rfl) (fun vs H Q E h => ?_) (fun f cdv A outer s H vs Q E hr h => ?_)
  · obtain ⟨a, b, c, ns, ms, ps, gs, here, rfl, _⟩ := h
    rfl
  · obtain ⟨a, b, c, ns, ms, ps, gs, here, rfl, h1, h2, hG, l1, hl, hw, hp, ha, hc, kq⟩ := h
    have hu := hr.units
    refine ⟨_, (pss_cons (ps_if (PW.pt (pw_or (pt_not (pt_val (pe_callB call_isinst rfl T.isinstance boot_isinstance (pa_cons (pv 2) (pa_cons (pe_bltn (v := .ty "list") rfl T.list boot_list rfl) pa_nil))))) (pw_or1 (pt_cmpR op_gt (pe_callB call_len_seq rfl T.len PySem.boot_len (pa_cons (pv 2) pa_nil)) (pe_callB (call_max2 rfl) rfl T.max boot_max (pa_cons pe_int (pa_cons (pe_op op_sub (pe_callB call_len_seq rfl T.len PySem.boot_len (pa_cons (pv 0) pa_nil)) pe_int) pa_nil))) (nomark _))))) (pss_one (ps_ret pe_bl)) pss_nil)
      (pss_cons (ps_set (i := 3) sc__law_leads.nd rfl (Or.inl rfl) (pe_callTy call_list_of rfl T.list boot_list (pa_cons (pv 0) pa_nil)))
      (pss_cons (ps_set (i := 4) sc__law_leads.nd rfl (Or.inl rfl) pe_int)
      (pss_cons (ps_for PassesOwn.never rfl (pi_list (pv 2)) (pg_name (i := 5) sc__law_leads.nd rfl (Or.inl rfl)) (pss_cons (ps_if (pt_not (pt_val (pe_callC C__law_is_gift hr (by decide) rfl pass0 (pa_cons (pv 5) (pa_cons (pv 3) pa_nil))))) (pss_one (ps_ret pe_bl)) pss_nil)
      (pss_cons (ps_asg (pe_op op_sub (pe_ix ix_list (pv 3) (pe_ix ix_tup (pv 5) pe_int (fun _ _ => rfl)) (fun _ _ => rfl)) (pe_ix ix_tup (pv 5) pe_int (fun _ _ => rfl))) (pg_sub (pv 3) (pe_ix ix_tup (pv 5) pe_int (fun _ _ => rfl)) set_list))
      (pss_cons (ps_asg (pe_op op_add (pe_ix ix_list (pv 3) (pe_ix ix_tup (pv 5) pe_int (fun _ _ => rfl)) (fun _ _ => rfl)) (pe_ix ix_tup (pv 5) pe_int (fun _ _ => rfl))) (pg_sub (pv 3) (pe_ix ix_tup (pv 5) pe_int (fun _ _ => rfl)) set_list))
      (pss_one (ps_set (i := 4) sc__law_leads.nd rfl (Or.inl rfl) (pe_op op_add (pv 4) (pe_ix ix_tup (pv 5) pe_int (fun _ _ => rfl)))))))))
      (pss_one (ps_ret (pe_and (pe_cmpR op_eq (pv 4) (pe_callC C__law_dues hr (by decide) rfl pass0 (pa_cons (pv 0) (pa_cons (pv 1) pa_nil))) (nomark _)) (pe_one (pe_cmpR (op_eqL hu) (pe_callB call_sorted rfl T.sorted boot_sorted (pa_cons (pv 3) pa_nil)) (pe_callB call_sorted rfl T.sorted boot_sorted (pa_cons (pv 1) pa_nil)) (nomark _)))))))))), ?_⟩
    refine ⟨_, rfl, _, _, _, _, true, rfl, rfl, fun u h => h, TyOf.lst hG.hA, kit_ll, _, rfl, iteF ?_⟩
    refine ⟨_, rfl, c, _, rfl, .inl (SqL.of hG.hA), _, rfl, a, _, rfl, .inl h1, _, _, rfl, rfl, _, _, rfl, _, _, rfl, rfl, _, rfl, ?_⟩
    rw [List.length_map, List.length_map, hG.len]
    rw [decide_eq_false (show ¬ ((gs.length : Int) > if (ns.length : Int) - 1 > 0 then (ns.length : Int) - 1 else 0) from fun z => by split at z <;> omega)]
    refine iteF ⟨_, rfl, a, _, rfl, .inl h1, fun l hl0 => ?_⟩
    have s1 : Same H (upd H l (.lst (ns.map V.int))) := (Same.refl H).upd_new hl0
    have g1 : upd H l (.lst (ns.map V.int)) l = some (.lst (ns.map V.int)) := upd_same
    generalize upd H l (.lst (ns.map V.int)) = H1 at s1 g1 ⊢
    refine ⟨_, rfl, c, rfl, ⟨_, SqL.of (s1 _ _ hG.hA)⟩, for_list (K := K) (a := c) (xs := ps.map V.ref) (fun i σ H3 => ∃ (cur : List Int) (v : Option V), σ = [some (.ref a), some (.ref b), some (.ref c), some (.ref l), some (.int (PwM.amounts (gs.take i))), v] ∧ Same H H3 ∧ H3 l = some (.lst (cur.map V.int)) ∧ PwM.walkR ns (gs.take i) = some cur)
      ⟨ns, none, rfl, s1, g1, by simp [PwM.walkR]⟩ (fun i σ H3 _ ⟨_, _, _, sH, _⟩ => SqL.of (sH _ _ hG.hA)) ?_ ?_⟩
    · rintro i y σ H3 hy ⟨cur, v, rfl, sH, hL, hcur⟩
      obtain ⟨p, hp0, rfl⟩ := ref_item hy
      have hi : i < gs.length := by rw [← hG.len]; exact (List.getElem?_eq_some_iff.mp hp0).1
      have hx : gs[i]? = some gs[i] := List.getElem?_eq_getElem hi
      generalize gs[i] = x at hx
      obtain ⟨hf, hnx⟩ := walkR_step hw hx hcur
      have hpx := sH _ _ (hG.at_ i p x hp0 hx)
      have am := amounts_take hx
      obtain ⟨x1, x2, x3⟩ := x
      have hQ : ∀ {H4 : Hp}, H4 p = some (tupG (x1, x2, x3)) → SqT K H4 p [.int x1, .int x2, .int x3] := fun h => SqT.of h
      refine ⟨_, rfl, _, rfl, p, l, (x1, x2, x3), cur, rfl, hpx, SqL.of hL, hf, _, rfl, iteF ?_⟩
      dsimp only at hf hnx am
      obtain ⟨i', j', rfl, rfl, hi', hj', hij, hd, hd2⟩ := PwM.fitB_true hf
      have lp : l ≠ p := fun z => by rw [z, hpx] at hL; cases hL
      have pk : ∀ o, (upd H3 l o) p = some (tupG ((i' : Int), (j' : Int), x3)) := fun o => by rw [upd_ne (Ne.symm lp)]; exact hpx
      refine ⟨_, rfl, _, rfl, p, _, _, _, rfl, rfl, hQ hpx, rfl, l, _, _, _, rfl, rfl, SqL.of hL, atI_map (getD_of hi'), _, rfl, p, _, _, _, rfl, rfl, hQ hpx, rfl, _, _, rfl, rfl, ?_⟩
      refine ⟨_, rfl, _, rfl, p, _, _, _, rfl, rfl, hQ hpx, rfl, l, _, _, i', rfl, rfl, hL, ixN_nat (by rw [List.length_map]; exact hi'), ?_⟩
      have ej : (cur.set i' (cur.getD i' 0 - x3))[j']? = some (cur.getD j' 0) := by rw [List.getElem?_set_ne hij]; exact getD_of hj'
      rw [← List.map_set]
      refine ⟨_, rfl, _, rfl, p, _, _, _, rfl, rfl, hQ (pk _), rfl, l, _, _, _, rfl, rfl, SqL.of upd_same, atI_map ej, _, rfl, p, _, _, _, rfl, rfl, hQ (pk _), rfl, _, _, rfl, rfl, ?_⟩
      refine ⟨_, rfl, _, rfl, p, _, _, _, rfl, rfl, hQ (pk _), rfl, l, _, _, j', rfl, rfl, upd_same, ixN_nat (by rw [List.length_map, List.length_set]; exact hj'), ?_⟩
      rw [upd_upd, ← List.map_set]
      refine ⟨_, rfl, _, rfl, p, _, _, _, rfl, rfl, hQ (pk _), rfl, _, _, rfl, rfl, ?_⟩
      refine ⟨PwM.doneL cur i' j' x3, some (.ref p), by rw [am]; rfl, fun b' o e => ?_, ?_, hnx⟩
      · rw [upd_ne (ne_of_none e hl0)]
        exact sH _ _ e
      · rw [upd_same, PwM.doneL, Int.toNat_natCast, Int.toNat_natCast]
    · rintro σ H3 ⟨cur, v, rfl, sH, hL, hcur⟩
      rw [List.length_map, hG.len, List.take_of_length_le (Nat.le_refl _)] at hcur ⊢
      rw [hw] at hcur
      cases hcur
      refine ⟨_, rfl, _, rfl, _, rfl, a, b, ns, ms, rfl, sH.seq h1, sH.seq h2, l1, hl, fun H4 s4 => ?_⟩
      refine ⟨rfl, true, (by show V.bl (decide _) = _; rw [ha, decide_eq_true rfl]), iteT ?_⟩
      have hlen : here.length = ns.length := by rw [hp.length_eq, hl]
      have s04 := sH.trans s4
      refine ⟨_, rfl, l, here, rfl, SqL.of (s4 _ _ hL), by omega, fun f hf0 => ?_⟩
      have s5 : Same H4 (upd H4 f (.lst ((PwM.asc here).map V.int))) := (Same.refl H4).upd_new hf0
      have g5 : upd H4 f (.lst ((PwM.asc here).map V.int)) f = some (.lst ((PwM.asc here).map V.int)) := upd_same
      generalize upd H4 f (.lst ((PwM.asc here).map V.int)) = H5 at s5 g5 ⊢
      refine ⟨_, rfl, b, ms, rfl, (s04.trans s5).seq h2, by omega, fun g hg0 => ?_⟩
      have s6 : Same H5 (upd H5 g (.lst ((PwM.asc ms).map V.int))) := (Same.refl H5).upd_new hg0
      have g6 : upd H5 g (.lst ((PwM.asc ms).map V.int)) g = some (.lst ((PwM.asc ms).map V.int)) := upd_same
      generalize upd H5 g (.lst ((PwM.asc ms).map V.int)) = H6 at s6 g6 ⊢
      refine ⟨f, g, _, _, rfl, rfl, SqL.of (s6 _ _ g5), SqL.of g6, ?_⟩
      rw [PwM.asc_congr hp, decide_eq_true rfl]
      exact kq _ ((s04.trans s5).trans s6)
end
end K07

set_option Elab.async false
set_option linter.all false
set_option maxRecDepth 100000
set_option maxHeartbeats 4000000
namespace K07
open PySem L2 PyProof.Rows
open Builtin.Int (intBits)
section
variable {P : Program} {w : World} {K : PySem.W.Frag} {mg : Str → Option Value} {base : Heap}
def spPurse : Sp := fun vs H Q _ => ∃ (c : Int) (b : Bool), vs = [.int c, .bl b] ∧ ∀ z, Q (.int z) H
theorem sc__law_purse : FnScope ["_law_cell", "_law_small"] ["_law_cell", "_law_small"] (defScope s__law_purse) := ⟨rfl, rfl, rfl, by decide +kernel, rfl, by decide +kernel, by decide +kernel⟩
theorem ok_purse (D : DefIn K mg "_law_purse" s__law_purse) : Callee P w K mg base CX0 1 "_law_purse" ["_law_cell", "_law_small"] spPurse := by
  refine callee_mk D sc__law_purse (fun _ _ _ _ _ _ us hl => match us, hl with | [_, _], _ => rfl) (fun vs H Q E h => ?_) (fun f cdv A outer s H vs Q E hr h => ?_)
  · obtain ⟨c, b, rfl, _⟩ := h
    rfl
  · obtain ⟨c, b, rfl, kq⟩ := h
    refine ⟨_, (pss_cons (ps_if (pt_val (pv 1)) (pss_one (ps_ret (pe_op op_sub (pe_op op_mod (pv 0) pe_int) pe_int))) pss_nil)
      (pss_one (ps_ret (pe_op op_sub (pe_op op_mod (pv 0) (pe_op op_add (pe_op op_mul pe_int (pe_op op_pow pe_int pe_int)) pe_int)) (pe_op op_pow pe_int pe_int))))), ?_⟩
    refine ⟨_, rfl, _, rfl, ?_⟩
    refine ite2 (fun hb => ?_) (fun hb => ?_)
    · exact ⟨_, rfl, _, _, rfl, rfl, (by dsimp only; decide), _, _, rfl, rfl, kq _⟩
    · exact ⟨_, rfl, _, _, rfl, rfl, ⟨by decide, by decide, by decide⟩, _, _, rfl, rfl, .inl ⟨by decide, by decide⟩, _, _, rfl, rfl, _, _, rfl, rfl, (by dsimp only; decide +kernel), _, _, rfl, rfl, ⟨by decide, by decide, by decide⟩, _, _, rfl, rfl, kq _⟩
/-! ### _law_pulled, _law_one_back -/
theorem rest_nat7 {a : Int} {n : Nat} (h : 0 < n) : ∃ k : Nat, a % (n : Int) = k ∧ k < n := by
  have h1 : 0 ≤ a % (n : Int) := Int.emod_nonneg _ (by omega)
  have h2 : a % (n : Int) < n := Int.emod_lt_of_pos _ (by omega)
  exact ⟨(a % (n : Int)).toNat, by omega, by omega⟩
theorem like_pull {rs : List Int} {g t : Nat} {d : Int} (hg : g < rs.length) (ht : t < rs.length) : PwM.Like rs ((rs.set g (rs.getD g 0 - d)).set t ((rs.set g (rs.getD g 0 - d)).getD t 0 + d)) := by
  refine ⟨by simp, ?_⟩
  rw [PwM.sum_set (by simpa using ht), PwM.sum_set hg]
  omega
def spPulled (K : PySem.W.Frag) : Sp := fun vs H Q _ => ∃ (r c : Addr) (rs cs : List Int), vs = [.ref r, .ref c] ∧ SqL K H r (rs.map V.int) ∧ SqL K H c (cs.map V.int) ∧ cs.length ≤ 100 ∧ cs.length / 2 ≤ rs.length ∧
  ∀ (l : Addr) (rs' : List Int) (H' : Hp), H l = none → Same H H' → H' l = some (.lst (rs'.map V.int)) → PwM.Like rs rs' → Q (.ref l) H'
theorem sc__law_pulled : FnScope ["_law_row", "_law_cells", "_law_here", "_law_k", "_law_at", "_law_giver", "_law_taker", "_law_amount"] ["_law_row", "_law_cells"] (defScope s__law_pulled) := ⟨rfl, rfl, rfl, by decide +kernel, rfl, by decide +kernel, by decide +kernel⟩
theorem ok_pulled (D : DefIn K mg "_law_pulled" s__law_pulled) (T : Blt mg) : Callee P w K mg base CX0 1 "_law_pulled" ["_law_row", "_law_cells"] (spPulled K) := by
  refine callee_mk D sc__law_pulled (fun _ _ _ _ _ _ us hl => match us, hl with | [_, _], _ => rfl) (fun vs H Q E h => ?_) (fun f cdv A outer s H vs Q E hr h => ?_)
  · obtain ⟨r, c, rs, cs, rfl, _⟩ := h
    rfl
  · obtain ⟨r, c, rs, cs, rfl, hR, hC, hc1, hcr, kq⟩ := h
    refine ⟨_, (pss_cons (ps_set (i := 2) sc__law_pulled.nd rfl (Or.inl rfl) (pe_callTy call_list_of rfl T.list boot_list (pa_cons (pv 0) pa_nil)))
      (pss_cons (ps_for PassesOwn.never rfl (pi_range1 rfl T.range (pa_cons (pe_op op_fdiv (pe_callB call_len_seq rfl T.len PySem.boot_len (pa_cons (pv 1) pa_nil)) pe_int) pa_nil)) (pg_name (i := 3) sc__law_pulled.nd rfl (Or.inl rfl)) (pss_cons (ps_set (i := 4) sc__law_pulled.nd rfl (Or.inl rfl) (pe_op op_mod (pe_ix ix_list (pv 1) (pe_op op_add (pe_op op_mul pe_int (pv 3)) pe_int) (fun _ _ => rfl)) (pe_callB call_len_seq rfl T.len PySem.boot_len (pa_cons (pv 2) pa_nil))))
      (pss_cons (ps_set (i := 5) sc__law_pulled.nd rfl (Or.inl rfl) (pv 3))
      (pss_cons (ps_set (i := 6) sc__law_pulled.nd rfl (Or.inl rfl) (pv 4))
      (pss_cons (ps_if (pt_cmpR op_lt (pe_ix ix_list (pv 2) (pv 5) (fun _ _ => rfl)) (pe_ix ix_list (pv 2) (pv 6) (fun _ _ => rfl)) (nomark _)) (pss_cons (ps_set (i := 5) sc__law_pulled.nd rfl (Or.inl rfl) (pv 4))
      (pss_one (ps_set (i := 6) sc__law_pulled.nd rfl (Or.inl rfl) (pv 3)))) pss_nil)
      (pss_cons (ps_set (i := 7) sc__law_pulled.nd rfl (Or.inl rfl) (pe_op op_fdiv (pe_op op_mulB (pe_op op_sub (pe_ix ix_list (pv 2) (pv 5) (fun _ _ => rfl)) (pe_ix ix_list (pv 2) (pv 6) (fun _ _ => rfl))) (pe_op op_mod (pe_op op_mul (pe_ix ix_list (pv 1) (pe_op op_add (pe_op op_mul pe_int (pv 3)) pe_int) (fun _ _ => rfl)) pe_int) pe_int)) pe_int))
      (pss_cons (ps_asg (pe_op op_sub (pe_ix ix_list (pv 2) (pv 5) (fun _ _ => rfl)) (pv 7)) (pg_sub (pv 2) (pv 5) set_list))
      (pss_one (ps_asg (pe_op op_add (pe_ix ix_list (pv 2) (pv 6) (fun _ _ => rfl)) (pv 7)) (pg_sub (pv 2) (pv 6) set_list))))))))))
      (pss_one (ps_ret (pv 2))))), ?_⟩
    refine ⟨_, rfl, r, _, rfl, .inl hR, fun l hl0 => ?_⟩
    have s1 : Same H (upd H l (.lst (rs.map V.int))) := (Same.refl H).upd_new hl0
    have g1 : upd H l (.lst (rs.map V.int)) l = some (.lst (rs.map V.int)) := upd_same
    generalize upd H l (.lst (rs.map V.int)) = H1 at s1 g1 ⊢
    refine ⟨_, rfl, c, _, rfl, .inl (s1.seq hC), _, _, rfl, rfl, ⟨by decide, by decide⟩, _, rfl, (by rw [List.length_map]; omega), (by rw [List.length_map]; omega), ?_⟩
    refine for_range (lo := 0) (n := (((cs.map V.int).length : Nat) : Int) / 2 |>.toNat) (fun i σ H3 => ∃ (xs : List Int) (v3 v4 v5 v6 v7 : Option V), σ = [some (.ref r), some (.ref c), some (.ref l), v3, v4, v5, v6, v7] ∧ Same H H3 ∧ H3 l = some (.lst (xs.map V.int)) ∧ PwM.Like rs xs)
      ⟨rs, none, none, none, none, none, rfl, s1, g1, rfl, rfl⟩ ?_ ?_
    · rintro i σ H3 hi ⟨xs, v3, v4, v5, v6, v7, rfl, sH, hL, lk⟩
      rw [List.length_map] at hi
      have e0 : (0 : Int) + (i : Int) = (i : Int) := by omega
      rw [e0]
      have hi2 : 2 * i + 1 < cs.length := by omega
      have hix : i < xs.length := by rw [← lk.1]; omega
      have hC3 : SqL K H3 c (cs.map V.int) := sH.seq hC
      have ec : atI (cs.map V.int) (2 * (i : Int) + 1) = some (.int (cs.getD (2 * i + 1) 0)) := by
        rw [show (2 : Int) * (i : Int) + 1 = ((2 * i + 1 : Nat) : Int) from by omega]
        exact atI_map (getD_of hi2)
      refine ⟨_, rfl, _, rfl, _, _, rfl, rfl, .inl ⟨by decide, by decide⟩, _, _, rfl, rfl, c, _, _, _, rfl, rfl, hC3, ec, _, rfl, l, _, rfl, .inl (SqL.of hL), _, _, rfl, rfl, (by rw [List.length_map]; omega), ?_⟩
      dsimp only
      obtain ⟨b, hb, hb'⟩ := rest_nat7 (a := cs.getD (2 * i + 1) 0) (n := xs.length) (by omega)
      rw [List.length_map, hb]
      refine ⟨_, rfl, _, rfl, ?_⟩
      refine ⟨_, rfl, _, rfl, l, _, _, _, rfl, rfl, SqL.of hL, atI_map (getD_of hix), _, rfl, _, rfl, l, _, _, _, rfl, rfl, SqL.of hL, atI_map (getD_of hb'), _, _, rfl, rfl, _, rfl, ?_⟩
      refine if_join (fun σ' H' => ∃ g t : Nat, σ' = [some (.ref r), some (.ref c), some (.ref l), some (.int i), some (.int b), some (.int g), some (.int t), v7] ∧ H' = H3 ∧ g < xs.length ∧ t < xs.length) (fun _ R k => ?_) (fun _ => ⟨i, b, rfl, rfl, hix, hb'⟩) (fun σ' H' hP => ?_)
      · exact ⟨_, rfl, _, rfl, k _ _ ⟨b, i, rfl, rfl, hb', hix⟩⟩
      obtain ⟨g, t, rfl, rfl, hg, ht⟩ := hP
      refine ⟨_, rfl, _, rfl, l, _, _, _, rfl, rfl, SqL.of hL, atI_map (getD_of hg), _, rfl, _, rfl, l, _, _, _, rfl, rfl, SqL.of hL, atI_map (getD_of ht), _, _, rfl, rfl, _, rfl, _, rfl, _, _, rfl, rfl, .inl ⟨by decide, by decide⟩, _, _, rfl, rfl, c, _, _, _, rfl, rfl, hC3, ec, _, _, rfl, rfl, .inr ⟨by decide, by decide⟩, _, _, rfl, rfl, (by dsimp only; decide), _, _, rfl, rfl, ?_, _, _, rfl, rfl, ⟨by decide, by decide⟩, ?_⟩
      · refine IntMulOk.of_right (PySem.intBits_le_64 ?_ ?_) <;> omega
      dsimp only
      generalize (xs.getD g 0 - xs.getD t 0) * (cs.getD (2 * i + 1) 0 * 31 % 97) / 96 = d
      refine ⟨_, rfl, _, rfl, l, _, _, _, rfl, rfl, SqL.of hL, atI_map (getD_of hg), _, rfl, _, _, rfl, rfl, _, rfl, _, rfl, l, _, _, g, rfl, rfl, hL, ixN_nat (by rw [List.length_map]; exact hg), ?_⟩
      rw [← List.map_set]
      have ht2 : t < (xs.set g (xs.getD g 0 - d)).length := by rw [List.length_set]; exact ht
      refine ⟨_, rfl, _, rfl, l, _, _, _, rfl, rfl, SqL.of upd_same, atI_map (getD_of ht2), _, rfl, _, _, rfl, rfl, _, rfl, _, rfl, l, _, _, t, rfl, rfl, upd_same, ixN_nat (by rw [List.length_map]; exact ht2), ?_⟩
      rw [upd_upd, ← List.map_set]
      have lk2 := like_pull (d := d) hg ht
      refine ⟨_, _, _, _, _, _, rfl, fun b' o e => ?_, upd_same, lk.1.trans lk2.1, lk.2.trans lk2.2⟩
      rw [upd_ne (ne_of_none e hl0)]
      exact sH _ _ e
    · rintro σ H3 ⟨xs, v3, v4, v5, v6, v7, rfl, sH, hL, lk⟩
      exact ⟨_, rfl, kq l xs H3 hl0 sH hL lk⟩
def spOneBack (K : PySem.W.Frag) : Sp := fun vs H Q _ => ∃ (r : Addr) (rs : List Int), vs = [.ref r] ∧ SqL K H r (rs.map V.int) ∧ 0 < rs.length ∧ rs.length ≤ 100 ∧
  ∀ (l : Addr) (rs' : List Int) (H' : Hp), H l = none → Same H H' → H' l = some (.lst (rs'.map V.int)) → PwM.Like rs rs' → Q (.ref l) H'
theorem sc__law_one_back : FnScope ["_law_row", "_law_here", "_law_taker", "_law_giver"] ["_law_row"] (defScope s__law_one_back) := ⟨rfl, rfl, rfl, by decide +kernel, rfl, by decide +kernel, by decide +kernel⟩
theorem ok_oneback (D : DefIn K mg "_law_one_back" s__law_one_back) (T : Blt mg) : Callee P w K mg base CX0 1 "_law_one_back" ["_law_row"] (spOneBack K) := by
  refine callee_mk D sc__law_one_back (fun _ _ _ _ _ _ us hl => match us, hl with | [_], _ => rfl) (fun vs H Q E h => ?_) (fun f cdv A outer s H vs Q E hr h => ?_)
  · obtain ⟨r, rs, rfl, _⟩ := h
    rfl
  · obtain ⟨r, rs, rfl, hR, h0, h100, kq⟩ := h
    refine ⟨_, (pss_cons (ps_set (i := 1) sc__law_one_back.nd rfl (Or.inl rfl) (pe_callTy call_list_of rfl T.list boot_list (pa_cons (pv 0) pa_nil)))
      (pss_cons (ps_set (i := 2) sc__law_one_back.nd rfl (Or.inl rfl) (pe_bm PySem.F.plainAttrs_list PySem.F.slot_list_index PySem.F.type_list_index mt_index (pv 1) (pa_cons (pe_callB (call_maxL rfl) rfl T.max boot_max (pa_cons (pv 0) pa_nil)) pa_nil)))
      (pss_cons (ps_set (i := 3) sc__law_one_back.nd rfl (Or.inl rfl) (pe_bm PySem.F.plainAttrs_list PySem.F.slot_list_index PySem.F.type_list_index mt_index (pv 1) (pa_cons (pe_callB (call_minL rfl) rfl T.min boot_min (pa_cons (pv 0) pa_nil)) pa_nil)))
      (pss_cons (ps_asg (pe_op op_add (pe_ix ix_list (pv 1) (pv 2) (fun _ _ => rfl)) pe_int) (pg_sub (pv 1) (pv 2) set_list))
      (pss_cons (ps_asg (pe_op op_sub (pe_ix ix_list (pv 1) (pv 3) (fun _ _ => rfl)) pe_int) (pg_sub (pv 1) (pv 3) set_list))
      (pss_one (ps_ret (pv 1)))))))), ?_⟩
    refine ⟨_, rfl, r, _, rfl, .inl hR, fun l hl0 => ?_⟩
    have s1 : Same H (upd H l (.lst (rs.map V.int))) := (Same.refl H).upd_new hl0
    have g1 : upd H l (.lst (rs.map V.int)) l = some (.lst (rs.map V.int)) := upd_same
    generalize upd H l (.lst (rs.map V.int)) = H1 at s1 g1 ⊢
    refine ⟨_, rfl, .inl ⟨rfl, _, SqL.of g1⟩, _, rfl, r, rs, rfl, s1.seq hR, h0, fun m hm _ => ?_⟩
    refine ⟨l, rs, m, rfl, rfl, SqL.of g1, h100, hm, fun t ht _ => ?_⟩
    refine ⟨_, rfl, .inl ⟨rfl, _, SqL.of g1⟩, _, rfl, r, rs, rfl, s1.seq hR, h0, fun m2 hm2 _ => ?_⟩
    refine ⟨l, rs, m2, rfl, rfl, SqL.of g1, h100, hm2, fun g hg _ => ?_⟩
    refine ⟨_, rfl, _, rfl, l, _, _, _, rfl, rfl, SqL.of g1, atI_map (getD_of ht), _, _, rfl, rfl, _, rfl, _, rfl, l, _, _, t, rfl, rfl, g1, ixN_nat (by rw [List.length_map]; exact ht), ?_⟩
    rw [← List.map_set]
    have hg2 : g < (rs.set t (rs.getD t 0 + 1)).length := by rw [List.length_set]; exact hg
    refine ⟨_, rfl, _, rfl, l, _, _, _, rfl, rfl, SqL.of upd_same, atI_map (getD_of hg2), _, _, rfl, rfl, _, rfl, _, rfl, l, _, _, g, rfl, rfl, upd_same, ixN_nat (by rw [List.length_map]; exact hg2), ?_⟩
    rw [upd_upd, ← List.map_set]
    refine ⟨_, rfl, kq l _ _ hl0 (fun b o e => ?_) upd_same ⟨by simp, ?_⟩⟩
    · rw [upd_ne (ne_of_none e hl0)]
      exact s1 _ _ e
    · rw [PwM.sum_set hg2, PwM.sum_set ht]
      omega
/-- what a row built here is: fresh -/
theorem cut4 (ns : List Int) (hi : Option Int) (h : ns.length ≤ 63) : (cutI ns (some 4) hi).length ≤ 59 := by
  unfold cutI
  rw [show (some (4 : Int)) = some ((4 : Nat) : Int) from rfl, HT.sIx_nat, List.length_take, List.length_drop]
  omega
theorem perm_rot (xs : List Int) (k : Nat) : (xs.drop k ++ xs.take k).Perm xs := by
  refine List.perm_append_comm.trans ?_
  rw [List.take_append_drop]
theorem ins_sum (xs : List Int) (k : Nat) (z : Int) : (xs.take k ++ z :: xs.drop k).sum = xs.sum + z := by
  have : (xs.take k).sum + (xs.drop k).sum = xs.sum := by rw [← List.sum_append, List.take_append_drop]
  rw [List.sum_append, List.sum_cons]
  omega
theorem ins_length (xs : List Int) (k : Nat) (z : Int) : (xs.take k ++ z :: xs.drop k).length = xs.length + 1 := by
  rw [List.length_append, List.length_cons, List.length_take, List.length_drop]
  omega
def spPair (K : PySem.W.Frag) : Sp := fun vs H Q _ => ∃ (a : Addr) (ns : List Int), vs = [.ref a] ∧ Scr K H a ns ∧
  ∀ (t l1 l2 : Addr) (xs ys : List Int) (H' : Hp), Same H H' → H' t = some (.tup [.ref l1, .ref l2]) → H' l1 = some (.lst (xs.map V.int)) → H' l2 = some (.lst (ys.map V.int)) → PwM.Like xs ys → xs.length ≤ 60 → Q (.ref t) H'
theorem sc__law_pair : FnScope ["_law_script", "_law_small", "_law_cells", "_law_ones", "_law_others", "_law_rest"] ["_law_script"] (defScope s__law_pair) := ⟨rfl, rfl, rfl, by decide +kernel, rfl, by decide +kernel, by decide +kernel⟩
theorem ok_pair (D : DefIn K mg "_law_pair" s__law_pair) (T : Blt mg) (C__law_cell_at : Callee P w K mg base CX0 1 "_law_cell_at" ["_law_script", "_law_k"] (spCell K)) (C__law_purse : Callee P w K mg base CX0 1 "_law_purse" ["_law_cell", "_law_small"] spPurse) (C__law_pulled : Callee P w K mg base CX0 1 "_law_pulled" ["_law_row", "_law_cells"] (spPulled K)) (C__law_one_back : Callee P w K mg base CX0 1 "_law_one_back" ["_law_row"] (spOneBack K)) :
    Callee P w K mg base CX0 2 "_law_pair" ["_law_script"] (spPair K) := by
  refine callee_mk D sc__law_pair (fun _ _ _ _ _ _ us hl => match us, hl with | [_], _ => rfl) (fun vs H Q E h => ?_) (fun f cdv A outer s H vs Q E hr h => ?_)
  · obtain ⟨a, ns, rfl, _⟩ := h
    rfl
  · obtain ⟨a, ns, rfl, hS, kq⟩ := h
    refine ⟨_, (pss_cons (ps_set (i := 1) sc__law_pair.nd rfl (Or.inr rfl) (pe_cmpR op_eq (pe_op op_mod (pe_callC C__law_cell_at hr (by decide) rfl pass0 (pa_cons (pv 0) (pa_cons pe_int pa_nil))) pe_int) pe_int (nomark _)))
      (pss_cons (ps_set (i := 2) sc__law_pair.nd rfl (Or.inr rfl) (pe_slice sl_list (pv 0) (po_some pe_int) (po_some pe_int)))
      (pss_cons (ps_if (pt_cmpR op_eq (pe_op op_mod (pe_callC C__law_cell_at hr (by decide) rfl pass0 (pa_cons (pv 0) (pa_cons pe_int pa_nil))) pe_int) pe_int (nomark _)) (pss_one (ps_set (i := 2) sc__law_pair.nd rfl (Or.inr rfl) (pe_slice sl_list (pv 0) (po_some pe_int) (po_some (pe_op op_add pe_int (pe_op op_mod (pe_op op_fdiv (pe_callC C__law_cell_at hr (by decide) rfl pass0 (pa_cons (pv 0) (pa_cons pe_int pa_nil))) pe_int) pe_int)))))) pss_nil)
      (pss_cons (ps_if (pt_cmpR op_eq (pe_callB call_len_seq rfl T.len PySem.boot_len (pa_cons (pv 2) pa_nil)) pe_int (nomark _)) (pss_one (ps_ret (pe_tup (pa_cons (pe_lst pa_nil) (pa_cons (pe_lst pa_nil) pa_nil))))) pss_nil)
      (pss_cons (ps_setComp (i := 3) sc__law_pair.nd rfl rfl (N' := ["_law_k", "_law_small", "_law_cells"]) (fr := [none, some 1, some 2]) (.of rfl rfl) (pi_range1 rfl T.range (pa_cons (pe_op op_fdiv (pe_op op_add (pe_callB call_len_seq rfl T.len PySem.boot_len (pa_cons (pv 2) pa_nil)) pe_int) pe_int) pa_nil)) (fun _ _ _ _ => (pg_name (i := 0) (show (["_law_k", "_law_small", "_law_cells"] : List Str).Nodup from by decide +kernel) rfl (Or.inl rfl))) (fun _ _ _ _ => pf_nil) (fun _ _ _ _ => (pe_callC C__law_purse hr (by decide) rfl pass0 (pa_cons (pe_ix (ix_listK (K := K) rfl) (pv 2) (pe_op op_mul pe_int (pv 0)) (fun _ _ => rfl)) (pa_cons (pv 1) pa_nil)))))
      (pss_cons (ps_setComp (i := 4) sc__law_pair.nd rfl rfl (N' := ["_law_k", "_law_small", "_law_cells"]) (fr := [none, some 1, some 2]) (.of rfl rfl) (pi_range1 rfl T.range (pa_cons (pe_op op_fdiv (pe_callB call_len_seq rfl T.len PySem.boot_len (pa_cons (pv 2) pa_nil)) pe_int) pa_nil)) (fun _ _ _ _ => (pg_name (i := 0) (show (["_law_k", "_law_small", "_law_cells"] : List Str).Nodup from by decide +kernel) rfl (Or.inl rfl))) (fun _ _ _ _ => pf_nil) (fun _ _ _ _ => (pe_callC C__law_purse hr (by decide) rfl pass0 (pa_cons (pe_ix (ix_listK (K := K) rfl) (pv 2) (pe_op op_add (pe_op op_mul pe_int (pv 0)) pe_int) (fun _ _ => rfl)) (pa_cons (pv 1) pa_nil)))))
      (pss_cons (ps_if (pt_cmpR op_eq (pe_callB call_len_seq rfl T.len PySem.boot_len (pa_cons (pv 3) pa_nil)) (pe_callB call_len_seq rfl T.len PySem.boot_len (pa_cons (pv 4) pa_nil)) (nomark _)) (pss_one (ps_expr (pe_bm PySem.F.plainAttrs_list PySem.F.slot_list_append PySem.F.type_list_append mt_append (pv 3) (pa_cons (pe_callC C__law_purse hr (by decide) rfl pass0 (pa_cons (pe_callC C__law_cell_at hr (by decide) rfl pass0 (pa_cons (pv 0) (pa_cons pe_int pa_nil))) (pa_cons (pv 1) pa_nil))) pa_nil)))) pss_nil)
      (pss_cons (ps_set (i := 5) sc__law_pair.nd rfl (Or.inl rfl) (pe_op op_sub (pe_callB (call_sum rfl) rfl T.sum boot_sum (pa_cons (pv 3) pa_nil)) (pe_callB (call_sum rfl) rfl T.sum boot_sum (pa_cons (pv 4) pa_nil))))
      (pss_cons (ps_expr (pe_bm PySem.F.plainAttrs_list PySem.F.slot_list_insert PySem.F.type_list_insert mt_insert (pv 4) (pa_cons (pe_op op_mod (pe_op op_fdiv (pe_callC C__law_cell_at hr (by decide) rfl pass0 (pa_cons (pv 0) (pa_cons pe_int pa_nil))) pe_int) (pe_op op_add (pe_callB call_len_seq rfl T.len PySem.boot_len (pa_cons (pv 4) pa_nil)) pe_int)) (pa_cons (pv 5) pa_nil))))
      (pss_cons (ps_if (pt_cmpR op_gt (pe_op op_mod (pe_callC C__law_cell_at hr (by decide) rfl pass0 (pa_cons (pv 0) (pa_cons pe_int pa_nil))) pe_int) pe_int (nomark _)) (pss_one (ps_set (i := 4) sc__law_pair.nd rfl (Or.inl rfl) (pe_callC C__law_pulled hr (by decide) rfl pass0 (pa_cons (pv 3) (pa_cons (pv 2) pa_nil))))) pss_nil)
      (pss_cons (ps_if (pt_cmpR op_eq (pe_op op_mod (pe_callC C__law_cell_at hr (by decide) rfl pass0 (pa_cons (pv 0) (pa_cons pe_int pa_nil))) pe_int) pe_int (nomark _)) (pss_one (ps_set (i := 4) sc__law_pair.nd rfl (Or.inl rfl) (pe_callC C__law_one_back hr (by decide) rfl pass0 (pa_cons (pv 4) pa_nil)))) pss_nil)
      (pss_cons (ps_if (pt_cmpR op_eq (pe_op op_mod (pe_op op_fdiv (pe_callC C__law_cell_at hr (by decide) rfl pass0 (pa_cons (pv 0) (pa_cons pe_int pa_nil))) pe_int) pe_int) pe_int (nomark _)) (pss_one (ps_ret (pe_tup (pa_cons (pe_op op_cat (pv 3) (pv 3)) (pa_cons (pe_op op_cat (pv 4) (pv 4)) pa_nil))))) pss_nil)
      (pss_one (ps_ret (pe_tup (pa_cons (pv 3) (pa_cons (pv 4) pa_nil))))))))))))))))), ?_⟩
    -- small
    refine ⟨_, rfl, a, ns, 0, rfl, hS.sq, _, _, rfl, rfl, (by dsimp only; decide), rfl, ?_⟩
    dsimp only
    generalize decide (V.int (ns.getD 0 0 % 3) = V.int 1) = sm
    -- cells = script[4:63]
    refine ⟨_, rfl, _, rfl, _, rfl, a, _, rfl, hS.sq, fun c0 hc0 => ?_⟩
    rw [cutV_map]
    have cl0 := cut4 ns (some 63) hS.len
    generalize cutI ns (some 4) (some 63) = cs0 at cl0 ⊢
    have s0 : Same H (upd H c0 (.lst (cs0.map V.int))) := (Same.refl H).upd_new hc0
    have hcc : upd H c0 (.lst (cs0.map V.int)) c0 = some (.lst (cs0.map V.int)) := upd_same
    generalize upd H c0 (.lst (cs0.map V.int)) = H0 at s0 hcc ⊢
    refine ⟨_, rfl, a, ns, 1, rfl, s0.seq hS.sq, _, _, rfl, rfl, (by dsimp only; decide), rfl, _, rfl, ?_⟩
    refine if_join (fun σ' H' => ∃ (c : Addr) (cs : List Int), σ' = [some (.ref a), some (.bl sm), some (.ref c), none, none, none] ∧ Same H H' ∧ H' c = some (.lst (cs.map V.int)) ∧ cs.length ≤ 59) (fun hb R kk => ?_) (fun hb => ⟨c0, cs0, rfl, s0, hcc, cl0⟩) (fun σ' H1 hP => ?_)
    · refine ⟨_, rfl, _, rfl, _, rfl, a, ns, 1, rfl, s0.seq hS.sq, _, _, rfl, rfl, ⟨by decide, by decide⟩, _, _, rfl, rfl, (by dsimp only; decide), _, _, rfl, rfl, _, rfl, a, _, rfl, s0.seq hS.sq, fun c1 hc1 => ?_⟩
      rw [cutV_map]
      exact kk _ _ ⟨c1, _, rfl, s0.trans ((Same.refl H0).upd_new hc1), upd_same, cut4 _ _ hS.len⟩
    obtain ⟨c, cs, rfl, s1, hc1, cl⟩ := hP
    -- if len(cells) == 0
    refine ⟨_, rfl, c, _, rfl, .inl (SqL.of hc1), rfl, _, rfl, ?_⟩
    refine ite2 (fun hb => ?_) (fun hb => ?_)
    · refine ⟨Nat.zero_le _, fun l1 h1 => ⟨Nat.zero_le _, fun l2 h2 => ⟨(by show 2 ≤ sizeLine; decide), fun t ht => ?_⟩⟩⟩
      have n1 : l1 ≠ l2 := ne_of_none upd_same h2
      have n2 : l1 ≠ t := ne_of_none (by rw [upd_ne n1, upd_same]) ht
      have n3 : l2 ≠ t := ne_of_none upd_same ht
      have h2' : H1 l2 = none := by rw [upd_ne (Ne.symm n1)] at h2; exact h2
      have ht' : H1 t = none := by rw [upd_ne (Ne.symm n3), upd_ne (Ne.symm n2)] at ht; exact ht
      refine kq t l1 l2 [] [] _ (((s1.upd_new (s1.free h1)).upd_new (s1.free h2')).upd_new (s1.free ht')) upd_same (by rw [upd_ne n2, upd_ne n1, upd_same]; rfl) (by rw [upd_ne n3, upd_same]; rfl) ⟨rfl, rfl⟩ (Nat.zero_le _)
    have hcpos : 0 < cs.length := by
      rcases Nat.eq_zero_or_pos cs.length with z | z
      · exact absurd (decide_eq_true (by rw [List.length_map, z]; rfl)) hb
      · exact z
    -- ones
    refine ⟨_, rfl, c, _, rfl, .inl (SqL.of hc1), _, _, rfl, rfl, _, _, rfl, rfl, ⟨by decide, by decide⟩, _, rfl, (by rw [List.length_map]; omega), (by rw [List.length_map]; omega), fun l1 hl1 => ?_⟩
    dsimp only
    rw [List.length_map]
    refine comp_range (lo := 0) (n := (((cs.length : Nat) : Int) + 1) / 2 |>.toNat) (fun i σ H3 => ∃ (v : Option V) (xs : List Int), σ = [v, some (.bl sm), some (.ref c)] ∧ Same H1 H3 ∧ H3 l1 = some (.lst (xs.map V.int)) ∧ xs.length = i)
      ⟨none, [], rfl, (Same.refl H1).upd_new hl1, by rw [upd_same]; rfl, rfl⟩ ?_ ?_
    · rintro i σ H3 hi ⟨v, xs, rfl, sH, hL, hxl⟩
      have e0 : (0 : Int) + (i : Int) = (i : Int) := by omega
      rw [e0]
      have hi2 : 2 * i < cs.length := by omega
      dsimp only [gName, tTrue]
      rw [if_pos rfl]
      refine ⟨_, rfl, _, rfl, _, _, rfl, rfl, .inl ⟨by decide, by decide⟩, c, _, _, .int (cs.getD (2 * i) 0), rfl, rfl, SqL.of (sH _ _ hc1), ?_, _, rfl, _, _, rfl, fun z => ?_⟩
      · rw [show (2 : Int) * (i : Int) = ((2 * i : Nat) : Int) from by omega]
        exact atI_map (getD_of hi2)
      · refine ⟨_, hL, small1000 (by rw [List.length_map]; omega), _, xs ++ [z], rfl, ?_, ?_, by simp [hxl]⟩
        · intro b o e
          rw [upd_ne (ne_of_none e hl1)]
          exact sH _ _ e
        · rw [upd_same, List.map_append]
          rfl
    rintro σ H3 ⟨v, xs, rfl, sH3, hL1, hxl⟩
    have hc3 := sH3 _ _ hc1
    have s3 := s1.trans sH3
    have hl1H : H l1 = none := s1.free hl1
    -- others
    refine ⟨_, rfl, c, _, rfl, .inl (SqL.of hc3), _, _, rfl, rfl, ⟨by decide, by decide⟩, _, rfl, (by rw [List.length_map]; omega), (by rw [List.length_map]; omega), fun l2 hl2 => ?_⟩
    dsimp only
    rw [List.length_map]
    have n12 : l1 ≠ l2 := ne_of_none hL1 hl2
    refine comp_range (lo := 0) (n := ((cs.length : Nat) : Int) / 2 |>.toNat) (fun i σ H4 => ∃ (v : Option V) (ys : List Int), σ = [v, some (.bl sm), some (.ref c)] ∧ Same H3 H4 ∧ H4 l2 = some (.lst (ys.map V.int)) ∧ ys.length = i)
      ⟨none, [], rfl, (Same.refl H3).upd_new hl2, by rw [upd_same]; rfl, rfl⟩ ?_ ?_
    · rintro i σ H4 hi ⟨v, ys, rfl, sH, hL, hyl⟩
      have e0 : (0 : Int) + (i : Int) = (i : Int) := by omega
      rw [e0]
      have hi2 : 2 * i + 1 < cs.length := by omega
      dsimp only [gName, tTrue]
      rw [if_pos rfl]
      refine ⟨_, rfl, _, rfl, _, _, rfl, rfl, .inl ⟨by decide, by decide⟩, _, _, rfl, rfl, c, _, _, .int (cs.getD (2 * i + 1) 0), rfl, rfl, SqL.of (sH _ _ hc3), ?_, _, rfl, _, _, rfl, fun z => ?_⟩
      · rw [show (2 : Int) * (i : Int) + 1 = ((2 * i + 1 : Nat) : Int) from by omega]
        exact atI_map (getD_of hi2)
      · refine ⟨_, hL, small1000 (by rw [List.length_map]; omega), _, ys ++ [z], rfl, ?_, ?_, by simp [hyl]⟩
        · intro b o e
          rw [upd_ne (ne_of_none e hl2)]
          exact sH _ _ e
        · rw [upd_same, List.map_append]
          rfl
    rintro σ H4 ⟨v2, ys, rfl, sH4, hL2, hyl⟩
    have hL14 := sH4 _ _ hL1
    have s4 := s3.trans sH4
    have hc4 := sH4 _ _ hc3
    have nc1 : c ≠ l1 := ne_of_none hc1 hl1
    have nc2 : c ≠ l2 := ne_of_none hc3 hl2
    have hl2H : H l2 = none := s3.free hl2
    -- if len(ones) == len(others): ones.append(..)
    refine ⟨_, rfl, l1, _, rfl, .inl (SqL.of hL14), _, rfl, l2, _, rfl, .inl (SqL.of hL2), rfl, _, rfl, ?_⟩
    refine if_join (fun σ' H' => ∃ xs : List Int, σ' = [some (.ref a), some (.bl sm), some (.ref c), some (.ref l1), some (.ref l2), none] ∧ Same H H' ∧ H' l1 = some (.lst (xs.map V.int)) ∧ H' l2 = some (.lst (ys.map V.int)) ∧ xs.length = ys.length + 1 ∧ H' c = some (.lst (cs.map V.int))) (fun hb R kk => ?_) (fun hb => ?_) (fun σ' H5 hP => ?_)
    · have hb' : xs.length = ys.length := by
        have := V.int.inj (of_decide_eq_true hb)
        rw [List.length_map, List.length_map] at this
        omega
      refine ⟨_, rfl, .inl ⟨rfl, _, SqL.of hL14⟩, _, rfl, a, ns, 2, rfl, s4.seq hS.sq, _, rfl, _, _, rfl, fun z => ?_⟩
      refine ⟨l1, _, _, rfl, rfl, hL14, small1000 (by rw [List.length_map]; omega), ?_⟩
      refine kk _ _ ⟨xs ++ [z], rfl, s4.upd_new hl1H, ?_, by rw [upd_ne (Ne.symm n12)]; exact hL2, by simp; omega, by rw [upd_ne nc1]; exact hc4⟩
      rw [upd_same, List.map_append]
      rfl
    · have hb' : xs.length ≠ ys.length := fun z => by
        rw [decide_eq_true (by rw [List.length_map, List.length_map, z])] at hb
        cases hb
      exact ⟨xs, rfl, s4, hL14, hL2, by omega, hc4⟩
    clear hxl hL1 hL14 hL2 sH4 sH3 hc3 s4 hc4
    clear xs
    obtain ⟨xs, rfl, s5, hX5, hY5, hxl, hc5⟩ := hP
    -- rest
    refine ⟨_, rfl, l1, xs, rfl, SqL.of hX5, _, rfl, l2, ys, rfl, SqL.of hY5, _, _, rfl, rfl, ?_⟩
    -- others.insert
    refine ⟨_, rfl, .inl ⟨rfl, _, SqL.of hY5⟩, _, rfl, a, ns, 3, rfl, s5.seq hS.sq, _, _, rfl, rfl, ⟨by decide, by decide⟩, _, rfl, l2, _, rfl, .inl (SqL.of hY5), _, _, rfl, rfl, _, _, rfl, rfl, (by rw [List.length_map]; omega), _, rfl, ?_⟩
    dsimp only
    obtain ⟨j, hj, hj'⟩ := rest_nat7 (a := ns.getD 3 0 / 28) (n := ys.length + 1) (by omega)
    rw [List.length_map, show ((ys.length : Nat) : Int) + 1 = ((ys.length + 1 : Nat) : Int) from by omega, hj]
    refine ⟨l2, _, j, _, rfl, rfl, hY5, (by rw [List.length_map]; omega), (by rw [List.length_map]; omega), ?_⟩
    have hX6 : upd H5 l2 (.lst ((ys.map V.int).take j ++ V.int (xs.sum - ys.sum) :: (ys.map V.int).drop j)) l1 = some (.lst (xs.map V.int)) := by rw [upd_ne n12]; exact hX5
    have hY6 : upd H5 l2 (.lst ((ys.map V.int).take j ++ V.int (xs.sum - ys.sum) :: (ys.map V.int).drop j)) l2 = some (.lst ((ys.take j ++ (xs.sum - ys.sum) :: ys.drop j).map V.int)) := by
      rw [upd_same, List.map_append, List.map_cons, List.map_take, List.map_drop]
    have s6 : Same H (upd H5 l2 (.lst ((ys.map V.int).take j ++ V.int (xs.sum - ys.sum) :: (ys.map V.int).drop j))) := s5.upd_new hl2H
    have hc6 : upd H5 l2 (.lst ((ys.map V.int).take j ++ V.int (xs.sum - ys.sum) :: (ys.map V.int).drop j)) c = some (.lst (cs.map V.int)) := by rw [upd_ne nc2]; exact hc5
    generalize upd H5 l2 (.lst ((ys.map V.int).take j ++ V.int (xs.sum - ys.sum) :: (ys.map V.int).drop j)) = H6 at hX6 hY6 s6 hc6 ⊢
    have lk6 : PwM.Like xs (ys.take j ++ (xs.sum - ys.sum) :: ys.drop j) := ⟨by rw [ins_length]; exact hxl, by rw [ins_sum]; omega⟩
    generalize ys.take j ++ (xs.sum - ys.sum) :: ys.drop j = zs at hY6 lk6
    generalize xs.sum - ys.sum = rest
    have hx30 : xs.length ≤ 30 := by omega
    have hx0 : 0 < xs.length := by omega
    -- if .. % 4 > 0
    have hcl2 : cs.length / 2 ≤ xs.length := by omega
    refine ⟨_, rfl, a, ns, 3, rfl, s6.seq hS.sq, _, _, rfl, rfl, (by dsimp only; decide), _, _, rfl, rfl, _, rfl, ?_⟩
    refine if_join (fun σ' H' => ∃ (l2 : Addr) (zs : List Int), σ' = [some (.ref a), some (.bl sm), some (.ref c), some (.ref l1), some (.ref l2), some (.int rest)] ∧ Same H H' ∧ H' l1 = some (.lst (xs.map V.int)) ∧ H' l2 = some (.lst (zs.map V.int)) ∧ PwM.Like xs zs) (fun hb R kk => ?_) (fun hb => ⟨l2, zs, rfl, s6, hX6, hY6, lk6⟩) (fun σ' H7 hP => ?_)
    · refine ⟨_, rfl, _, rfl, l1, c, xs, cs, rfl, SqL.of hX6, SqL.of hc6, (by omega), hcl2, fun p1 rs' H8 hp1 s8 hp8 lk8 => ?_⟩
      exact kk _ _ ⟨p1, rs', rfl, s6.trans s8, s8 _ _ hX6, hp8, lk8⟩
    clear hX6 hY6 lk6 hY5 hl2H n12 s6 hc6 hc5 nc2
    clear hX5 zs
    obtain ⟨l2, zs, rfl, s7, hX7, hY7, lk7⟩ := hP
    -- if .. % 4 == 3
    refine ⟨_, rfl, a, ns, 3, rfl, s7.seq hS.sq, _, _, rfl, rfl, (by dsimp only; decide), rfl, _, rfl, ?_⟩
    refine if_join (fun σ' H' => ∃ (l2 : Addr) (zs : List Int), σ' = [some (.ref a), some (.bl sm), some (.ref c), some (.ref l1), some (.ref l2), some (.int rest)] ∧ Same H H' ∧ H' l1 = some (.lst (xs.map V.int)) ∧ H' l2 = some (.lst (zs.map V.int)) ∧ PwM.Like xs zs) (fun hb R kk => ?_) (fun hb => ⟨l2, zs, rfl, s7, hX7, hY7, lk7⟩) (fun σ' H8 hP => ?_)
    · refine ⟨_, rfl, l2, zs, rfl, SqL.of hY7, (by rw [← lk7.1]; exact hx0), (by rw [← lk7.1]; omega), fun p1 rs' H8 hp1 s8 hp8 lk8 => ?_⟩
      exact kk _ _ ⟨p1, rs', rfl, s7.trans s8, s8 _ _ hX7, hp8, lk7.1.trans lk8.1, lk7.2.trans lk8.2⟩
    clear hX7 hY7 lk7 s7
    obtain ⟨l2, zs, rfl, s8, hX8, hY8, lk8⟩ := hP
    have hz := lk8.1
    -- if .. // 4 % 7 == 1
    refine ⟨_, rfl, a, ns, 3, rfl, s8.seq hS.sq, _, _, rfl, rfl, ⟨by decide, by decide⟩, _, _, rfl, rfl, (by dsimp only; decide), rfl, _, rfl, ?_⟩
    refine ite2 (fun hb => ?_) (fun hb => ?_)
    · refine ⟨_, rfl, _, rfl, l1, l1, _, _, rfl, rfl, hX8, hX8, Nat.le_of_lt (small1000 (by rw [List.length_map]; omega)), fun p1 hp1 => ?_⟩
      have m1 : l2 ≠ p1 := ne_of_none hY8 hp1
      have hY9 : upd H8 p1 (.lst (xs.map V.int ++ xs.map V.int)) l2 = some (.lst (zs.map V.int)) := by rw [upd_ne m1]; exact hY8
      refine ⟨_, rfl, _, rfl, l2, l2, _, _, rfl, rfl, hY9, hY9, Nat.le_of_lt (small1000 (by rw [List.length_map]; omega)), fun p2 hp2 => ?_⟩
      have m2 : p1 ≠ p2 := ne_of_none upd_same hp2
      refine ⟨(by show 2 ≤ sizeLine; decide), fun t ht => ?_⟩
      have m3 : p2 ≠ t := ne_of_none upd_same ht
      have m4 : p1 ≠ t := ne_of_none (by rw [upd_ne m2, upd_same]) ht
      have s9 := s8.upd_new (o := .lst (xs.map V.int ++ xs.map V.int)) (s8.free hp1)
      have s10 := s9.upd_new (o := .lst (zs.map V.int ++ zs.map V.int)) (s9.free hp2)
      exact kq t p1 p2 (xs ++ xs) (zs ++ zs) _ (s10.upd_new (s10.free ht)) upd_same (by rw [upd_ne m4, upd_ne m2, upd_same, List.map_append]) (by rw [upd_ne m3, upd_same, List.map_append]) ⟨by simp [lk8.1], by simp [lk8.2]⟩ (by simp; omega)
    · refine ⟨_, rfl, _, rfl, (by show 2 ≤ sizeLine; decide), fun t ht => ?_⟩
      exact kq t l1 l2 xs zs _ (s8.upd_new (s8.free ht)) upd_same (by rw [upd_ne (ne_of_none hX8 ht)]; exact hX8) (by rw [upd_ne (ne_of_none hY8 ht)]; exact hY8) lk8 (by omega)
end
end K07

set_option Elab.async false
set_option linter.all false
set_option maxRecDepth 100000
set_option maxHeartbeats 4000000
namespace K07
open PySem L2 PyProof.Rows
open Builtin.Int (intBits)
section
variable {P : Program} {w : World} {K : PySem.W.Frag} {mg : Str → Option Value} {base : Heap}
/-! ### _law_no_way, _law_good -/
def spNoWay (K : PySem.W.Frag) (L : LamAt) : Sp := fun vs H Q _ => ∃ (a b : Addr) (ns ms : List Int) (k : Nat), vs = [.ref a, .ref b, .int k] ∧ SqL K H a (ns.map V.int) ∧ SqL K H b (ms.map V.int) ∧ ns.length < 64 ∧ PwM.Like ns ms ∧ PwM.IsGap ns ms (some k) ∧ Tab L H ∧ ∀ H', Same H H' → Q (.bl true) H'
theorem sc__law_no_way : FnScope ["_law_one", "_law_other", "_law_due", "_law_handed", "_law_told", "_law_named", "e", "_law_based"] ["_law_one", "_law_other", "_law_due"] (defScope s__law_no_way) := ⟨rfl, rfl, rfl, by decide +kernel, rfl, by decide +kernel, by decide +kernel⟩
theorem ok_noway {cG cU cN cT cP fI : Addr} {L : LamAt} (D : DefIn K mg "_law_no_way" s__law_no_way) (T : Blt mg) (ER : ErrsG K mg cG cU cN cT cP fI) (C_way : Callee P w K mg base (CX1 P w) 4 "way" ["one", "other"] (spWay7 K cG L)) (C__law_whole : Callee P w K mg base CX0 1 "_law_whole" ["_law_found"] spWhole) :
    Callee P w K mg base CX0 5 "_law_no_way" ["_law_one", "_law_other", "_law_due"] (spNoWay K L) := by
  have R_Gap := ER.rG
  have R_NoGift := ER.rN
  have R_NoText := ER.rT
  have R_Unlike := ER.rU
  have R_PurseError := ER.rP
  have vE := ER.ve
  refine callee_mk D sc__law_no_way (fun _ _ _ _ _ _ us hl => match us, hl with | [_, _, _], _ => rfl) (fun vs H Q E h => ?_) (fun f cdv A outer s H vs Q E hr h => ?_)
  · obtain ⟨a, b, ns, ms, k, rfl, _⟩ := h
    rfl
  · obtain ⟨a, b, ns, ms, k, rfl, h1, h2, l1, lk, hg, hT, kq⟩ := h
    have hu := hr.units
    refine ⟨_, (pss_cons (ps_set (i := 3) sc__law_no_way.nd rfl (Or.inl rfl) (pe_lst (pa_cons (pe_callTy call_list_of rfl T.list boot_list (pa_cons (pv 0) pa_nil)) (pa_cons (pe_callTy call_list_of rfl T.list boot_list (pa_cons (pv 1) pa_nil)) pa_nil))))
      (pss_cons (ps_set (i := 4) sc__law_no_way.nd rfl (Or.inl rfl) pe_non)
      (pss_cons (ps_set (i := 5) sc__law_no_way.nd rfl (Or.inl rfl) pe_int)
      (pss_cons (ps_tryE C_way hr (by decide) rfl (pa_cons (pe_ix ix_list (pv 3) pe_int (fun _ _ => rfl)) (pa_cons (pe_ix ix_list (pv 3) pe_int (fun _ _ => rfl)) pa_nil)) (ph_plain rfl R_NoGift.mg (fun _ => (pss_one (ps_set (i := 5) sc__law_no_way.nd rfl (Or.inl rfl) pe_int))) (ph_plain rfl R_Unlike.mg (fun _ => (pss_one (ps_set (i := 5) sc__law_no_way.nd rfl (Or.inl rfl) pe_int))) (ph_plain rfl R_NoText.mg (fun _ => (pss_one (ps_set (i := 5) sc__law_no_way.nd rfl (Or.inl rfl) pe_int))) (ph_as (j := 6) sc__law_no_way.nd rfl rfl rfl R_Gap.mg (fun _ => (pss_cons (ps_set (i := 4) sc__law_no_way.nd rfl (Or.inl rfl) (pe_excAt (K := K) rfl (pv 6) rfl))
      (pss_one (ps_set (i := 5) sc__law_no_way.nd rfl (Or.inl rfl) pe_int)))) ph_nil)))) (fun _ _ z => z) rfl ⟨rfl, rfl⟩)
      (pss_cons (ps_set (i := 7) sc__law_no_way.nd rfl (Or.inl rfl) pe_bl)
      (pss_cons (ps_tryE C_way hr (by decide) rfl (pa_cons (pe_ix ix_list (pv 3) pe_int (fun _ _ => rfl)) (pa_cons (pe_ix ix_list (pv 3) pe_int (fun _ _ => rfl)) pa_nil)) (ph_as (j := 6) sc__law_no_way.nd rfl rfl rfl R_PurseError.mg (fun _ => (pss_one (ps_set (i := 7) sc__law_no_way.nd rfl (Or.inl rfl) (pe_callB (call_isinstXD (K := K) rfl) rfl T.isinstance boot_isinstance (pa_cons (pv 6) (pa_cons (pe_bltn (v := .ty "ValueError") rfl vE PyProof.Rows.Boot.«ValueError» rfl) pa_nil)))))) ph_nil) (fun _ _ z => z) rfl ⟨rfl, rfl⟩)
      (pss_one (ps_ret (pe_and (pe_cmpR op_eq (pv 5) pe_int (nomark _)) (pe_and (pv 7) (pe_and (pe_callC C__law_whole hr (by decide) rfl pass0 (pa_cons (pv 4) pa_nil)) (pe_and (pe_cmpR op_eq (pv 4) (pv 2) (nomark _)) (pe_one (pe_cmpR (op_eqLL hu) (pv 3) (pe_lst (pa_cons (pv 0) (pa_cons (pv 1) pa_nil))) (nomark _))))))))))))))), ?_⟩
    refine ⟨_, rfl, a, _, rfl, .inl h1, fun p1 hp1 => ?_⟩
    have s1 : Same H (upd H p1 (.lst (ns.map V.int))) := (Same.refl H).upd_new hp1
    have g1 : upd H p1 (.lst (ns.map V.int)) p1 = some (.lst (ns.map V.int)) := upd_same
    generalize upd H p1 (.lst (ns.map V.int)) = H1 at s1 g1 ⊢
    refine ⟨_, rfl, b, _, rfl, .inl (s1.seq h2), fun p2 hp2 => ?_⟩
    have s2 : Same H1 (upd H1 p2 (.lst (ms.map V.int))) := (Same.refl H1).upd_new hp2
    have g2 : upd H1 p2 (.lst (ms.map V.int)) p2 = some (.lst (ms.map V.int)) := upd_same
    generalize upd H1 p2 (.lst (ms.map V.int)) = H2 at s2 g2 ⊢
    refine ⟨(by show 2 ≤ sizeLine; decide), fun hd hd0 => ?_⟩
    have s3 : Same H2 (upd H2 hd (.lst [.ref p1, .ref p2])) := (Same.refl H2).upd_new hd0
    have g3 : upd H2 hd (.lst [.ref p1, .ref p2]) hd = some (.lst [.ref p1, .ref p2]) := upd_same
    generalize upd H2 hd (.lst [.ref p1, .ref p2]) = H3 at s3 g3 ⊢
    have s03 := (s1.trans s2).trans s3
    have q1 := s3 _ _ (s2 _ _ g1)
    have q2 := s3 _ _ g2
    have hT3 := hT.same s03
    refine ⟨_, rfl, hd, _, _, _, rfl, rfl, SqL.of g3, rfl, _, rfl, hd, _, _, _, rfl, rfl, SqL.of g3, rfl, p1, p2, ns, ms, some k, rfl, SqL.of q1, SqL.of q2, l1, lk, hg, hT3, (fun z => nomatch z), fun k' ek dx H4 hdx s4 gx => ?_⟩
    cases ek
    refine ⟨cG, rfl, false, ER.xN, iteF ⟨false, ER.xU, iteF ⟨false, ER.xT, iteF ⟨true, ER.xG, iteT fun e he => ?_⟩⟩⟩⟩
    have s5 : Same H4 (upd H4 e (excO e cG (some dx))) := (Same.refl H4).upd_new he
    have g5 : upd H4 e (excO e cG (some dx)) e = some (excO e cG (some dx)) := upd_same
    generalize upd H4 e (excO e cG (some dx)) = H5 at s5 g5 ⊢
    refine ⟨_, rfl, e, cG, dx, _, .int (k : Nat), rfl, g5, s5 _ _ gx, ER.kx, ER.hd, ER.ic.at_, rfl, ?_⟩
    have s35 := s4.trans s5
    have e3 := s35 _ _ g3
    have e1 := s35 _ _ q1
    have e2 := s35 _ _ q2
    refine ⟨_, rfl, hd, _, _, _, rfl, rfl, SqL.of e3, rfl, _, rfl, hd, _, _, _, rfl, rfl, SqL.of e3, rfl, p1, p2, ns, ms, some k, rfl, SqL.of e1, SqL.of e2, l1, lk, hg, hT3.same s35, (fun z => nomatch z), fun k' ek dx2 H6 hdx2 s6 gx2 => ?_⟩
    cases ek
    refine ⟨cG, rfl, true, ER.xP, iteT fun e2' he2 => ?_⟩
    have s7 : Same H6 (upd H6 e2' (excO e2' cG (some dx2))) := (Same.refl H6).upd_new he2
    have g7 : upd H6 e2' (excO e2' cG (some dx2)) e2' = some (excO e2' cG (some dx2)) := upd_same
    generalize upd H6 e2' (excO e2' cG (some dx2)) = H7 at s7 g7 ⊢
    refine ⟨_, rfl, e2', cG, dx2, _, _, _, true, rfl, rfl, fun u h => h, g7, s7 _ _ gx2, ER.kx, ER.kv, ?_⟩
    have s37 := s35.trans (s6.trans s7)
    refine ⟨_, rfl, rfl, true, (by show V.bl (decide _) = _; rw [decide_eq_true rfl]), iteT ?_⟩
    refine ⟨_, rfl, true, rfl, iteT ?_⟩
    refine ⟨_, rfl, _, rfl, true, rfl, iteT ?_⟩
    refine ⟨_, rfl, _, rfl, rfl, true, (by show V.bl (decide _) = _; rw [decide_eq_true rfl]), iteT ?_⟩
    refine ⟨_, rfl, _, rfl, _, rfl, (by show 2 ≤ sizeLine; decide), fun x hx => ?_⟩
    have s8 : Same H7 (upd H7 x (.lst [.ref a, .ref b])) := (Same.refl H7).upd_new hx
    have s38 := s37.trans s8
    have s08 := s03.trans s38
    exact ⟨hd, x, p1, p2, a, b, ns, ms, rfl, rfl, SqL.of (s38 _ _ g3), SqL.of upd_same, SqL.of (s38 _ _ q1), s08.seq h1, SqL.of (s38 _ _ q2), s08.seq h2, kq _ s08⟩
theorem gap_congr {ns ms ns' ms' : List Int} {o : Option Nat} (h : PwM.IsGap ns ms o) (p1 : ns'.Perm ns) (p2 : ms'.Perm ms) : PwM.IsGap ns' ms' o := by
  have a : ∀ k, PwM.Ahead ns' ms' k ↔ PwM.Ahead ns ms k := fun k => by unfold PwM.Ahead; rw [PwM.desc_congr p1, PwM.desc_congr p2]
  have l := p1.length_eq
  cases o with
  | none => exact fun k hk => by rw [a]; exact h k (by omega)
  | some k => exact ⟨by rw [l]; exact h.1, (a k).mpr h.2.1, fun j hj => by rw [a]; exact h.2.2 j hj⟩
theorem due_congr {ns ms ns' ms' : List Int} (p1 : ns'.Perm ns) (p2 : ms'.Perm ms) : (PwM.dueL ns' ms').sum = (PwM.dueL ns ms).sum := by
  unfold PwM.dueL PwM.moreL
  rw [PwM.desc_congr p1, PwM.desc_congr p2]
theorem tab_updL {T : LamAt} {H : Hp} {l : Addr} {xs : List V} {o : HO} (x : Tab T H) (h : H l = some (.lst xs)) : Tab T (upd H l o) := by
  rcases x with x | ⟨c, e, oc, vs, t, y, z⟩
  · exact .inl (by rw [upd_ne (fun q => by rw [q, h] at x; cases x)]; exact x)
  · exact .inr ⟨c, by rw [upd_ne (fun q => by rw [q, h] at e; cases e)]; exact e, oc, vs, t, by rw [upd_ne (fun q => by rw [q, h] at y; cases y)]; exact y, z⟩
theorem gifts_updL {H : Hp} {a l : Addr} {ps : List Addr} {gs : List Gv} {xs : List V} {o : HO} (x : GiftsH H a ps gs) (h : H l = some (.lst xs)) (ne : a ≠ l) : GiftsH (upd H l o) a ps gs :=
  ⟨by rw [upd_ne ne]; exact x.hA, x.len, fun i p g e1 e2 => by
    have e := x.at_ i p g e1 e2
    rw [upd_ne (fun q => by rw [q, h] at e; cases e)]
    exact e⟩
def spGood (K : PySem.W.Frag) (L : LamAt) : Sp := fun vs H Q _ => ∃ (a b : Addr) (ns ms : List Int), vs = [.ref a, .ref b] ∧ SqL K H a (ns.map V.int) ∧ SqL K H b (ms.map V.int) ∧ ns.length < 64 ∧ PwM.Like ns ms ∧ Tab L H ∧ ∀ H', SameT H H' → Tab L H' → Q (.bl true) H'
theorem sc__law_good : FnScope ["_law_one", "_law_other", "_law_handed", "_law_due", "_law_found", "_law_told", "_law_kept", "_law_again", "_law_turned"] ["_law_one", "_law_other"] (defScope s__law_good) := ⟨rfl, rfl, rfl, by decide +kernel, rfl, by decide +kernel, by decide +kernel⟩
theorem ok_good {cG cU cN cT cP fI : Addr} {L : LamAt} (D : DefIn K mg "_law_good" s__law_good) (T : Blt mg) (C_gap : Callee P w K mg base (CX1 P w) 2 "gap" ["one", "other"] (spGap K cU)) (C_way : Callee P w K mg base (CX1 P w) 4 "way" ["one", "other"] (spWay7 K cG L))
    (C__law_gap : Callee P w K mg base CX0 1 "_law_gap" ["_law_one", "_law_other"] (spGap0 K)) (C__law_whole : Callee P w K mg base CX0 1 "_law_whole" ["_law_found"] spWhole) (C__law_no_way : Callee P w K mg base CX0 5 "_law_no_way" ["_law_one", "_law_other", "_law_due"] (spNoWay K L))
    (C__law_leads : Callee P w K mg base CX0 3 "_law_leads" ["_law_one", "_law_other", "_law_gifts"] (spLeads K)) : Callee P w K mg base CX0 6 "_law_good" ["_law_one", "_law_other"] (spGood K L) := by
  refine callee_mk D sc__law_good (fun _ _ _ _ _ _ us hl => match us, hl with | [_, _], _ => rfl) (fun vs H Q E h => ?_) (fun f cdv A outer s H vs Q E hr h => ?_)
  · obtain ⟨a, b, ns, ms, rfl, _⟩ := h
    rfl
  · obtain ⟨a, b, ns, ms, rfl, h1, h2, l1, lk, hT, kq⟩ := h
    have hu := hr.units
    have l2 : ms.length < 64 := by rw [← lk.1]; exact l1
    refine ⟨_, (pss_cons (ps_set (i := 2) sc__law_good.nd rfl (Or.inl rfl) (pe_lst (pa_cons (pe_callTy call_list_of rfl T.list boot_list (pa_cons (pv 0) pa_nil)) (pa_cons (pe_callTy call_list_of rfl T.list boot_list (pa_cons (pv 1) pa_nil)) pa_nil))))
      (pss_cons (ps_set (i := 3) sc__law_good.nd rfl (Or.inl rfl) (pe_callC C__law_gap hr (by decide) rfl pass0 (pa_cons (pv 0) (pa_cons (pv 1) pa_nil))))
      (pss_cons (ps_set (i := 4) sc__law_good.nd rfl (Or.inl rfl) (pe_callC C_gap hr (by decide) rfl passN (pa_cons (pe_ix ix_list (pv 2) pe_int (fun _ _ => rfl)) (pa_cons (pe_ix ix_list (pv 2) pe_int (fun _ _ => rfl)) pa_nil))))
      (pss_cons (ps_if (pt_cmpR op_notN (pv 3) pe_non (nomark _)) (pss_one (ps_ret (pe_and (pe_callC C__law_whole hr (by decide) rfl pass0 (pa_cons (pv 4) pa_nil)) (pe_and (pe_cmpR op_eq (pv 4) (pv 3) (nomark _)) (pe_one (pe_callC C__law_no_way hr (by decide) rfl pass0 (pa_cons (pv 0) (pa_cons (pv 1) (pa_cons (pv 3) pa_nil))))))))) pss_nil)
      (pss_cons (ps_if (pt_cmpR op_notN (pv 4) pe_non (nomark _)) (pss_one (ps_ret pe_bl)) pss_nil)
      (pss_cons (ps_set (i := 5) sc__law_good.nd rfl (Or.inl rfl) (pe_callC C_way hr (by decide) rfl passN (pa_cons (pe_ix ix_list (pv 2) pe_int (fun _ _ => rfl)) (pa_cons (pe_ix ix_list (pv 2) pe_int (fun _ _ => rfl)) pa_nil))))
      (pss_cons (ps_if (PW.pt (pw_or (pt_not (pt_val (pe_callC C__law_leads hr (by decide) rfl pass0 (pa_cons (pv 0) (pa_cons (pv 1) (pa_cons (pv 5) pa_nil)))))) (pw_or1 (pt_cmpR (op_neLL hu) (pv 2) (pe_lst (pa_cons (pv 0) (pa_cons (pv 1) pa_nil))) (nomark _))))) (pss_one (ps_ret pe_bl)) pss_nil)
      (pss_cons (ps_set (i := 6) sc__law_good.nd rfl (Or.inl rfl) (pe_callTy call_list_of rfl T.list boot_list (pa_cons (pv 5) pa_nil)))
      (pss_cons (ps_expr (pe_bm0 PySem.F.plainAttrs_list PySem.F.slot_list_reverse PySem.F.type_list_reverse mt_reverse (pe_ix ix_list (pv 2) pe_int (fun _ _ => rfl))))
      (pss_cons (ps_expr (pe_bm0 PySem.F.plainAttrs_list PySem.F.slot_list_reverse PySem.F.type_list_reverse mt_reverse (pe_ix ix_list (pv 2) pe_int (fun _ _ => rfl))))
      (pss_cons (ps_set (i := 7) sc__law_good.nd rfl (Or.inl rfl) (pe_callC C_way hr (by decide) rfl passN (pa_cons (pe_ix ix_list (pv 2) pe_int (fun _ _ => rfl)) (pa_cons (pe_ix ix_list (pv 2) pe_int (fun _ _ => rfl)) pa_nil))))
      (pss_cons (ps_set (i := 8) sc__law_good.nd rfl (Or.inl rfl) (pe_callTy call_list_of rfl T.list boot_list (pa_cons (pv 0) pa_nil)))
      (pss_cons (ps_expr (pe_bm0 PySem.F.plainAttrs_list PySem.F.slot_list_reverse PySem.F.type_list_reverse mt_reverse (pv 8)))
      (pss_one (ps_ret (pe_and (pe_callC C__law_leads hr (by decide) rfl pass0 (pa_cons (pv 8) (pa_cons (pv 1) (pa_cons (pv 7) pa_nil)))) (pe_one (pe_cmpR (op_eqTT hu) (pv 5) (pv 6) (nomark _))))))))))))))))))), ?_⟩
    refine ⟨_, rfl, a, _, rfl, .inl h1, fun p1 hp1 => ?_⟩
    have s1 : Same H (upd H p1 (.lst (ns.map V.int))) := (Same.refl H).upd_new hp1
    have g1 : upd H p1 (.lst (ns.map V.int)) p1 = some (.lst (ns.map V.int)) := upd_same
    generalize upd H p1 (.lst (ns.map V.int)) = H1 at s1 g1 ⊢
    refine ⟨_, rfl, b, _, rfl, .inl (s1.seq h2), fun p2 hp2 => ?_⟩
    have s2 : Same H1 (upd H1 p2 (.lst (ms.map V.int))) := (Same.refl H1).upd_new hp2
    have g2 : upd H1 p2 (.lst (ms.map V.int)) p2 = some (.lst (ms.map V.int)) := upd_same
    have n12 : p1 ≠ p2 := ne_of_none g1 hp2
    generalize upd H1 p2 (.lst (ms.map V.int)) = H2 at s2 g2 ⊢
    refine ⟨(by show 2 ≤ sizeLine; decide), fun hd hd0 => ?_⟩
    have s3 : Same H2 (upd H2 hd (.lst [.ref p1, .ref p2])) := (Same.refl H2).upd_new hd0
    have g3 : upd H2 hd (.lst [.ref p1, .ref p2]) hd = some (.lst [.ref p1, .ref p2]) := upd_same
    generalize upd H2 hd (.lst [.ref p1, .ref p2]) = H3 at s3 g3 ⊢
    have s03 := (s1.trans s2).trans s3
    have q1 := s3 _ _ (s2 _ _ g1)
    have q2 := s3 _ _ g2
    have hp20 : H p2 = none := s1.free hp2
    refine ⟨_, rfl, _, rfl, a, b, ns, ms, rfl, s03.seq h1, s03.seq h2, l1, lk.1, fun o H4 ho s4 => ?_⟩
    have e3 := s4 _ _ g3
    have e1 := s4 _ _ q1
    have e2 := s4 _ _ q2
    refine ⟨_, rfl, hd, _, _, _, rfl, rfl, SqL.of e3, rfl, _, rfl, hd, _, _, _, rfl, rfl, SqL.of e3, rfl, p1, p2, ns, ms, rfl, SqL.of e1, SqL.of e2, l1, l2, fun _ o2 H5 ho2 s5 => ?_, fun z => absurd lk z⟩
    obtain rfl := ho.uniq ho2
    have s35 := s4.trans s5
    have s05 := s03.trans s35
    have f3 := s35 _ _ g3
    have f1 := s35 _ _ q1
    have f2 := s35 _ _ q2
    have hT5 := hT.same s05
    cases o with
    | some k =>
      refine ⟨_, rfl, rfl, _, rfl, ?_⟩
      rw [decide_eq_false (show ¬ optV (some k) = V.non from fun z => nomatch z)]
      refine iteT ⟨_, rfl, _, rfl, _, rfl, iteT ?_⟩
      refine ⟨_, rfl, _, rfl, rfl, true, (by show V.bl (decide _) = _; rw [decide_eq_true rfl]), iteT ?_⟩
      exact ⟨_, rfl, _, rfl, _, rfl, a, b, ns, ms, k, rfl, s05.seq h1, s05.seq h2, l1, lk, ho, hT5, fun H6 s6 => kq _ (s05.trans s6).T (hT5.same s6)⟩
    | none =>
      refine ⟨_, rfl, rfl, _, rfl, iteNS rfl ?_⟩
      refine ⟨_, rfl, rfl, _, rfl, iteNS rfl ?_⟩
      -- told
      refine ⟨_, rfl, hd, _, _, _, rfl, rfl, SqL.of f3, rfl, _, rfl, hd, _, _, _, rfl, rfl, SqL.of f3, rfl, p1, p2, ns, ms, none, rfl, SqL.of f1, SqL.of f2, l1, lk, ho, hT5, (fun _ tl ps gs here H6 htl0 s6 t6 hG hw hp ha hc => ?_), fun k z => nomatch z⟩
      have s06 := s05.T.trans s6
      refine ⟨_, rfl, _, rfl, _, rfl, a, b, tl, ns, ms, ps, gs, here, rfl, s06.seq h1, s06.seq h2, hG, l1, lk.1, hw, hp, ha, hc, fun H7 s7 => ?_⟩
      refine ⟨_, rfl, iteF ?_⟩
      have s57 := s6.trans s7.T
      have s07 := s05.T.trans s57
      refine ⟨_, rfl, _, rfl, _, rfl, (by show 2 ≤ sizeLine; decide), fun x hx => ?_⟩
      have s8 : Same H7 (upd H7 x (.lst [.ref a, .ref b])) := (Same.refl H7).upd_new hx
      have g8 : upd H7 x (.lst [.ref a, .ref b]) x = some (.lst [.ref a, .ref b]) := upd_same
      generalize upd H7 x (.lst [.ref a, .ref b]) = H8 at s8 g8 ⊢
      have s58 := s57.trans s8.T
      have s08 := s07.trans s8.T
      refine ⟨hd, x, p1, p2, a, b, ns, ms, rfl, rfl, SqL.of (s58.lst f3), SqL.of g8, SqL.of (s58.lst f1), s08.seq h1, SqL.of (s58.lst f2), s08.seq h2, _, rfl, iteF ?_⟩
      have t8 := (t6.same s7).same s8
      have G8 := hG.sameT (s7.trans s8).T
      -- kept
      refine ⟨_, rfl, tl, _, rfl, .inl (SqL.of G8.hA), fun kp hkp => ?_⟩
      have s9 : Same H8 (upd H8 kp (.lst (ps.map V.ref))) := (Same.refl H8).upd_new hkp
      have g9 : upd H8 kp (.lst (ps.map V.ref)) kp = some (.lst (ps.map V.ref)) := upd_same
      generalize upd H8 kp (.lst (ps.map V.ref)) = H9 at s9 g9 ⊢
      have s59 := s58.trans s9.T
      have s09 := s08.trans s9.T
      have k3 := s59.lst f3
      have k1 := s59.lst f1
      have k2 := s59.lst f2
      have G9 := G8.sameT s9.T
      have t9 := t8.same s9
      -- reverse
      have m1 : p1 ≠ hd := ne_of_none (s2 _ _ g1) hd0
      have m2 : p2 ≠ hd := ne_of_none g2 hd0
      have m3 : p1 ≠ tl := ne_of_none f1 htl0
      have m4 : p2 ≠ tl := ne_of_none f2 htl0
      have m5 : p1 ≠ kp := ne_of_none (s58.lst f1) hkp
      have m6 : p2 ≠ kp := ne_of_none (s58.lst f2) hkp
      refine ⟨_, rfl, hd, _, _, _, rfl, rfl, SqL.of k3, rfl, .inl ⟨rfl, _, SqL.of k1⟩, p1, _, rfl, rfl, k1, ?_⟩
      rw [← List.map_reverse]
      have sA : SameT H (upd H9 p1 (.lst (ns.reverse.map V.int))) := s09.upd_new hp1
      have a3 : upd H9 p1 (.lst (ns.reverse.map V.int)) hd = some (.lst [.ref p1, .ref p2]) := by rw [upd_ne (Ne.symm m1)]; exact k3
      have a1 : upd H9 p1 (.lst (ns.reverse.map V.int)) p1 = some (.lst (ns.reverse.map V.int)) := upd_same
      have a2 : upd H9 p1 (.lst (ns.reverse.map V.int)) p2 = some (.lst (ms.map V.int)) := by rw [upd_ne (Ne.symm n12)]; exact k2
      have a9 : upd H9 p1 (.lst (ns.reverse.map V.int)) kp = some (.lst (ps.map V.ref)) := by rw [upd_ne (Ne.symm m5)]; exact g9
      have aT := tab_updL (o := .lst (ns.reverse.map V.int)) t9 k1
      have aG := gifts_updL (o := .lst (ns.reverse.map V.int)) G9 k1 (Ne.symm m3)
      generalize upd H9 p1 (.lst (ns.reverse.map V.int)) = HA at sA a3 a1 a2 a9 aT aG ⊢
      refine ⟨_, rfl, hd, _, _, _, rfl, rfl, SqL.of a3, rfl, .inl ⟨rfl, _, SqL.of a2⟩, p2, _, rfl, rfl, a2, ?_⟩
      rw [← List.map_reverse]
      have sB : SameT H (upd HA p2 (.lst (ms.reverse.map V.int))) := sA.upd_new hp20
      have b3 : upd HA p2 (.lst (ms.reverse.map V.int)) hd = some (.lst [.ref p1, .ref p2]) := by rw [upd_ne (Ne.symm m2)]; exact a3
      have b1 : upd HA p2 (.lst (ms.reverse.map V.int)) p1 = some (.lst (ns.reverse.map V.int)) := by rw [upd_ne n12]; exact a1
      have b2 : upd HA p2 (.lst (ms.reverse.map V.int)) p2 = some (.lst (ms.reverse.map V.int)) := upd_same
      have b9 : upd HA p2 (.lst (ms.reverse.map V.int)) kp = some (.lst (ps.map V.ref)) := by rw [upd_ne (Ne.symm m6)]; exact a9
      have bT := tab_updL (o := .lst (ms.reverse.map V.int)) aT a2
      have bG := gifts_updL (o := .lst (ms.reverse.map V.int)) aG a2 (Ne.symm m4)
      generalize upd HA p2 (.lst (ms.reverse.map V.int)) = HB at sB b3 b1 b2 b9 bT bG ⊢
      have r1 := List.reverse_perm ns
      have r2 := List.reverse_perm ms
      have lkr : PwM.Like ns.reverse ms.reverse := ⟨by rw [r1.length_eq, r2.length_eq]; exact lk.1, by rw [PwM.perm_sum r1, PwM.perm_sum r2]; exact lk.2⟩
      have l1r : ns.reverse.length < 64 := by rw [r1.length_eq]; exact l1
      -- again
      refine ⟨_, rfl, hd, _, _, _, rfl, rfl, SqL.of b3, rfl, _, rfl, hd, _, _, _, rfl, rfl, SqL.of b3, rfl, p1, p2, ns.reverse, ms.reverse, none, rfl, SqL.of b1, SqL.of b2, l1r, lkr, gap_congr ho r1 r2, bT, (fun _ al ps2 gs2 here2 HC hal0 sC tC cG2 hw2 hp2' ha2 hc2 => ?_), fun k z => nomatch z⟩
      have s0C := sB.trans sC
      -- turned
      refine ⟨_, rfl, a, _, rfl, .inl (s0C.seq h1), fun tn htn => ?_⟩
      have sD : Same HC (upd HC tn (.lst (ns.map V.int))) := (Same.refl HC).upd_new htn
      have gD : upd HC tn (.lst (ns.map V.int)) tn = some (.lst (ns.map V.int)) := upd_same
      refine ⟨_, rfl, .inl ⟨rfl, _, SqL.of gD⟩, tn, _, rfl, rfl, gD, ?_⟩
      rw [upd_upd, ← List.map_reverse]
      have sE : Same HC (upd HC tn (.lst (ns.reverse.map V.int))) := (Same.refl HC).upd_new htn
      have gE : upd HC tn (.lst (ns.reverse.map V.int)) tn = some (.lst (ns.reverse.map V.int)) := upd_same
      generalize upd HC tn (.lst (ns.reverse.map V.int)) = HE at sE gE ⊢
      have s0E := s0C.trans sE.T
      have sBE := sC.trans sE.T
      refine ⟨_, rfl, _, rfl, _, rfl, tn, b, al, ns.reverse, ms, ps2, gs2, here2, rfl, SqL.of gE, s0E.seq h2, cG2.sameT sE.T, l1r, by rw [r1.length_eq]; exact lk.1, hw2, hp2'.trans r2, ?_, hc2, fun HF sF => ?_⟩
      · rw [ha2]
        exact due_congr (List.Perm.refl _) r2
      · refine ⟨_, rfl, iteT ?_⟩
        have sBF := sBE.trans sF.T
        exact ⟨_, rfl, _, rfl, tl, kp, ps, rfl, rfl, SqL.of (sBF.lst bG.hA), SqL.of (sBF.lst b9), kq _ (s0E.trans sF.T) ((tC.same sE).same sF)⟩
end
end K07

set_option Elab.async false
set_option linter.all false
set_option maxRecDepth 100000
set_option maxHeartbeats 4000000
namespace K07
open PySem L2 PyProof.Rows
open Builtin.Int (intBits)
section
variable {P : Program} {w : World} {K : PySem.W.Frag} {mg : Str → Option Value} {base : Heap}
/-! ### the law -/
def spLaw (K : PySem.W.Frag) (L : LamAt) : Sp := fun vs H Q _ => ∃ (a : Addr) (ns : List Int), vs = [.ref a] ∧ Scr K H a ns ∧ Tab L H ∧ ∀ H', Q (.bl true) H'
theorem sc_law : FnScope ["_law_script", "_law_one", "_law_other"] ["_law_script"] (defScope s_law) := ⟨rfl, rfl, rfl, by decide +kernel, rfl, by decide +kernel, by decide +kernel⟩
theorem ok_law {f : Addr} {fd : FuncData} {L : LamAt} (F : Fun K "law" "law" s_law f fd) (T : Blt mg) (C__law_pair : Callee P w K mg base CX0 2 "_law_pair" ["_law_script"] (spPair K)) (C__law_good : Callee P w K mg base CX0 6 "_law_good" ["_law_one", "_law_other"] (spGood K L)) :
    FnOk P w K mg base CX0 7 f fd ["_law_script"] (spLaw K L) := by
  refine F.ok sc_law (fun vs H Q E h => ?_) (fun cdv A outer s H vs Q E hr h => ?_)
  · obtain ⟨a, ns, rfl, _⟩ := h
    rfl
  · obtain ⟨a, ns, rfl, hS, hT, kq⟩ := h
    refine ⟨_, (pss_cons (ps_asg (pe_callC C__law_pair hr (by decide) rfl pass0 (pa_cons (pv 0) pa_nil)) (pg_tup rfl (pgs_cons (pg_name (i := 1) sc_law.nd rfl (Or.inl rfl)) (pgs_cons (pg_name (i := 2) sc_law.nd rfl (Or.inl rfl)) pgs_nil))))
      (pss_one (ps_ret (pe_and (pe_callC C__law_good hr (by decide) rfl pass0 (pa_cons (pv 1) (pa_cons (pv 2) pa_nil))) (pe_and (pe_callC C__law_good hr (by decide) rfl pass0 (pa_cons (pv 2) (pa_cons (pv 1) pa_nil))) (pe_one (pe_callC C__law_good hr (by decide) rfl pass0 (pa_cons (pe_callTy call_list_of rfl T.list boot_list (pa_cons (pv 1) pa_nil)) (pa_cons (pe_callTy call_list_of rfl T.list boot_list (pa_cons (pv 1) pa_nil)) pa_nil))))))))), ?_⟩
    refine ⟨_, rfl, a, ns, rfl, hS, fun t l1 l2 xs ys H1 s1 ht h1 h2 lk hl => ?_⟩
    have hy : ys.length ≤ 60 := by rw [← lk.1]; exact hl
    have t1 := hT.same s1
    refine ⟨t, _, rfl, SqT.of ht, rfl, _, _, rfl, _, _, rfl, rfl, ?_⟩
    refine ⟨_, rfl, _, rfl, l1, l2, xs, ys, rfl, SqL.of h1, SqL.of h2, by omega, lk, t1, fun H2 s2 t2 => ?_⟩
    refine ⟨_, rfl, iteT ?_⟩
    refine ⟨_, rfl, _, rfl, l2, l1, ys, xs, rfl, SqL.of (s2.lst h2), SqL.of (s2.lst h1), by omega, lk.symm, t2, fun H3 s3 t3 => ?_⟩
    refine ⟨_, rfl, iteT ?_⟩
    have h13 := (s2.trans s3).lst h1
    refine ⟨_, rfl, l1, _, rfl, .inl (SqL.of h13), fun p1 hp1 => ?_⟩
    have s4 : Same H3 (upd H3 p1 (.lst (xs.map V.int))) := (Same.refl H3).upd_new hp1
    have g4 : upd H3 p1 (.lst (xs.map V.int)) p1 = some (.lst (xs.map V.int)) := upd_same
    generalize upd H3 p1 (.lst (xs.map V.int)) = H4 at s4 g4 ⊢
    refine ⟨_, rfl, l1, _, rfl, .inl (SqL.of (s4 _ _ h13)), fun p2 hp2 => ?_⟩
    have s5 : Same H4 (upd H4 p2 (.lst (xs.map V.int))) := (Same.refl H4).upd_new hp2
    have g5 : upd H4 p2 (.lst (xs.map V.int)) p2 = some (.lst (xs.map V.int)) := upd_same
    generalize upd H4 p2 (.lst (xs.map V.int)) = H5 at s5 g5 ⊢
    exact ⟨p1, p2, xs, xs, rfl, SqL.of (s5 _ _ g4), SqL.of g5, by omega, ⟨rfl, rfl⟩, (t3.same s4).same s5, fun H6 s6 t6 => kq _⟩
end
end K07

open PySem PySem.W PyProof.Rows
set_option maxRecDepth 100000 in
set_option maxHeartbeats 0 in
theorem PySem.Challenge.cw_pursewise_k07_whole_a_way_or_a_gap_holds : PySem.Challenge.rw_pursewise_k07_whole_a_way_or_a_gap.Holds := by
  w_on; o_law; k_head; (case hw => w_witness2)
  k_fill
  refine L2.law_walkT (l := PySem.Challenge.rw_pursewise_k07_whole_a_way_or_a_gap) (k := 7) (st := K07.s_law) (sp := fun K => K07.spLaw K (K07.lamT _)) (.inl rfl) rfl ⟨rfl, by decide, by decide⟩ (fun w h Y => ⟨PySem.W.km_in_of Y, PySem.W.km_tabs_of Y _ (.head _)⟩) rfl ?KT (fun _ _ _ _ _ _ us hl => match us, hl with | [_], _ => rfl) ?F (fun K H a ns _ hl hb hT hS => ⟨a, ns, rfl, ⟨hS, hl rfl, hb⟩, .inl hT, fun _ => rfl⟩)
  case KT =>
    intro w
    rfl
  case F =>
    intro w mg h KX G
    have T : L2.Blt mg := by
      refine' L2.blt_mk KX G ?z1 ?z2 ?z3 ?z4 ?z5 ?z6 ?z7 ?z8 ?z9 ?z10 ?z11 ?z12 ?z13 ?z14 ?z15
      (case z1 => k_is); (case z2 => k_is); (case z3 => k_is); (case z4 => k_is); (case z5 => k_is); (case z6 => k_is); (case z7 => k_is); (case z8 => k_is); (case z9 => k_is); (case z10 => k_is); (case z11 => k_is); (case z12 => k_is); (case z13 => k_is); (case z14 => k_is); (case z15 => k_is)
    have D_tops : L2.DefIn (L2.KOf KX) mg "tops" K07.s_tops := by
      dsimp only [L2.KOf]
      refine' L2.defIn_mk KX G ?a ?l ?c ?k
      (case a => k_is); (case l => k_is); (case c => k_is); (case k => k_is)
    have D_refuse_unlike : L2.DefIn (L2.KOf KX) mg "refuse_unlike" K07.s_refuse_unlike := by
      dsimp only [L2.KOf]
      refine' L2.defIn_mk KX G ?a ?l ?c ?k
      (case a => k_is); (case l => k_is); (case c => k_is); (case k => k_is)
    have D_gap : L2.DefIn (L2.KOf KX) mg "gap" K07.s_gap := by
      dsimp only [L2.KOf]
      refine' L2.defIn_mk KX G ?a ?l ?c ?k
      (case a => k_is); (case l => k_is); (case c => k_is); (case k => k_is)
    have D_held_more : L2.DefIn (L2.KOf KX) mg "held_more" K07.s_held_more := by
      dsimp only [L2.KOf]
      refine' L2.defIn_mk KX G ?a ?l ?c ?k
      (case a => k_is); (case l => k_is); (case c => k_is); (case k => k_is)
    have D_handed_on : L2.DefIn (L2.KOf KX) mg "handed_on" K07.s_handed_on := by
      dsimp only [L2.KOf]
      refine' L2.defIn_mk KX G ?a ?l ?c ?k
      (case a => k_is); (case l => k_is); (case c => k_is); (case k => k_is)
    have D_way : L2.DefIn (L2.KOf KX) mg "way" K07.s_way := by
      dsimp only [L2.KOf]
      refine' L2.defIn_mk KX G ?a ?l ?c ?k
      (case a => k_is); (case l => k_is); (case c => k_is); (case k => k_is)
    have D__law_cell_at : L2.DefIn (L2.KOf KX) mg "_law_cell_at" K07.s__law_cell_at := by
      dsimp only [L2.KOf]
      refine' L2.defIn_mk KX G ?a ?l ?c ?k
      (case a => k_is); (case l => k_is); (case c => k_is); (case k => k_is)
    have D__law_whole : L2.DefIn (L2.KOf KX) mg "_law_whole" K07.s__law_whole := by
      dsimp only [L2.KOf]
      refine' L2.defIn_mk KX G ?a ?l ?c ?k
      (case a => k_is); (case l => k_is); (case c => k_is); (case k => k_is)
    have D__law_purse : L2.DefIn (L2.KOf KX) mg "_law_purse" K07.s__law_purse := by
      dsimp only [L2.KOf]
      refine' L2.defIn_mk KX G ?a ?l ?c ?k
      (case a => k_is); (case l => k_is); (case c => k_is); (case k => k_is)
    have D__law_pulled : L2.DefIn (L2.KOf KX) mg "_law_pulled" K07.s__law_pulled := by
      dsimp only [L2.KOf]
      refine' L2.defIn_mk KX G ?a ?l ?c ?k
      (case a => k_is); (case l => k_is); (case c => k_is); (case k => k_is)
    have D__law_one_back : L2.DefIn (L2.KOf KX) mg "_law_one_back" K07.s__law_one_back := by
      dsimp only [L2.KOf]
      refine' L2.defIn_mk KX G ?a ?l ?c ?k
      (case a => k_is); (case l => k_is); (case c => k_is); (case k => k_is)
    have D__law_pair : L2.DefIn (L2.KOf KX) mg "_law_pair" K07.s__law_pair := by
      dsimp only [L2.KOf]
      refine' L2.defIn_mk KX G ?a ?l ?c ?k
      (case a => k_is); (case l => k_is); (case c => k_is); (case k => k_is)
    have D__law_gap : L2.DefIn (L2.KOf KX) mg "_law_gap" K07.s__law_gap := by
      dsimp only [L2.KOf]
      refine' L2.defIn_mk KX G ?a ?l ?c ?k
      (case a => k_is); (case l => k_is); (case c => k_is); (case k => k_is)
    have D__law_dues : L2.DefIn (L2.KOf KX) mg "_law_dues" K07.s__law_dues := by
      dsimp only [L2.KOf]
      refine' L2.defIn_mk KX G ?a ?l ?c ?k
      (case a => k_is); (case l => k_is); (case c => k_is); (case k => k_is)
    have D__law_is_gift : L2.DefIn (L2.KOf KX) mg "_law_is_gift" K07.s__law_is_gift := by
      dsimp only [L2.KOf]
      refine' L2.defIn_mk KX G ?a ?l ?c ?k
      (case a => k_is); (case l => k_is); (case c => k_is); (case k => k_is)
    have D__law_leads : L2.DefIn (L2.KOf KX) mg "_law_leads" K07.s__law_leads := by
      dsimp only [L2.KOf]
      refine' L2.defIn_mk KX G ?a ?l ?c ?k
      (case a => k_is); (case l => k_is); (case c => k_is); (case k => k_is)
    have D__law_no_way : L2.DefIn (L2.KOf KX) mg "_law_no_way" K07.s__law_no_way := by
      dsimp only [L2.KOf]
      refine' L2.defIn_mk KX G ?a ?l ?c ?k
      (case a => k_is); (case l => k_is); (case c => k_is); (case k => k_is)
    have D__law_good : L2.DefIn (L2.KOf KX) mg "_law_good" K07.s__law_good := by
      dsimp only [L2.KOf]
      refine' L2.defIn_mk KX G ?a ?l ?c ?k
      (case a => k_is); (case l => k_is); (case c => k_is); (case k => k_is)
    have D_law : L2.DefIn (L2.KOf KX) mg "law" K07.s_law := by
      dsimp only [L2.KOf]
      refine' L2.defIn_mk KX G ?a ?l ?c ?k
      (case a => k_is); (case l => k_is); (case c => k_is); (case k => k_is)
    have D_fullest_first : L2.DefInC (L2.KOf KX) mg "fullest_first" K07.s_fullest_first 110 := by
      dsimp only [L2.KOf]
      refine' L2.defInC_mk KX G ?a ?l ?c ?k ?h
      (case a => k_is); (case l => k_is); (case c => k_is); (case k => k_is); (case h => first | exact rfl | (with_unfolding_all exact rfl))
    have ER : ∃ cG cU cN cT cP fI, K07.ErrsG (L2.KOf KX) mg cG cU cN cT cP fI := by
      dsimp only [L2.KOf]
      refine' K07.errsG_mk KX G ?aG ?aU ?aN ?aT ?aP ?aV ?ii ?l ?cd ?b0 ?b1 ?b2 ?b3 ?b4 ?b5 ?b6 ?b7 ?b8 ?sa ?at_ ?fn ?m1 ?m2 ?m3 ?m4 ?m5 ?n1 ?ov ?hd ?ci
      (case aG => k_is); (case aU => k_is); (case aN => k_is); (case aT => k_is); (case aP => k_is); (case aV => k_is); (case ii => k_is); (case l => k_is); (case cd => k_is)
      (case b0 => k_exc); (case b1 => k_is); (case b2 => k_is); (case b3 => k_is); (case b4 => k_is); (case b5 => k_is); (case b6 => k_is); (case b7 => k_is); (case b8 => k_is)
      (case sa => k_is); (case at_ => k_is); (case fn => k_is)
      (case m1 => kts_exm); (case m2 => kts_exm); (case m3 => kts_exm); (case m4 => kts_exm); (case m5 => kts_exm); (case n1 => kit_is)
      (case ov => first | exact rfl | (with_unfolding_all exact rfl)); (case hd => first | k_is | exact rfl | (with_unfolding_all exact rfl)); (case ci => first | exact rfl | (with_unfolding_all exact rfl))
    obtain ⟨cG, cU, cN, cT, cP, fI, ER⟩ := ER
    refine ⟨D_law, D_fullest_first.hd, fun f fd F base kb _ bb => ?_⟩
    have C1 := K07.ok_refuse (P := PySem.Challenge.rw_pursewise_k07_whole_a_way_or_a_gap.prog) (w := w) (base := base) D_refuse_unlike T ER.rU
    have C2 := K07.ok_gap D_gap T C1 (K07.ok_tops D_tops T)
    have C2m := K07.ok_more (P := PySem.Challenge.rw_pursewise_k07_whole_a_way_or_a_gap.prog) (w := w) (base := base) D_held_more T
    have C4 := K07.ok_way D_way T ER C2 C2m (K07.ok_full kb bb D_fullest_first T) (K07.ok_hand D_handed_on T)
    have C5 := K07.ok_cell (P := PySem.Challenge.rw_pursewise_k07_whole_a_way_or_a_gap.prog) (w := w) (base := base) D__law_cell_at T
    have C6 := K07.ok_whole (P := PySem.Challenge.rw_pursewise_k07_whole_a_way_or_a_gap.prog) (w := w) (base := base) D__law_whole T
    have C7 := K07.ok_ldues (P := PySem.Challenge.rw_pursewise_k07_whole_a_way_or_a_gap.prog) (w := w) (base := base) D__law_dues T
    have C8 := K07.ok_leads D__law_leads T (K07.ok_isgift D__law_is_gift T C6) C7
    exact K07.ok_law F T (K07.ok_pair D__law_pair T C5 (K07.ok_purse D__law_purse) (K07.ok_pulled D__law_pulled T) (K07.ok_oneback D__law_one_back T)) (K07.ok_good (cU := cU) (cN := cN) (cT := cT) (cP := cP) (fI := fI) D__law_good T C2 C4 (K07.ok_lgap D__law_gap T) C6 (K07.ok_noway D__law_no_way T ER C4 C6) C8)
