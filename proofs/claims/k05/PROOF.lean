import PyProof.Rows.All
import Wide.All
import OpenK.AllK
import Wide.FinOn
import Lean
import PyProof.EqAt
import PyProof.EqKinds
import PyProof.TupleCall
import PyProof.NeKinds
import PyProof.MinMaxWalk
import PyProof.Walks
import PyProof.EnumMake
import PyProof.WalksEnum
import PyProof.ZipIter
import PyProof.DictWalks
import PyProof.DictIter
import PySem.Challenge.RW_midpile_k05_numbers_of_comings
set_option Elab.async false
set_option linter.all false
set_option maxRecDepth 100000
/-! THE HAND LAYER, for ints, bools, texts, own classes, LISTS and tuples (index, slices, in, append, pop ..), calls, loops. Paste it whole ahead of your own text; what your proof does not reach may be deleted. -/
namespace L2
open PySem PySem.Spec PyProof.Rows

/-- a key: an int or a str -/
abbrev Key := Sum Int Str
def keyIs : Key → Value → Bool
  | .inl k, v => Value.isInt k v
  | .inr x, v => Value.isStrOf x v
def keyH (w : World) : Key → Int
  | .inl k => hashInt k
  | .inr x => hashStr w x
theorem keyIs_shape : ∀ {k : Key} {v : Value}, keyIs k v = true → (∃ i t, k = Sum.inl i ∧ v = Value.int i t) ∨ (∃ x t, k = Sum.inr x ∧ v = Value.str x t)
  | .inl i, v, h => by
    obtain ⟨t, e⟩ := Value.isInt_shape (k := i) (v := v) h
    exact .inl ⟨i, t, rfl, e⟩
  | .inr x, v, h => by
    obtain ⟨t, e⟩ := Value.isStrOf_shape (x := x) (v := v) h
    exact .inr ⟨x, t, rfl, e⟩
theorem keyIs_int (i : Int) (t : Tok) : keyIs (.inl i) (.int i t) = true := by simp [keyIs, Value.isInt]
theorem keyIs_str (x : Str) (t : Tok) : keyIs (.inr x) (.str x t) = true := by simp [keyIs, Value.isStrOf]
theorem key_ll (a b : Int) : decide ((Sum.inl a : Key) = Sum.inl b) = (a == b) := by
  by_cases e : a = b
  · subst e; simp
  · have h : ¬ (Sum.inl a : Key) = Sum.inl b := fun q => e (Sum.inl.inj q)
    rw [decide_eq_false h]
    exact (beq_eq_false_iff_ne.mpr e).symm
theorem key_rr (a b : Str) : decide ((Sum.inr a : Key) = Sum.inr b) = decide (a = b) := by
  by_cases e : a = b
  · subst e; simp
  · have h : ¬ (Sum.inr a : Key) = Sum.inr b := fun q => e (Sum.inr.inj q)
    rw [decide_eq_false h, decide_eq_false e]
theorem key_lr (a : Int) (b : Str) : decide ((Sum.inl a : Key) = Sum.inr b) = false := decide_eq_false (fun q => nomatch q)
theorem key_rl (a : Str) (b : Int) : decide ((Sum.inr a : Key) = Sum.inl b) = false := decide_eq_false (fun q => nomatch q)

def mixKind (prog : Program) (w : World) : PySem.KeyKind prog w Key where
  is := keyIs
  hash := keyH w
  inj := fun v a b ha hb => by
    rcases keyIs_shape ha with ⟨i, t, rfl, rfl⟩ | ⟨x, t, rfl, rfl⟩
    · rcases keyIs_shape hb with ⟨j, u, rfl, e⟩ | ⟨y, u, rfl, e⟩
      · injection e with e1 _; rw [e1]
      · exact nomatch e
    · rcases keyIs_shape hb with ⟨j, u, rfl, e⟩ | ⟨y, u, rfl, e⟩
      · exact nomatch e
      · injection e with e1 _; rw [e1]
  byValue := fun k v h => by
    rcases keyIs_shape h with ⟨i, t, rfl, rfl⟩ | ⟨x, t, rfl, rfl⟩ <;> rfl
  pyHash := fun hv h => by
    rcases keyIs_shape hv with ⟨i, t, rfl, rfl⟩ | ⟨x, t, rfl, rfl⟩
    · exact wpAny_pyHash_int h
    · exact wpAny_pyHash_str h
  eqBool := fun hu hv h => by
    rcases keyIs_shape hu with ⟨i, t, rfl, rfl⟩ | ⟨x, t, rfl, rfl⟩
    · rcases keyIs_shape hv with ⟨j, u, rfl, rfl⟩ | ⟨y, u, rfl, rfl⟩
      · rw [key_ll] at h; exact wpAny_eqBool_int h
      · rw [key_lr] at h; exact SeqAt.EqAt.int_str i t y u _ _ _ _ h
    · rcases keyIs_shape hv with ⟨j, u, rfl, rfl⟩ | ⟨y, u, rfl, rfl⟩
      · rw [key_rl] at h; exact SeqAt.EqAt.str_int x t j u _ _ _ _ h
      · rw [key_rr] at h; exact wpAny_eqBool_str h
  «strs» := fun k x t v h => by
    rcases keyIs_shape h with ⟨i, u, rfl, e⟩ | ⟨y, u, rfl, e⟩
    · exact nomatch e
    · injection e with e1 _
      subst e1
      cases v <;> rfl

theorem mixKind_is (prog : Program) (w : World) (k : Key) (v : Value) : (mixKind prog w).is k v = keyIs k v := rfl
theorem mixKind_int (prog : Program) (w : World) (i : Int) (t : Tok) : (mixKind prog w).is (.inl i) (.int i t) = true := keyIs_int i t
theorem mixKind_str (prog : Program) (w : World) (x : Str) (t : Tok) : (mixKind prog w).is (.inr x) (.str x t) = true := keyIs_str x t
end L2

namespace L2
open PySem PySem.Spec PyProof.Rows

/-- a value, without the heap -/
inductive V where
  | non | bl (b : Bool) | int (i : Int) | str (x : Str) | byt (b : Array UInt8) | flt (b : UInt64) | ref (a : Addr) | ty (n : String)
  deriving DecidableEq

def RelV : V → Value → Prop
  | .non, u => u = Value.none
  | .bl b, u => u = Value.bool b
  | .int i, u => ∃ t, u = Value.int i t
  | .str x, u => ∃ t, u = Value.str x t
  | .byt b, u => ∃ t, u = Value.bytes b t
  | .flt b, u => ∃ t, u = Value.float b t
  | .ref a, u => u = Value.ref a
  | .ty n, u => u = Value.type n

abbrev Vals : List V → List Value → Prop := Paired RelV
theorem Vals.length {xs : List V} {us : List Value} (r : Vals xs us) : xs.length = us.length := Paired.length r
theorem Vals.get : ∀ {xs : List V} {us : List Value} {i : Nat} {x : V}, Vals xs us → xs[i]? = some x → ∃ u, us[i]? = some u ∧ RelV x u
  | _, _, _, _, .nil, e => by simp at e
  | _, _, 0, _, .cons r _, e => by simp at e; subst e; exact ⟨_, rfl, r⟩
  | _, _, i + 1, x, .cons _ t, e => by
    obtain ⟨u, h1, h2⟩ := Vals.get (i := i) (x := x) t (by simpa using e)
    exact ⟨u, by simpa using h1, h2⟩
theorem Vals.set {x : V} {u : Value} (r : RelV x u) : ∀ {xs : List V} {us : List Value} (i : Nat), Vals xs us → Vals (xs.set i x) (us.set i u)
  | _, _, _, .nil => .nil
  | _, _, 0, .cons _ t => .cons r t
  | _, _, i + 1, .cons q t => .cons q (Vals.set r i t)
theorem Vals.append : ∀ {xs ys : List V} {us ws : List Value}, Vals xs us → Vals ys ws → Vals (xs ++ ys) (us ++ ws)
  | _, _, _, _, .nil, s => s
  | _, _, _, _, .cons r t, s => .cons r (Vals.append t s)
theorem Vals.take : ∀ {xs : List V} {us : List Value} (n : Nat), Vals xs us → Vals (xs.take n) (us.take n)
  | _, _, 0, _ => .nil
  | _, _, _ + 1, .nil => .nil
  | _, _, n + 1, .cons r t => .cons r (Vals.take n t)
theorem Vals.drop : ∀ {xs : List V} {us : List Value} (n : Nat), Vals xs us → Vals (xs.drop n) (us.drop n)
  | _, _, 0, r => r
  | _, _, _ + 1, .nil => .nil
  | _, _, n + 1, .cons _ t => Vals.drop n t
theorem Vals.none_of : ∀ {xs : List V} {us : List Value} {i : Nat}, Vals xs us → xs[i]? = none → us[i]? = none := fun {xs us i} r e => by
  have h1 := r.length
  have h2 : xs.length ≤ i := List.getElem?_eq_none_iff.mp e
  exact List.getElem?_eq_none_iff.mpr (by omega)

def RelO : Option V → Option Value → Prop
  | some v, some u => RelV v u
  | none, none => True
  | _, _ => False
def KV {κ : Type} : List (κ × V) → List (κ × Value) → Prop := Paired fun (p : κ × V) (q : κ × Value) => p.1 = q.1 ∧ RelV p.2 q.2

/-- a key of a dict (00_mix): an int or a text -/
def kV : Key → V
  | .inl i => .int i
  | .inr x => .str x

/-- what stands at a tracked address -/
inductive HO where
  /-- a list -/
  | lst (xs : List V)
  /-- a tuple (never changes) -/
  | tup (xs : List V)
  /-- a dict whose keys are ints and texts; one whose keys are tuples of ints and texts (the empty one is both) -/
  | dK (kvs : List (Key × V)) | dT (kvs : List (List Key × V))
  /-- a set of ints: its members, its size -/
  | set (S : Int → Bool) (n : Nat)
  /-- an instance of the class at C, its dict at dx, its attributes -/
  | ins (C dx : Addr) (fs : List (Str × V))
  /-- the dict of the instance at x -/
  | own (x : Addr)
  /-- the dict of an exception -/
  | xd (fs : List (Str × V))
  /-- a bound method, f of x -/
  | met (f x : Addr)
  /-- a range object lo, lo + 1, .. below hi -/
  | rng (lo hi : Int)
  /-- a thing that is known to the object (the script; a dict while a loop walks it): read, never written while it is so -/
  | frz (o : Obj) (u : HO)
  /-- a code object's table -/
  | tbl (ps : Array Value)
  /-- any other thing, by what is true of its one object (a def of one's own: SetO a S n := HO.ext fun h => ..) -/
  | ext (φ : Heap → Prop)

abbrev Hp := Addr → Option HO
def upd (H : Hp) (a : Addr) (o : HO) : Hp := fun b => if b = a then some o else H b
theorem upd_same {H : Hp} {a : Addr} {o : HO} : upd H a o a = some o := by unfold upd; rw [if_pos rfl]
theorem upd_ne {H : Hp} {a b : Addr} {o : HO} (h : b ≠ a) : upd H a o b = H b := by unfold upd; rw [if_neg h]
theorem upd_upd {H : Hp} {a : Addr} {o u : HO} : upd (upd H a o) a u = upd H a u := by
  funext b; unfold upd; split <;> rfl
/-- two objects of different content stand apart -/
theorem ne_of {H : Hp} {a b : Addr} {o u : HO} (h : H a = some o) (h' : H b = some u) (d : o ≠ u) : a ≠ b := by
  intro e; subst e; rw [h] at h'; exact d (Option.some.inj h')
theorem ne_of_none {H : Hp} {a b : Addr} {o : HO} (h : H a = some o) (h' : H b = none) : a ≠ b := by
  intro e; subst e; rw [h] at h'; cases h'

section
variable (P : Program) (w : World)
def ObjOk (H : Hp) (h : Heap) (a : Addr) : HO → Prop
  | .lst xs => xs.length ≤ sizeLine ∧ ∃ (its : List Value) (n : Nat), Vals xs its ∧ h.get? a = some { cls := .type "list", data := .seq its.toArray n }
  | .tup xs => xs.length ≤ sizeLine ∧ ∃ its : List Value, Vals xs its ∧ IsTup h a its.toArray
  | .dK kvs => kvs.length ≤ sizeLine ∧ (a == sysModules) = false ∧ ∃ vs, KV kvs vs ∧ h.DictOf (mixKind P w) a vs
  | .dT kvs => kvs.length ≤ sizeLine ∧ (a == sysModules) = false ∧ ∃ xs : List (List Key × Addr × Value),
      Paired (fun (p : List Key × V) (q : List Key × Addr × Value) => p.1 = q.1 ∧ H q.2.1 = some (.tup (p.1.map kV)) ∧ RelV p.2 q.2.2) kvs xs ∧
      ∃ o es ep, h.get? a = some o ∧ o.ExactDict ∧ o.data = .dict es ep ∧ es.toList = xs.map (entryOfKey (tupleKind (mixKind P w))) ∧ (xs.map (·.1)).Nodup
  | .set S n => h.SetOf (intKind P w) a S n
  | .ins C dx fs => H dx = some (.own a) ∧ fs.length ≤ 1000 ∧ dx ≠ a ∧ h.get? a = some (PySem.W.instObj C dx) ∧
      ∃ mA, h.Ns1 dx mA ∧ (∀ f, RelO (fs.lookup f) (mA f)) ∧ PySem.Within mA (fs.map (·.1))
  | .own _ => ∃ o, h.get? a = some o
  | .xd fs => ∃ mA, h.Ns1 a mA ∧ ∀ f, RelO (fs.lookup f) (mA f)
  | .rng lo hi => ∃ t u v, h.get? a = some { cls := .type "range", data := .fields #[.int lo t, .int hi u, .int 1 v] }
  | .frz o u => h.get? a = some o ∧ ObjOk H h a u
  | .tbl ps => h.get? a = some { cls := .none, data := .fields ps }
  | .met f x => h.get? a = some (PySem.W.methodObj (.ref f) (.ref x))
  | .ext φ => φ h ∧ (∃ o, h.get? a = some o) ∧ ∀ h1 h2 : Heap, φ h1 → (∀ o, h1.get? a = some o → h2.get? a = some o) → φ h2
/-- the abstract heap is held -/
def HOk (H : Hp) (h : Heap) : Prop := ∀ a o, H a = some o → ObjOk P w H h a o
end

section
variable {P : Program} {w : World} {H H' : Hp} {h h' : Heap} {a : Addr} {o : HO}
theorem ObjOk.lt (x : ObjOk P w H h a o) : a < h.objs.size := by
  cases o with
  | lst xs => obtain ⟨_, _, _, _, e⟩ := x; exact Heap.lt_size e
  | tup xs => obtain ⟨_, _, _, p⟩ := x; exact p.lt
  | dK kvs => obtain ⟨_, _, _, _, o, _, _, e, _⟩ := x; exact Heap.lt_size e
  | dT kvs => obtain ⟨_, _, _, _, o, _, _, e, _⟩ := x; exact Heap.lt_size e
  | set S n => obtain ⟨o, _, _, _, e, _⟩ := x; exact Heap.lt_size e
  | ins C dx fs => obtain ⟨_, _, _, e, _⟩ := x; exact Heap.lt_size e
  | own y => obtain ⟨_, e⟩ := x; exact Heap.lt_size e
  | xd fs => obtain ⟨_, ⟨_, _, _, e, _⟩, _⟩ := x; exact Heap.lt_size e
  | rng lo hi => obtain ⟨_, _, _, e⟩ := x; exact Heap.lt_size e
  | frz ob u => obtain ⟨e, _⟩ := x; exact Heap.lt_size e
  | tbl ps => exact Heap.lt_size (show h.get? a = some _ from x)
  | met f y => exact Heap.lt_size (show h.get? a = some _ from x)
  | ext φ => obtain ⟨_, ⟨_, e⟩, _⟩ := x; exact Heap.lt_size e
theorem Paired.mapP {α β : Type} {F G : α → β → Prop} : ∀ {l₁ : List α} {l₂ : List β}, Paired F l₁ l₂ → (∀ a b, F a b → G a b) → Paired G l₁ l₂
  | _, _, .nil, _ => .nil
  | _, _, .cons r t, f => .cons (f _ _ r) (Paired.mapP t f)
/-- what an object's description leans on: its own object, its own dict, the tuples -/
theorem ObjOk.stay (x : ObjOk P w H h a o) (k : ∀ b u, (b = a ∨ H b = some (.own a)) → h.get? b = some u → h'.get? b = some u)
    (ho : ∀ b, H b = some (.own a) → H' b = some (.own a)) (ht : ∀ b xs, H b = some (.tup xs) → H' b = some (.tup xs)) : ObjOk P w H' h' a o := by
  induction o with
  | lst xs => obtain ⟨z, its, n, r, e⟩ := x; exact ⟨z, its, n, r, k _ _ (.inl rfl) e⟩
  | tup xs => obtain ⟨z, its, r, ob, e, c⟩ := x; exact ⟨z, its, r, ob, k _ _ (.inl rfl) e, c⟩
  | dK kvs => obtain ⟨z, y, vs, r, ob, es, ep, e, c⟩ := x; exact ⟨z, y, vs, r, ob, es, ep, k _ _ (.inl rfl) e, c⟩
  | dT kvs =>
    obtain ⟨z, y, xs, r, ob, es, ep, e, c⟩ := x
    exact ⟨z, y, xs, Paired.mapP r fun p q z => ⟨z.1, ht _ _ z.2.1, z.2.2⟩, ob, es, ep, k _ _ (.inl rfl) e, c⟩
  | set S n => obtain ⟨ob, es, ep, t, e, c⟩ := x; exact ⟨ob, es, ep, t, k _ _ (.inl rfl) e, c⟩
  | ins C dx fs =>
    obtain ⟨d, z, ne, e, mA, ⟨od, es, ep, e2, c⟩, r⟩ := x
    exact ⟨ho _ d, z, ne, k _ _ (.inl rfl) e, mA, ⟨od, es, ep, k _ _ (.inr d) e2, c⟩, r⟩
  | own y => obtain ⟨ob, e⟩ := x; exact ⟨ob, k _ _ (.inl rfl) e⟩
  | xd fs => obtain ⟨mA, ⟨od, es, ep, e, c⟩, r⟩ := x; exact ⟨mA, ⟨od, es, ep, k _ _ (.inl rfl) e, c⟩, r⟩
  | rng lo hi => obtain ⟨t, u, v, e⟩ := x; exact ⟨t, u, v, k _ _ (.inl rfl) e⟩
  | frz ob u ih => obtain ⟨e, q⟩ := x; exact ⟨k _ _ (.inl rfl) e, ih q⟩
  | tbl ps =>
    have e : h.get? a = some { cls := .none, data := .fields ps } := x
    show h'.get? a = some { cls := .none, data := .fields ps }
    exact k a _ (.inl rfl) e
  | met f y =>
    have e : h.get? a = some (PySem.W.methodObj (.ref f) (.ref y)) := x
    show h'.get? a = some (PySem.W.methodObj (.ref f) (.ref y))
    exact k a _ (.inl rfl) e
  | ext φ => obtain ⟨p, ⟨o, e⟩, st⟩ := x; exact ⟨st _ _ p fun o q => k _ _ (.inl rfl) q, ⟨o, k _ _ (.inl rfl) e⟩, st⟩
theorem HOk.lt (x : HOk P w H h) (e : H a = some o) : a < h.objs.size := (x a o e).lt
theorem HOk.fresh (x : HOk P w H h) (e : h.objs.size ≤ a) : H a = none := by
  cases q : H a with
  | none => rfl
  | some u => exact absurd (Nat.lt_of_lt_of_le (x.lt q) e) (Nat.lt_irrefl _)
/-- every object of the heap is kept -/
theorem HOk.kept (x : HOk P w H h) (k : ∀ b u, h.get? b = some u → h'.get? b = some u) : HOk P w H h' := fun a o e =>
  (x a o e).stay (fun b u _ q => k b u q) (fun _ q => q) fun _ _ q => q
/-- a new object is laid and tracked -/
theorem HOk.laid (x : HOk P w H h) (k : ∀ b u, h.get? b = some u → h'.get? b = some u) (hp : h.objs.size ≤ a) (new : ObjOk P w (upd H a o) h' a o) : HOk P w (upd H a o) h' := fun b u e => by
  have hn := x.fresh hp
  by_cases hb : b = a
  · subst hb; rw [upd_same] at e; cases e; exact new
  · rw [upd_ne hb] at e
    exact (x b u e).stay (fun c v _ q => k c v q) (fun c q => by rw [upd_ne (ne_of_none q hn)]; exact q) fun c xs q => by rw [upd_ne (ne_of_none q hn)]; exact q
end

/-- what may be read as u: it is u, or a known u -/
def Rd (H : Hp) (a : Addr) (u : HO) : Prop := H a = some u ∨ ∃ o, H a = some (.frz o u)
theorem Rd.of {H : Hp} {a : Addr} {u : HO} (h : H a = some u) : Rd H a u := .inl h
theorem Rd.ok {P : Program} {w : World} {H : Hp} {h : Heap} {a : Addr} {u : HO} (r : Rd H a u) (x : HOk P w H h) : ObjOk P w H h a u := by
  rcases r with r | ⟨o, r⟩
  · exact x a u r
  · obtain ⟨_, q⟩ := x a _ r
    exact q
/-- what may be written -/
def Mut : Option HO → Prop
  | some (.lst _) => True
  | some (.dK _) => True
  | some (.dT _) => True
  | some (.set _ _) => True
  | some (.ins _ _ _) => True
  | some (.ext _) => True
  | _ => False
section
variable {P : Program} {w : World} {H : Hp} {h h' : Heap} {x e : Addr} {o' : HO}
/-- the object at e is changed: x itself, or the dict of the instance x -/
theorem HOk.write (ok : HOk P w H h) (mu : Mut (H x)) (he : e = x ∨ H e = some (.own x)) (k : ∀ b u, b ≠ e → h.get? b = some u → h'.get? b = some u) (heo : ∃ u, h'.get? e = some u)
    (new : ObjOk P w (upd H x o') h' x o') : HOk P w (upd H x o') h' := fun b u q => by
  have nown : ∀ c y, H c = some (.own y) → c ≠ x := fun c y r z => by subst z; rw [r] at mu; exact mu
  have ntup : ∀ c xs, H c = some (.tup xs) → c ≠ x := fun c xs r z => by subst z; rw [r] at mu; exact mu
  by_cases hb : b = x
  · subst hb; rw [upd_same] at q; cases q; exact new
  · rw [upd_ne hb] at q
    by_cases hbe : b = e
    · have q' : H b = some (.own x) := by
        rcases he with z | z
        · exact absurd (hbe.trans z) hb
        · rw [hbe]; exact z
      rw [q] at q'; cases q'
      obtain ⟨v, hv⟩ := heo
      exact ⟨v, by rw [hbe]; exact hv⟩
    · refine (ok b u q).stay (fun c v hc r => k c v ?_ r) (fun c r => by rw [upd_ne (nown c b r)]; exact r) fun c xs r => by rw [upd_ne (ntup c xs r)]; exact r
      rcases hc with rfl | hc
      · exact hbe
      · rintro rfl
        rcases he with z | z
        · exact nown c b hc z
        · rw [hc] at z; cases z; exact hb rfl
end

/-! ### kept unless tracked; of the frames at fs (the callers') the slots may change (an exception that passes writes there); of the records at ex (iterators) nothing is said -/
structure Un (fs ex : List Addr) (H H' : Hp) (h h' : Heap) : Prop where
  keep : ∀ b o, h.get? b = some o → H b = none → b ∉ fs → b ∉ ex → h'.get? b = some o
  slot : ∀ b o, h.get? b = some o → H b = none → b ∈ fs → b ∉ ex → ∃ sl, h'.get? b = some { o with slots := sl }
  free : ∀ b o, h.get? b = some o → H b = none → b ∉ ex → H' b = none
  there : ∀ b o, h.get? b = some o → b ∉ ex → ∃ o', h'.get? b = some o'
  tups : ∀ b xs, H b = some (.tup xs) → H' b = some (.tup xs)
  frzs : ∀ b o u, H b = some (.frz o u) → H' b = some (.frz o u)
  tbls : ∀ b ps, H b = some (.tbl ps) → ∃ more, H' b = some (.tbl (ps ++ more))
section
variable {fs fs' ex ex' : List Addr} {H H1 H2 : Hp} {h h1 h2 h' : Heap} {a x e : Addr} {o : HO}
theorem Un.any (u : Un fs ex H H1 h h1) {b : Addr} {ob : Obj} (q : h.get? b = some ob) (n : H b = none) (hx : b ∉ ex) : ∃ sl, h1.get? b = some { ob with slots := sl } := by
  by_cases hb : b ∈ fs
  · exact u.slot b ob q n hb hx
  · exact ⟨ob.slots, u.keep b ob q n hb hx⟩
theorem Un.trans (a : Un fs ex H H1 h h1) (b : Un fs ex H1 H2 h1 h2) : Un fs ex H H2 h h2 where
  keep := fun c ob q n hc hx => b.keep c ob (a.keep c ob q n hc hx) (a.free c ob q n hx) hc hx
  slot := fun c ob q n hc hx => by
    obtain ⟨sl, e1⟩ := a.slot c ob q n hc hx
    obtain ⟨sl', e2⟩ := b.slot c _ e1 (a.free c ob q n hx) hc hx
    exact ⟨sl', e2⟩
  free := fun c ob q n hx => by
    obtain ⟨o', e1⟩ := a.there c ob q hx
    exact b.free c o' e1 (a.free c ob q n hx) hx
  there := fun c ob q hx => by
    obtain ⟨o', e1⟩ := a.there c ob q hx
    exact b.there c o' e1 hx
  tups := fun c xs q => b.tups c xs (a.tups c xs q)
  frzs := fun c ob xs q => b.frzs c ob xs (a.frzs c ob xs q)
  tbls := fun c ps q => by
    obtain ⟨m1, e1⟩ := a.tbls c ps q
    obtain ⟨m2, e2⟩ := b.tbls c _ e1
    exact ⟨m1 ++ m2, by rw [e2, Array.append_assoc]⟩
theorem Un.kept (k : ∀ b u, h.get? b = some u → h'.get? b = some u) : Un fs ex H H h h' :=
  ⟨fun b ob q _ _ _ => k b ob q, fun b ob q _ _ _ => ⟨ob.slots, k b ob q⟩, fun _ _ _ n _ => n, fun b ob q _ => ⟨ob, k b ob q⟩, fun _ _ q => q, fun _ _ _ q => q, fun _ ps q => ⟨#[], by rw [q]; simp⟩⟩
theorem Un.refl : Un fs ex H H h h := Un.kept fun _ _ q => q
theorem Un.laid (k : ∀ b u, h.get? b = some u → h'.get? b = some u) (hp : h.objs.size ≤ a) (hn : H a = none) : Un fs ex H (upd H a o) h h' where
  keep := fun b u q _ _ _ => k b u q
  slot := fun b u q _ _ _ => ⟨u.slots, k b u q⟩
  free := fun b u q n _ => by rw [upd_ne (Nat.ne_of_lt (Nat.lt_of_lt_of_le (Heap.lt_size q) hp))]; exact n
  there := fun b u q _ => ⟨u, k b u q⟩
  tups := fun b xs q => by rw [upd_ne (ne_of_none q hn)]; exact q
  frzs := fun b u xs q => by rw [upd_ne (ne_of_none q hn)]; exact q
  tbls := fun b ps q => ⟨#[], by rw [upd_ne (ne_of_none q hn), q]; simp⟩
theorem Un.write (mu : Mut (H x)) (he : e = x ∨ H e = some (.own x)) (k : ∀ b u, b ≠ e → h.get? b = some u → h'.get? b = some u) (heo : ∃ u, h'.get? e = some u) : Un fs ex H (upd H x o) h h' := by
  have hx : ∀ b, H b = none → b ≠ x := fun b n z => by subst z; rw [n] at mu; exact mu
  have hb : ∀ b, H b = none → b ≠ e := fun b n z => by
    subst z
    rcases he with r | r
    · exact hx b n r
    · rw [n] at r; cases r
  have hm : ∀ b u, H b = some u → ¬ Mut (some u) → b ≠ x := fun b u q nm z => by subst z; rw [q] at mu; exact nm mu
  refine ⟨fun b u q n _ _ => k b u (hb b n) q, fun b u q n _ _ => ⟨u.slots, k b u (hb b n) q⟩, fun b u q n _ => by rw [upd_ne (hx b n)]; exact n, fun b u q _ => ?_,
    fun b xs q => by rw [upd_ne (hm b _ q fun z => z)]; exact q, fun b u xs q => by rw [upd_ne (hm b _ q fun z => z)]; exact q, fun b ps q => ⟨#[], by rw [upd_ne (hm b _ q fun z => z), q]; simp⟩⟩
  by_cases hbe : b = e
  · subst hbe; exact heo
  · exact ⟨u, k b u hbe q⟩
theorem Un.mono (u : Un fs ex H H1 h h1) (hs : ∀ b ∈ fs, b ∈ fs') (hx : ∀ b ∈ ex, b ∈ ex') : Un fs' ex' H H1 h h1 :=
  ⟨fun b ob q n hb he => u.keep b ob q n (fun z => hb (hs b z)) fun z => he (hx b z), fun _ _ q n _ he => u.any q n fun z => he (hx _ z), fun b ob q n he => u.free b ob q n fun z => he (hx b z), fun b ob q he => u.there b ob q fun z => he (hx b z), u.tups, u.frzs, u.tbls⟩
end

/-! ### the heap without what is tracked -/
def trk (h : Heap) (H : Hp) : List Addr := (List.range h.objs.size).filter fun a => (H a).isSome
def hidT (h : Heap) (H : Hp) : Heap := PySem.W.hideAll h (trk h H)
theorem hidT_size (h : Heap) (H : Hp) : (hidT h H).objs.size = h.objs.size := PySem.W.hideAll_size _ _
theorem hidT_get {h : Heap} {H : Hp} {b : Addr} {o : Obj} (e : h.get? b = some o) (n : H b = none) : (hidT h H).get? b = some o :=
  PySem.W.hideAll_get _ e fun hm => by
    have q : (H b).isSome = true := (List.mem_filter.mp hm).2
    rw [n] at q; simp at q
theorem of_hidT {h : Heap} {H : Hp} {b : Addr} {o : Obj} (e : (hidT h H).get? b = some o) : h.get? b = some o ∧ H b = none := by
  have e' : h.get? b = some o := PySem.W.of_hideAll (trk h H) e
  refine ⟨e', ?_⟩
  cases q : H b with
  | none => rfl
  | some x =>
    have hm : b ∈ trk h H := List.mem_filter.mpr ⟨List.mem_range.mpr (Heap.lt_size e'), by simp [q]⟩
    have z : (hidT h H).get? b = none := PySem.W.hideAll_none (trk h H) hm
    rw [z] at e; cases e

/-! ### OpenK's ledger, filled with every new object but one -/
def allNews (g h : Heap) (L : Addr) : List (Addr × Obj) := (List.range h.objs.size).filterMap fun a => if a = L ∨ (g.get? a).isSome = true then none else (h.get? a).map fun o => (a, o)
def rest (g h : Heap) (L d : Addr) : List (Addr × Obj) := (allNews g h L).filter fun p => decide (p.1 ≠ d)
end L2

namespace L2
open PySem PySem.Spec PyProof.Rows

/-- the module's facts, over the base: the heap at the law's entry without what is tracked there -/
structure Mod (K : PySem.W.Frag) (mg : Str → Option Value) (base : Heap) : Prop where
  kin : K.In base
  glob : base.Ns mainGlobals mg
  blt : ∃ mb, base.Ns builtinsNs mb ∧ ∀ x : Str, x ≠ "__name__" → mb x = bootBuiltins x
  nolimit : base.NoLimit

/-- the context: a def's body (or a comprehension's block) running. base: fixed through the whole law; s₀, H₀: the entry; outer: the frames whose slots others may change (a def's callers); stack: all frames that run;
   ex: iterators that were made ahead of the entry and are walked here (a comprehension's); fn: the names whose cells were made at the entry (a def: all; a comprehension's block: its own); calm: not within an except suite; pn: pins that every state bears; xe: what is wanted of an exception that leaves the code -/
structure Cx where
  prog : Program
  w : World
  K : PySem.W.Frag
  mg : Str → Option Value
  base : Heap
  A : Around
  N : List Str
  s₀ : Shared
  H₀ : Hp
  env : Env
  outer : List Env
  stack : List Env
  ex : List Addr
  fn : Str → Bool
  calm : Bool
  pn : List (Addr × Obj)
  xe : Value → Shared → Prop
/-- the callers' frames -/
def frs (l : List Env) : List Addr := l.filterMap (·.frame)
abbrev Cx.fs (X : Cx) : List Addr := frs X.outer

def Vis (sc : Scope) (x : Str) : Prop := sc.names.lookup x = some .local ∨ sc.names.lookup x = some .cell ∨ sc.names.lookup x = some .free
def Loc (sc : Scope) (x : Str) : Prop := sc.names.lookup x = some .local ∨ sc.names.lookup x = some .cell
def Look (env : Env) (h : Heap) (m : Str → Option Value) (x : Str) (u : Value) : Prop :=
  (env.kindOf x = some .local ∧ m x = some u) ∨ ((env.kindOf x = some .cell ∨ env.kindOf x = some .free) ∧ ∃ c, env.cells.lookup x = some c ∧ h.IsCell c (some u))

structure Cx.Ok (X : Cx) : Prop where
  mod : Mod X.K X.mg X.base
  kind : X.env.scope.kind = .function
  glob : X.env.globals = mainGlobals
  blt : X.env.builtins = builtinsNs
  above : X.s₀.heap.objs.size ≤ X.env.locals
  inj : ∀ x y c, X.env.cells.lookup x = some c → X.env.cells.lookup y = some c → x = y
  has : ∀ x, (X.env.kindOf x = some .cell ∨ X.env.kindOf x = some .free) → ∃ c, X.env.cells.lookup x = some c
  cab : ∀ x c, X.fn x = true → X.env.cells.lookup x = some c → X.s₀.heap.objs.size ≤ c
  hd : X.calm = true → X.A.handled = none
  frames : X.A.frames = some X.stack
  stk : X.stack = X.outer ∨ (X.stack = X.env :: X.outer ∧ X.env.frame = some X.env.locals)
  exf : ∀ b ∈ X.ex, b ≠ X.env.locals ∧ ∀ x c, X.env.cells.lookup x = some c → c ≠ b
  bs : ∀ b o, X.base.get? b = some o → X.s₀.heap.get? b = some o ∧ X.H₀ b = none
  bsz : X.base.objs.size ≤ X.s₀.heap.objs.size
  noex : ∀ b o, X.base.get? b = some o → b ∉ X.ex
  exfs : ∀ b ∈ X.ex, b ∉ X.fs
  funs : X.s₀.heap.FunFrames X.base X.outer
  frf : ∀ b ∈ X.fs, X.H₀ b = none

structure Inv (X : Cx) (pins : List (Addr × Obj)) (σ : List (Option V)) (H : Hp) (s : Shared) : Prop where
  ok : X.Ok
  os : s.os = X.s₀.os
  bare : AllBare s.gens
  base : Un X.fs X.ex X.H₀ H X.s₀.heap s.heap
  loc : ∃ m, s.heap.Ns X.env.locals m ∧ ∀ (i : Nat) (x : Str) (v : V), X.N[i]? = some x → σ[i]? = some (some v) → Vis X.env.scope x → ∃ u, RelV v u ∧ Look X.env s.heap m x u
  cell : ∀ x c, X.env.cells.lookup x = some c → ∃ v, s.heap.IsCell c v
  free : H X.env.locals = none
  freeC : ∀ x c, X.env.cells.lookup x = some c → H c = none
  pin : ∀ p ∈ X.pn ++ pins, s.heap.get? p.1 = some p.2 ∧ H p.1 = none ∧ p.1 ≠ X.env.locals ∧ p.1 ∉ X.fs ∧ ∀ v, p.2.data ≠ .cell v
  hok : HOk X.prog X.w H s.heap
  len : σ.length = X.N.length

section
variable {X : Cx} {pins : List (Addr × Obj)} {σ : List (Option V)} {H H' : Hp} {s : Shared} {h' : Heap}

theorem Cx.Ok.nofr (ok : X.Ok) {b : Addr} {o : Obj} (e : X.base.get? b = some o) : b ∉ X.fs := fun hb => by
  have := (ok.funs.mem hb).1
  rw [e] at this; cases this
theorem Inv.bs (I : Inv X pins σ H s) : ∀ b o, X.base.get? b = some o → s.heap.get? b = some o ∧ H b = none := fun b o e =>
  ⟨I.base.keep b o (I.ok.bs b o e).1 (I.ok.bs b o e).2 (I.ok.nofr e) (I.ok.noex b o e), I.base.free b o (I.ok.bs b o e).1 (I.ok.bs b o e).2 (I.ok.noex b o e)⟩
theorem Inv.bk (I : Inv X pins σ H s) : ∀ b o, X.base.get? b = some o → s.heap.get? b = some o := fun b o e => (I.bs b o e).1
theorem Inv.mod (I : Inv X pins σ H s) : Mod X.K X.mg X.base := I.ok.mod
theorem Inv.kIn (I : Inv X pins σ H s) : X.K.In s.heap := I.ok.mod.kin.keeps I.bk
theorem Inv.nolimit (I : Inv X pins σ H s) : s.heap.NoLimit := I.ok.mod.nolimit.keeps I.bk
/-- the frame over the base: for OpenK's rules (K.In X.base is I.mod.kin) -/
theorem Inv.fr (I : Inv X pins σ H s) : ∃ m, Fr X.base X.env.locals s.heap m :=
  let ⟨m, hn, _⟩ := I.loc
  ⟨m, hn, I.bk, Nat.le_trans I.ok.bsz I.ok.above⟩
theorem Inv.lt (I : Inv X pins σ H s) : X.env.locals < s.heap.objs.size := let ⟨_, hn, _⟩ := I.loc; hn.lt
theorem Inv.sz (I : Inv X pins σ H s) : X.s₀.heap.objs.size ≤ s.heap.objs.size := Nat.le_trans I.ok.above (Nat.le_of_lt I.lt)
theorem Inv.nofs (I : Inv X pins σ H s) {a : Addr} (h : s.heap.objs.size ≤ a) : a ∉ X.fs := fun hb => by
  obtain ⟨_, o, ho, _⟩ := I.ok.funs.mem hb
  exact absurd (Nat.lt_of_lt_of_le (Heap.lt_size ho) (Nat.le_trans I.sz h)) (Nat.lt_irrefl _)
theorem Inv.cne (I : Inv X pins σ H s) : ∀ x c, X.env.cells.lookup x = some c → c ≠ X.env.locals := fun x c e z => by
  obtain ⟨v, o, ho, hd⟩ := I.cell x c e
  obtain ⟨m, ⟨o', es, ep, ho', hd', _⟩, _⟩ := I.loc
  rw [z, ho'] at ho; cases ho; rw [hd'] at hd; cases hd
theorem Inv.funs (I : Inv X pins σ H s) : s.heap.FunFrames X.base X.outer := by
  have all : ∀ (l : List Env), (∀ b ∈ frs l, b ∈ X.fs) → X.s₀.heap.FunFrames X.base l → s.heap.FunFrames X.base l := by
    intro l
    induction l with
    | nil => intro _ _; trivial
    | cons env r ih =>
      intro hs hl
      obtain ⟨hk, ⟨L, o, hf, hn, ho, hd⟩, hr⟩ := hl
      have hL : L ∈ X.fs := hs L (by unfold frs; rw [List.filterMap_cons, hf]; exact List.mem_cons_self)
      obtain ⟨sl, e⟩ := I.base.slot L o ho (I.ok.frf L hL) hL fun z => I.ok.exfs L z hL
      exact ⟨hk, ⟨L, _, hf, hn, e, hd⟩, ih (fun b hb => hs b (by unfold frs; rw [List.filterMap_cons, hf]; exact List.mem_cons_of_mem _ hb)) hr⟩
  exact all X.outer (fun _ hb => hb) I.ok.funs

/-- the frames that run, for a call -/
theorem Inv.stack (I : Inv X pins σ H s) : s.heap.FunFrames X.base X.stack := by
  rcases I.ok.stk with e | ⟨e, hf⟩
  · rw [e]; exact I.funs
  · rw [e]
    obtain ⟨m, hn, _⟩ := I.loc
    refine .cons (by rw [I.ok.kind]; decide) hf hn ?_ I.funs
    exact Heap.get?_none_of_le (Nat.le_trans I.ok.bsz I.ok.above)
theorem Inv.stkSub (I : Inv X pins σ H s) : ∀ b ∈ frs X.stack, b ∈ X.env.locals :: X.fs := fun b hb => by
  rcases I.ok.stk with e | ⟨e, hf⟩
  · rw [e] at hb; exact List.mem_cons_of_mem _ hb
  · rw [e] at hb
    unfold frs at hb
    rw [List.filterMap_cons, hf] at hb
    exact hb
theorem Inv.stkFree (I : Inv X pins σ H s) : ∀ b ∈ frs X.stack, H b = none := fun b hb => by
  rcases List.mem_cons.mp (I.stkSub b hb) with e | hb
  · rw [e]; exact I.free
  · obtain ⟨_, o, ho, _⟩ := I.ok.funs.mem hb
    exact I.base.free b o ho (I.ok.frf b hb) fun z => I.ok.exfs b z hb

/-- THE STEP: the untracked objects but the frame and the records at ch are kept (the callers' frames up to slots), the frame's map is kept, the new abstract heap is held -/
theorem Inv.step {g' : Array GenState} {t' : Nat} {d' : Drawn} {ch : List Addr} (I : Inv X pins σ H s)
    (hch : ∀ b ∈ ch, (b ∈ X.ex ∨ X.s₀.heap.objs.size ≤ b) ∧ b ≠ X.env.locals ∧ (∀ x c, X.env.cells.lookup x = some c → c ≠ b) ∧ ∀ p ∈ X.pn ++ pins, p.1 ≠ b)
    (keep : ∀ b o, b ≠ X.env.locals → b ∉ X.fs → b ∉ ch → s.heap.get? b = some o → H b = none → h'.get? b = some o)
    (slot : ∀ b o, b ≠ X.env.locals → b ∈ X.fs → b ∉ ch → s.heap.get? b = some o → H b = none → ∃ sl, h'.get? b = some { o with slots := sl }) (free : ∀ b o, b ∉ ch → s.heap.get? b = some o → H b = none → H' b = none)
    (there : ∀ b o, b ∉ ch → s.heap.get? b = some o → ∃ o', h'.get? b = some o')
    (tups : ∀ b xs, H b = some (.tup xs) → H' b = some (.tup xs)) (frzs : ∀ b o u, H b = some (.frz o u) → H' b = some (.frz o u)) (tbls : ∀ b ps, H b = some (.tbl ps) → ∃ more, H' b = some (.tbl (ps ++ more)))
    (ns : ∀ m, s.heap.Ns X.env.locals m → h'.Ns X.env.locals m) (hok : HOk X.prog X.w H' h') (hg : AllBare g') :
    Inv X pins σ H' { s with heap := h', gens := g', drawn := d', toks := t' } := by
  have neL : ∀ b o, X.s₀.heap.get? b = some o → b ≠ X.env.locals := fun b o e => Nat.ne_of_lt (Nat.lt_of_lt_of_le (Heap.lt_size e) I.ok.above)
  have neC : ∀ b o, X.s₀.heap.get? b = some o → b ∉ X.ex → b ∉ ch := fun b o e hx hb => by
    rcases (hch b hb).1 with z | z
    · exact hx z
    · exact absurd (Nat.lt_of_lt_of_le (Heap.lt_size e) z) (Nat.lt_irrefl _)
  have cellK : ∀ x c, X.env.cells.lookup x = some c → ∀ v, s.heap.IsCell c v → h'.IsCell c v := fun x c e v ⟨o, ho, hd⟩ => by
    have nch : c ∉ ch := fun z => (hch c z).2.2.1 x c e rfl
    by_cases hc : c ∈ X.fs
    · obtain ⟨sl, q⟩ := slot c o (I.cne x c e) hc nch ho (I.freeC x c e)
      exact ⟨_, q, hd⟩
    · exact ⟨o, keep c o (I.cne x c e) hc nch ho (I.freeC x c e), hd⟩
  refine ⟨I.ok, I.os, hg, ⟨fun b o e n hb hx => ?_, fun b o e n hb hx => ?_, fun b o e n hx => ?_, fun b o e hx => ?_, fun b xs e => tups b xs (I.base.tups b xs e), fun b o xs e => frzs b o xs (I.base.frzs b o xs e), fun b ps e => ?_⟩, ?_, fun x c e => ?_, ?_, fun x c e => ?_, fun p hp => ?_, hok, I.len⟩
  · exact keep b o (neL b o e) hb (neC b o e hx) (I.base.keep b o e n hb hx) (I.base.free b o e n hx)
  · obtain ⟨sl, e1⟩ := I.base.slot b o e n hb hx
    obtain ⟨sl', e2⟩ := slot b _ (neL b o e) hb (neC b o e hx) e1 (I.base.free b o e n hx)
    exact ⟨sl', e2⟩
  · obtain ⟨o', e1⟩ := I.base.there b o e hx
    exact free b o' (neC b o e hx) e1 (I.base.free b o e n hx)
  · obtain ⟨o', e1⟩ := I.base.there b o e hx
    exact there b o' (neC b o e hx) e1
  · obtain ⟨m1, e1⟩ := I.base.tbls b ps e
    obtain ⟨m2, e2⟩ := tbls b _ e1
    exact ⟨m1 ++ m2, by rw [e2, Array.append_assoc]⟩
  · obtain ⟨m, hn, hl⟩ := I.loc
    refine ⟨m, ns m hn, fun i x v e1 e2 e3 => ?_⟩
    obtain ⟨u, r, l⟩ := hl i x v e1 e2 e3
    refine ⟨u, r, ?_⟩
    rcases l with l | ⟨k, c, e, z⟩
    · exact .inl l
    · exact .inr ⟨k, c, e, cellK x c e _ z⟩
  · obtain ⟨v, z⟩ := I.cell x c e
    exact ⟨v, cellK x c e v z⟩
  · obtain ⟨m, ⟨o, _, _, ho, _⟩, _⟩ := I.loc
    exact free _ o (fun z => (hch _ z).2.1 rfl) ho I.free
  · obtain ⟨v, o, ho, hd⟩ := I.cell x c e
    exact free c o (fun z => (hch c z).2.2.1 x c e rfl) ho (I.freeC x c e)
  · obtain ⟨e, n, ne, nf, d⟩ := I.pin p hp
    have nch : p.1 ∉ ch := fun z => (hch p.1 z).2.2.2 p hp rfl
    exact ⟨keep p.1 p.2 ne nf nch e n, free p.1 p.2 nch e n, ne, nf, d⟩
/-- .. where the frame's own object is kept too -/
theorem Inv.un {t' : Nat} (I : Inv X pins σ H s) (u : Un X.fs [] H H' s.heap h') (hok : HOk X.prog X.w H' h') : Inv X pins σ H' { s with heap := h', toks := t' } := by
  obtain ⟨m, ⟨o, es, ep, ho, r⟩, _⟩ := id I.loc
  obtain ⟨sl, hL⟩ := u.any ho I.free (by simp)
  exact I.step (g' := s.gens) (d' := s.drawn) (ch := []) (fun _ z => nomatch z) (fun b o _ hb _ e n => u.keep b o e n hb (by simp)) (fun b o _ hb _ e n => u.slot b o e n hb (by simp)) (fun b o _ e n => u.free b o e n (by simp)) (fun b o _ e => u.there b o e (by simp)) u.tups u.frzs u.tbls (fun m' hm => by
    obtain ⟨o', es', ep', ho', r'⟩ := hm
    rw [ho] at ho'; cases ho'
    exact ⟨_, es', ep', hL, r'⟩) hok I.bare
/-- behind a call (or a comprehension's block): the slots of this frame may have changed too, the records at ch may have turned -/
theorem Inv.call {g' : Array GenState} {t' : Nat} {d' : Drawn} {ch : List Addr} (I : Inv X pins σ H s) (u : Un (frs X.stack) ch H H' s.heap h') (hok : HOk X.prog X.w H' h') (hg : AllBare g')
    (hch : ∀ b ∈ ch, (b ∈ X.ex ∨ X.s₀.heap.objs.size ≤ b) ∧ b ≠ X.env.locals ∧ (∀ x c, X.env.cells.lookup x = some c → c ≠ b) ∧ ∀ p ∈ X.pn ++ pins, p.1 ≠ b) :
    Inv X pins σ H' { s with heap := h', gens := g', drawn := d', toks := t' } := by
  obtain ⟨m, ⟨o, es, ep, ho, r⟩, _⟩ := id I.loc
  obtain ⟨sl, hL⟩ := u.any ho I.free fun z => (hch _ z).2.1 rfl
  exact I.step (ch := ch) hch (fun b o hL hb hc e n => u.keep b o e n (fun z => (List.mem_cons.mp (I.stkSub b z)).elim hL hb) hc) (fun b o _ _ hc e n => u.any e n hc) (fun b o hc e n => u.free b o e n hc) (fun b o hc e => u.there b o e hc) u.tups u.frzs u.tbls (fun m' hm => by
    obtain ⟨o', es', ep', ho', r'⟩ := hm
    rw [ho] at ho'; cases ho'
    exact ⟨_, es', ep', hL, r'⟩) hok hg
/-- an untracked record of ours (an iterator) has turned -/
theorem Inv.turned {t' : Nat} {it : Addr} (I : Inv X pins σ H s) (k : ∀ b o, b ≠ it → s.heap.get? b = some o → h'.get? b = some o) (hn : H it = none) (hL : it ≠ X.env.locals)
    (h1 : it ∈ X.ex ∨ X.s₀.heap.objs.size ≤ it) (h2 : ∀ x c, X.env.cells.lookup x = some c → c ≠ it) (h3 : ∀ p ∈ X.pn ++ pins, p.1 ≠ it) : Inv X pins σ H { s with heap := h', toks := t' } := by
  have nit : ∀ b u, H b = some u → b ≠ it := fun b u e z => by rw [z, hn] at e; cases e
  refine I.step (g' := s.gens) (d' := s.drawn) (ch := [it]) (fun b hb => ?_) (fun b o _ _ hc e _ => k b o (fun z => hc (by simp [z])) e) (fun b o _ _ hc e _ => ⟨o.slots, k b o (fun z => hc (by simp [z])) e⟩) (fun _ _ _ _ n => n)
    (fun b o hc e => ⟨o, k b o (fun z => hc (by simp [z])) e⟩) (fun _ _ e => e) (fun _ _ _ e => e) (fun b ps e => ⟨#[], by rw [e]; simp⟩) (fun m hm => ?_) (fun b u e => ?_) I.bare
  · have e : b = it := by simpa using hb
    subst e
    exact ⟨h1, hL, h2, h3⟩
  · obtain ⟨o, es, ep, ho, r⟩ := hm
    exact ⟨o, es, ep, k _ o (Ne.symm hL) ho, r⟩
  · refine (I.hok b u e).stay (fun c v hc q => k c v ?_ q) (fun _ q => q) fun _ _ q => q
    rcases hc with z | z
    · rw [z]; exact nit b u e
    · exact nit c _ z
theorem Inv.tok (I : Inv X pins σ H s) (t : Nat) : Inv X pins σ H { s with toks := t } := I.un (h' := s.heap) (t' := t) Un.refl I.hok
/-- all objects kept -/
theorem Inv.kept {t' : Nat} (I : Inv X pins σ H s) (k : ∀ b u, s.heap.get? b = some u → h'.get? b = some u) : Inv X pins σ H { s with heap := h', toks := t' } := I.un (Un.kept k) (I.hok.kept k)
/-- a new object laid and tracked -/
theorem Inv.laid {a : Addr} {o : HO} {t' : Nat} (I : Inv X pins σ H s) (k : ∀ b u, s.heap.get? b = some u → h'.get? b = some u) (hp : s.heap.objs.size ≤ a) (new : ObjOk X.prog X.w (upd H a o) h' a o) :
    Inv X pins σ (upd H a o) { s with heap := h', toks := t' } := I.un (Un.laid k hp (I.hok.fresh hp)) (I.hok.laid k hp new)
/-- an object written -/
theorem Inv.write {x e : Addr} {o : HO} {t' : Nat} (I : Inv X pins σ H s) (mu : Mut (H x)) (he : e = x ∨ H e = some (.own x)) (k : ∀ b u, b ≠ e → s.heap.get? b = some u → h'.get? b = some u) (heo : ∃ u, h'.get? e = some u)
    (new : ObjOk X.prog X.w (upd H x o) h' x o) : Inv X pins σ (upd H x o) { s with heap := h', toks := t' } := I.un (Un.write mu he k heo) (I.hok.write mu he k heo new)
theorem Inv.pins_of {pins' : List (Addr × Obj)} (I : Inv X pins σ H s) (h : ∀ p ∈ pins', s.heap.get? p.1 = some p.2 ∧ H p.1 = none ∧ p.1 ≠ X.env.locals ∧ p.1 ∉ X.fs ∧ ∀ v, p.2.data ≠ .cell v) : Inv X pins' σ H s :=
  ⟨I.ok, I.os, I.bare, I.base, I.loc, I.cell, I.free, I.freeC, fun p hp => (List.mem_append.mp hp).elim (fun z => I.pin p (List.mem_append_left _ z)) (h p), I.hok, I.len⟩

theorem nodup_ix {N : List Str} (hN : N.Nodup) {i j : Nat} {x : Str} (a : N[i]? = some x) (b : N[j]? = some x) : i = j := by
  obtain ⟨h1, e1⟩ := List.getElem?_eq_some_iff.mp a
  obtain ⟨h2, e2⟩ := List.getElem?_eq_some_iff.mp b
  exact (List.getElem_inj hN).mp (e1.trans e2.symm)

/-- a name is stored; what changed -/
theorem store_ok2 {M : Model} {A : Around} {E : Value → Shared → Prop} {i : Nat} {x : Str} {v : V} {u : Value} {Q : Unit → Shared → Prop} (I : Inv X pins σ H s) (hN : X.N.Nodup) (hi : X.N[i]? = some x) (hx : Loc X.env.scope x) (r : RelV v u)
    (h : ∀ s', Inv X pins (σ.set i (some v)) H s' → (∃ a, Heap.SameBut a s.heap s'.heap ∧ (a = X.env.locals ∨ X.env.cells.lookup x = some a)) → Q () s') (hf : X.fn x = true ∨ X.env.scope.names.lookup x = some .local := by first | exact .inl rfl | exact .inr rfl | assumption) : wpAny M A (storeName X.env x u) Q E s := by
  obtain ⟨m, hn, hl⟩ := id I.loc
  have hcls : (X.env.scope.kind == .class || (X.env.scope.kind == .module && X.env.locals != X.env.globals)) = false := by rw [I.ok.kind]; rfl
  have hiσ : i < σ.length := by rw [I.len]; exact (List.getElem?_eq_some_iff.mp hi).1
  have cne := I.cne
  have tracked : ∀ {a : Addr} {h' : Heap}, (∃ o, s.heap.get? a = some o ∧ H a = none) → Heap.SameBut a s.heap h' → HOk X.prog X.w H h' := fun {a h'} ha hs b ob e => by
    obtain ⟨_, _, hfree⟩ := ha
    refine (I.hok b ob e).stay (fun c w' hc q => (hs.2 c ?_).trans q) (fun _ q => q) fun _ _ q => q
    rintro rfl
    rcases hc with rfl | hc
    · rw [hfree] at e; cases e
    · rw [hfree] at hc; cases hc
  rcases hx with hk | hk
  · refine wpAny_storeName_local hk hn (fun h' hn' hs => ?_) hcls
    obtain ⟨oL, _, _, hoL, _⟩ := id hn
    refine h _ ⟨I.ok, I.os, I.bare, ⟨fun b o e n hb hx => ?_, fun b o e n hb hx => ?_, I.base.free, fun b o e hx => ?_, I.base.tups, I.base.frzs, I.base.tbls⟩, ⟨_, hn', fun j y v' e1 e2 e3 => ?_⟩, fun y c e => ?_, I.free, I.freeC, fun p hp => ?_, tracked ⟨oL, hoL, I.free⟩ hs, by simpa using I.len⟩ ⟨_, hs, .inl rfl⟩
    · exact (hs.2 b (Nat.ne_of_lt (Nat.lt_of_lt_of_le (Heap.lt_size e) I.ok.above))).trans (I.base.keep b o e n hb hx)
    · obtain ⟨sl, e1⟩ := I.base.slot b o e n hb hx
      exact ⟨sl, (hs.2 b (Nat.ne_of_lt (Nat.lt_of_lt_of_le (Heap.lt_size e) I.ok.above))).trans e1⟩
    · obtain ⟨o', e1⟩ := I.base.there b o e hx
      exact ⟨o', (hs.2 b (Nat.ne_of_lt (Nat.lt_of_lt_of_le (Heap.lt_size e) I.ok.above))).trans e1⟩
    · by_cases hj : j = i
      · subst hj
        rw [hi] at e1; cases e1
        rw [List.getElem?_set_self hiσ] at e2
        cases e2
        exact ⟨u, r, .inl ⟨hk, by simp⟩⟩
      · rw [List.getElem?_set_ne (Ne.symm hj)] at e2
        obtain ⟨u', r', q⟩ := hl j y v' e1 e2 e3
        refine ⟨u', r', ?_⟩
        rcases q with ⟨k, e⟩ | ⟨k, c, e, z⟩
        · refine .inl ⟨k, ?_⟩
          have : y ≠ x := fun e => hj (nodup_ix hN e1 (e ▸ hi))
          simp [this, e]
        · exact .inr ⟨k, c, e, z.sameBut hs (cne y c e)⟩
    · obtain ⟨w', z⟩ := I.cell y c e
      exact ⟨w', z.sameBut hs (cne y c e)⟩
    · obtain ⟨e, n, ne, nf, d⟩ := I.pin p hp
      exact ⟨(hs.2 p.1 ne).trans e, n, ne, nf, d⟩
  · have hfn : X.fn x = true := by
      rcases hf with z | z
      · exact z
      · rw [z] at hk; cases hk
    obtain ⟨c, hc⟩ := I.ok.has x (.inl hk)
    obtain ⟨w', z⟩ := I.cell x c hc
    refine wpAny_storeName_cell I.ok.kind hk hc z (fun h' hc' hs => ?_)
    obtain ⟨oc, hoc, hocd⟩ := id z
    refine h { s with heap := h' } ⟨I.ok, I.os, I.bare, ⟨fun b o e n hb hx => ?_, fun b o e n hb hx => ?_, I.base.free, fun b o e hx => ?_, I.base.tups, I.base.frzs, I.base.tbls⟩, ⟨m, hn.sameBut hs (Ne.symm (cne x c hc)), fun j y v' e1 e2 e3 => ?_⟩, fun y c' e => ?_, I.free, I.freeC, fun p hp => ?_, tracked ⟨oc, hoc, I.freeC x c hc⟩ hs, by simpa using I.len⟩ ⟨c, hs, .inr hc⟩
    · exact (hs.2 b (Nat.ne_of_lt (Nat.lt_of_lt_of_le (Heap.lt_size e) (I.ok.cab x c hfn hc)))).trans (I.base.keep b o e n hb hx)
    · obtain ⟨sl, e1⟩ := I.base.slot b o e n hb hx
      exact ⟨sl, (hs.2 b (Nat.ne_of_lt (Nat.lt_of_lt_of_le (Heap.lt_size e) (I.ok.cab x c hfn hc)))).trans e1⟩
    · obtain ⟨o', e1⟩ := I.base.there b o e hx
      exact ⟨o', (hs.2 b (Nat.ne_of_lt (Nat.lt_of_lt_of_le (Heap.lt_size e) (I.ok.cab x c hfn hc)))).trans e1⟩
    · by_cases hj : j = i
      · subst hj
        rw [hi] at e1; cases e1
        rw [List.getElem?_set_self hiσ] at e2
        cases e2
        exact ⟨u, r, .inr ⟨.inl hk, c, hc, hc'⟩⟩
      · rw [List.getElem?_set_ne (Ne.symm hj)] at e2
        obtain ⟨u', r', q⟩ := hl j y v' e1 e2 e3
        refine ⟨u', r', ?_⟩
        rcases q with q | ⟨k, c', e, z'⟩
        · exact .inl q
        · refine .inr ⟨k, c', e, z'.sameBut hs ?_⟩
          rintro rfl
          exact hj (nodup_ix hN e1 (I.ok.inj _ _ _ e hc ▸ hi))
    · by_cases hcc : c' = c
      · subst hcc; exact ⟨_, hc'⟩
      · obtain ⟨w2, z2⟩ := I.cell y c' e
        exact ⟨w2, z2.sameBut hs hcc⟩
    · obtain ⟨e, n, ne, nf, d⟩ := I.pin p hp
      refine ⟨(hs.2 p.1 ?_).trans e, n, ne, nf, d⟩
      intro q
      rw [q, hoc] at e
      have q' : oc = p.2 := Option.some.inj e
      exact d w' (by rw [← q']; exact hocd)
theorem store_ok {M : Model} {A : Around} {E : Value → Shared → Prop} {i : Nat} {x : Str} {v : V} {u : Value} {Q : Unit → Shared → Prop} (I : Inv X pins σ H s) (hN : X.N.Nodup) (hi : X.N[i]? = some x) (hx : Loc X.env.scope x) (r : RelV v u)
    (h : ∀ s', Inv X pins (σ.set i (some v)) H s' → Q () s') (hf : X.fn x = true ∨ X.env.scope.names.lookup x = some .local := by first | exact .inl rfl | exact .inr rfl | assumption) : wpAny M A (storeName X.env x u) Q E s :=
  store_ok2 I hN hi hx r (fun s' I' _ => h s' I') hf
/-- behind a call or a block, the state as it is -/
theorem Inv.call' {s' : Shared} {ch : List Addr} (I : Inv X pins σ H s) (ho : s'.os = s.os) (u : Un (frs X.stack) ch H H' s.heap s'.heap) (hok : HOk X.prog X.w H' s'.heap) (hg : AllBare s'.gens)
    (hch : ∀ b ∈ ch, (b ∈ X.ex ∨ X.s₀.heap.objs.size ≤ b) ∧ b ≠ X.env.locals ∧ (∀ x c, X.env.cells.lookup x = some c → c ≠ b) ∧ ∀ p ∈ X.pn ++ pins, p.1 ≠ b) : Inv X pins σ H' s' := by
  obtain ⟨h', g', d', t', o'⟩ := s'
  have e : o' = s.os := ho
  subst e
  exact I.call (g' := g') (t' := t') (d' := d') u hok hg hch
end

/-! ### the judgements -/
/-- an exception: its class, its own dict's address (where it has one), the abstract heap behind it -/
abbrev XK := Value → Option Addr → Hp → Prop
abbrev St := List (Option V)
abbrev VK := V → Hp → Prop
/-- an expression's reading; a test's; an argument list's -/
abbrev TE := St → Hp → VK → Prop
abbrev TT := St → Hp → (Bool → Hp → Prop) → Prop
abbrev TA := St → Hp → (List V → Hp → Prop) → Prop
/-- what is wanted behind a statement -/
structure Ends where
  nx : St → Hp → Prop
  rt : VK
  bk : St → Hp → Prop := fun _ _ => False
  ct : St → Hp → Prop := fun _ _ => False
abbrev TS := Ends → St → Hp → Prop

def EP (X : Cx) (pins : List (Addr × Obj)) (σ : St) (Q : VK) (u : Value) (s' : Shared) : Prop := ∃ v H', Inv X pins σ H' s' ∧ RelV v u ∧ Q v H'
def TP (X : Cx) (pins : List (Addr × Obj)) (σ : St) (Q : Bool → Hp → Prop) (b : Bool) (s' : Shared) : Prop := ∃ H', Inv X pins σ H' s' ∧ Q b H'
def AP (X : Cx) (pins : List (Addr × Obj)) (σ : St) (Q : List V → Hp → Prop) (us : List Value) (s' : Shared) : Prop := ∃ vs H', Inv X pins σ H' s' ∧ Vals vs us ∧ Q vs H'
def SP (X : Cx) (pins : List (Addr × Obj)) (D : Ends) (f : Flow) (s' : Shared) : Prop :=
  match f with
  | .next => ∃ σ' H', Inv X pins σ' H' s' ∧ D.nx σ' H'
  | .brk => ∃ σ' H', Inv X pins σ' H' s' ∧ D.bk σ' H'
  | .cont => ∃ σ' H', Inv X pins σ' H' s' ∧ D.ct σ' H'
  | .ret u => ∃ v σ' H', Inv X pins σ' H' s' ∧ RelV v u ∧ D.rt v H'

def PE (X : Cx) (e : Expr) (t : TE) : Prop :=
  ∀ (pins : List (Addr × Obj)) (s : Shared) (σ : St) (H : Hp) (Q : VK), Inv X pins σ H s → t σ H Q → wpAny (model X.prog X.w) X.A (eval e X.env) (EP X pins σ Q) X.xe s
def PT (X : Cx) (e : Expr) (t : TT) : Prop :=
  ∀ (pins : List (Addr × Obj)) (s : Shared) (σ : St) (H : Hp) (Q : Bool → Hp → Prop), Inv X pins σ H s → t σ H Q → wpAny (model X.prog X.w) X.A (isTrue e X.env (eval e X.env)) (TP X pins σ Q) X.xe s
/-- a test whatever its 'whole' is (and, or) -/
def PW (X : Cx) (e : Expr) (t : TT) : Prop :=
  ∀ (whole : Sem Value) (pins : List (Addr × Obj)) (s : Shared) (σ : St) (H : Hp) (Q : Bool → Hp → Prop), Inv X pins σ H s → t σ H Q → wpAny (model X.prog X.w) X.A (isTrue e X.env whole) (TP X pins σ Q) X.xe s
theorem PW.pt {X : Cx} {e : Expr} {t : TT} (h : PW X e t) : PT X e t := h _
/-- an argument list (no star), from the left -/
def PA (X : Cx) (es : List Expr) (t : TA) : Prop :=
  ∀ (pos : Pos) (pins : List (Addr × Obj)) (s : Shared) (σ : St) (H : Hp) (Q : List V → Hp → Prop), Inv X pins σ H s → t σ H Q → wpAny (model X.prog X.w) X.A (spliced (backTo pos (starEach es X.env))) (AP X pins σ Q) X.xe s
def PS (X : Cx) (st : Stmt) (t : TS) : Prop :=
  ∀ (pins : List (Addr × Obj)) (s : Shared) (σ : St) (H : Hp) (D : Ends), Inv X pins σ H s → t D σ H → wpAny (model X.prog X.w) X.A (exec st X.env) (SP X pins D) X.xe s
def PSs (X : Cx) (st : List Stmt) (t : TS) : Prop :=
  ∀ (pins : List (Addr × Obj)) (s : Shared) (σ : St) (H : Hp) (D : Ends), Inv X pins σ H s → t D σ H → wpAny (model X.prog X.w) X.A (execs st X.env) (SP X pins D) X.xe s
/-- weaken the end -/
theorem thn {α : Type} {t : Sem α} {Q Q' : α → Shared → Prop} {M : Model} {A : Around} {E : Value → Shared → Prop} {s : Shared} (h : wpAny M A t Q E s) (hQ : ∀ a s, Q a s → Q' a s) : wpAny M A t Q' E s := wpAny_mono h hQ fun _ _ x => x
end L2

namespace L2
open PySem PySem.Spec PyProof.Rows
section
variable {X : Cx}

/-- two expressions in a row -/
theorem bin {a b : Expr} {ta tb : TE} (ha : PE X a ta) (hb : PE X b tb) {pins : List (Addr × Obj)} {s : Shared} {σ : St} {H : Hp} {R : V → V → Hp → Prop} (I : Inv X pins σ H s) (h : ta σ H fun x H1 => tb σ H1 fun y H2 => R x y H2)
    {α : Type} {Q : α → Shared → Prop} {f : Value → Value → Sem α}
    (hf : ∀ v u s2 x y H2, Inv X pins σ H2 s2 → RelV x v → RelV y u → R x y H2 → wpAny (model X.prog X.w) X.A (f v u) Q X.xe s2) :
    wpAny (model X.prog X.w) X.A (eval a X.env) (fun v s₁ => wpAny (model X.prog X.w) X.A (eval b X.env) (fun u s₂ => wpAny (model X.prog X.w) X.A (f v u) Q X.xe s₂) X.xe s₁) X.xe s := by
  refine thn (ha pins s σ H _ I h) fun v s1 ⟨x, H1, I1, r1, q1⟩ => ?_
  refine thn (hb pins s1 σ H1 _ I1 q1) fun u s2 ⟨y, H2, I2, r2, q2⟩ => ?_
  exact hf v u s2 x y H2 I2 r1 r2 q2

/-! ### names and constants -/
def tVar (i : Nat) : TE := fun σ H Q => ∃ v, σ[i]? = some (some v) ∧ Q v H
def tC (v : V) : TE := fun _ H Q => Q v H
theorem pe_var {i : Nat} {x : Str} {pos : Pos} (hN : X.N[i]? = some x) (hv : Vis X.env.scope x) (hd : (x == ("__debug__" : Str)) = false := by decide) (hcd : (x == ("__classdict__" : Str)) = false := by decide) : PE X (.Name x pos) (tVar i) := by
  intro pins s σ H Q I h
  obtain ⟨v, e, h⟩ := h
  obtain ⟨m, hn, hl⟩ := I.loc
  obtain ⟨u, r, l⟩ := hl i x v hN e hv
  have fin : EP X pins σ Q u s := ⟨v, H, I, r, h⟩
  rcases l with ⟨hk, hm⟩ | ⟨hk, c, hc, hcell⟩
  · exact wpAny_Name (wpAny_loadName_local I.ok.kind hk hn hm fin) hd
  · rcases hk with hk | hk
    · exact wpAny_Name (wpAny_loadName_cell I.ok.kind hk hc hcell fin) hd
    · exact wpAny_Name (wpAny_loadName_free I.ok.kind hk hc hcell fin hcd) hd
theorem pe_int {i j pos} : PE X (.Constant (.int i) j pos) (tC (.int i)) := fun _ _ _ H _ I h => wpAny_Constant_int ⟨.int i, H, I.tok _, ⟨_, rfl⟩, h⟩
theorem pe_bl {b j pos} : PE X (.Constant (.bool b) j pos) (tC (.bl b)) := fun _ _ _ H _ I h => Constant_bool ⟨.bl b, H, I, rfl, h⟩
theorem pe_non {j pos} : PE X (.Constant .none j pos) (tC .non) := fun _ _ _ H _ I h => Constant_none ⟨.non, H, I, rfl, h⟩
theorem pe_str {x j pos} : PE X (.Constant (.str x) j pos) (tC (.str x)) := fun _ _ _ H _ I h => Calls.Constant_str ⟨.str x, H, I.tok _, ⟨_, rfl⟩, h⟩

/-- a global name of the def -/
def Gl (X : Cx) (x : Str) : Prop := X.env.kindOf x = some .globalImplicit
theorem ld_glob {E : Value → Shared → Prop} {pins : List (Addr × Obj)} {s : Shared} {σ : St} {H : Hp} {x : Str} {u : Value} {pos : Pos} {Q : Value → Shared → Prop} (I : Inv X pins σ H s) (hg : Gl X x) (hm : X.mg x = some u) (h : Q u s)
    (hd : (x == ("__debug__" : Str)) = false := by decide) : wpAny (model X.prog X.w) X.A (eval (.Name x pos) X.env) Q E s :=
  Calls.Name_function_global I.ok.kind hg (Calls.loadGlobal_global (by rw [I.ok.glob]; exact I.mod.glob.keeps I.bk) hm h) hd
theorem ld_blt {E : Value → Shared → Prop} {pins : List (Addr × Obj)} {s : Shared} {σ : St} {H : Hp} {x : Str} {u : Value} {pos : Pos} {Q : Value → Shared → Prop} (I : Inv X pins σ H s) (hg : Gl X x) (hm : X.mg x = none) (hv : bootBuiltins x = some u) (h : Q u s)
    (hn : x ≠ "__name__" := by decide) (hd : (x == ("__debug__" : Str)) = false := by decide) : wpAny (model X.prog X.w) X.A (eval (.Name x pos) X.env) Q E s := by
  obtain ⟨mb, h1, h2⟩ := I.mod.blt
  exact Calls.Name_function_global I.ok.kind hg (Calls.loadGlobal_builtin (by rw [I.ok.glob]; exact I.mod.glob.keeps I.bk) hm (by rw [I.ok.blt]; exact h1.keeps I.bk) ((h2 x hn).trans hv) h) hd
/-- a module's constant, a class, a function, as a value -/
theorem pe_glob {x : Str} {v : V} {u : Value} {pos : Pos} (hg : Gl X x) (hm : X.mg x = some u) (r : RelV v u) (hd : (x == ("__debug__" : Str)) = false := by decide) : PE X (.Name x pos) (tC v) :=
  fun _ _ _ H _ I h => ld_glob I hg hm ⟨v, H, I, r, h⟩ hd
theorem pe_bltn {x : Str} {v : V} {u : Value} {pos : Pos} (hg : Gl X x) (hm : X.mg x = none) (hv : bootBuiltins x = some u) (r : RelV v u) (hn : x ≠ "__name__" := by decide) (hd : (x == ("__debug__" : Str)) = false := by decide) : PE X (.Name x pos) (tC v) :=
  fun _ _ _ H _ I h => ld_blt I hg hm hv ⟨v, H, I, r, h⟩ hn hd

/-! ### arithmetic -/
variable {a b : Expr} {ta tb : TE} {pos : Pos}
/-! ### comparisons -/
def PC (X : Cx) (op : CmpOp) (a b : Expr) (t : TE) : Prop :=
  ∀ (pins : List (Addr × Obj)) (s : Shared) (σ : St) (H : Hp) (Q : VK), Inv X pins σ H s → t σ H Q →
    wpAny (model X.prog X.w) X.A (eval a X.env) (fun v s₁ => wpAny (model X.prog X.w) X.A (eval b X.env) (fun u s₂ => wpAny (model X.prog X.w) X.A (compareOp op v u) (EP X pins σ Q) X.xe s₂) X.xe s₁) X.xe s
theorem nobehind (b : Expr) {op : CmpOp} (h : op ≠ .In) (h2 : op ≠ .NotIn) : behindInMarks op b = false := by
  have e1 : (op == CmpOp.In) = false := by cases op <;> first | rfl | exact absurd rfl h
  have e2 : (op == CmpOp.NotIn) = false := by cases op <;> first | rfl | exact absurd rfl h2
  cases b <;> simp [behindInMarks, e1, e2]
/-- a comparison as a value, as a test -/
def tB (t : TE) : TT := fun σ H Q => t σ H fun x H1 => ∃ c, x = .bl c ∧ Q c H1
theorem pt_cmp {op : CmpOp} {t : TE} (h : PC X op a b t) (h1 : behindInMarks op b = false := by first | exact nobehind _ (by decide) (by decide) | rfl) : PT X (.Compare a [op] [b] pos) (tB t) := by
  intro pins s σ H Q I hw
  refine wpAny_isTrue_Compare1 (thn (h pins s σ H _ I hw) fun v s1 h1 => thn h1 fun u s2 h2 => thn h2 fun c s3 ⟨x, H1, I1, r1, q1⟩ => ?_) h1
  obtain ⟨d, rfl, q⟩ := q1
  cases r1
  exact wpAny_truthy_bool ⟨H1, I1, q⟩
/-- an expression whose value is a bool, as a test -/
theorem pt_val {e : Expr} {t : TE} (h : PE X e t) (he : ∀ whole, isTrue e X.env whole = (do let v ← whole; standAt e.pos; holding [v] (truthy v)) := by intro _; rfl) : PT X e (tB t) := by
  intro pins s σ H Q I hw
  refine isTrue_plain (thn (h pins s σ H _ I hw) fun v s1 ⟨x, H1, I1, r1, q1⟩ => ?_) (he _)
  obtain ⟨d, rfl, q⟩ := q1
  cases r1
  exact wpAny_truthy_bool ⟨H1, I1, q⟩

/-! ### and, or, not -/
variable {tA tB' : TT} {rest : List Expr}
def tAnd (t u : TT) : TT := fun σ H Q => t σ H fun c H1 => if c = true then u σ H1 Q else Q false H1
def tOr (t u : TT) : TT := fun σ H Q => t σ H fun c H1 => if c = true then Q true H1 else u σ H1 Q
def tNot (t : TT) : TT := fun σ H Q => t σ H fun c H1 => Q (!c) H1
theorem pw_and1 (ha : PT X a tA) : PW X (.BoolOp .And [a] pos) tA := by
  intro wh pins s σ H Q I h
  refine isTrue_and (thn (ha pins s σ H Q I h) fun c s1 e => ?_)
  cases c with
  | true => exact isTrue_and_nil e
  | false => exact e
theorem pw_or1 (ha : PT X a tA) : PW X (.BoolOp .Or [a] pos) tA := by
  intro wh pins s σ H Q I h
  refine isTrue_or (thn (ha pins s σ H Q I h) fun c s1 e => ?_)
  cases c with
  | false => exact isTrue_or_nil e
  | true => exact e
theorem pw_and (ha : PT X a tA) (hb : PW X (.BoolOp .And (b :: rest) pos) tB') : PW X (.BoolOp .And (a :: b :: rest) pos) (tAnd tA tB') := by
  intro wh pins s σ H Q I h
  refine isTrue_and (thn (ha pins s σ H _ I h) fun c s1 ⟨H1, I1, q1⟩ => ?_)
  cases c with
  | true => exact hb wh pins s1 σ H1 Q I1 q1
  | false => exact ⟨H1, I1, q1⟩
theorem pw_or (ha : PT X a tA) (hb : PW X (.BoolOp .Or (b :: rest) pos) tB') : PW X (.BoolOp .Or (a :: b :: rest) pos) (tOr tA tB') := by
  intro wh pins s σ H Q I h
  refine isTrue_or (thn (ha pins s σ H _ I h) fun c s1 ⟨H1, I1, q1⟩ => ?_)
  cases c with
  | true => exact ⟨H1, I1, q1⟩
  | false => exact hb wh pins s1 σ H1 Q I1 q1
theorem pt_not (ha : PT X a tA) : PT X (.UnaryOp .Not a pos) (tNot tA) := by
  intro pins s σ H Q I h
  exact isTrue_not (ha pins s σ H (fun c H1 => Q (!c) H1) I h)
/-- .. as values (bools) -/
def tAndV (ta tb : TE) : TE := fun σ H Q => ta σ H fun x H1 => ∃ c, x = .bl c ∧ if c = true then tb σ H1 Q else Q (.bl false) H1
def tNotV (ta : TE) : TE := fun σ H Q => ta σ H fun x H1 => ∃ c, x = .bl c ∧ Q (.bl (!c)) H1
theorem pe_one {op} {t : TE} (h : PE X a t) : PE X (.BoolOp op [a] pos) t := fun pins s σ H Q I hw => BoolOp_one (h pins s σ H Q I hw)
theorem pe_and (ha : PE X a ta) (hb : PE X (.BoolOp .And (b :: rest) pos) tb) : PE X (.BoolOp .And (a :: b :: rest) pos) (tAndV ta tb) := by
  intro pins s σ H Q I h
  refine BoolOp_and (thn (ha pins s σ H _ I h) fun v s1 ⟨x, H1, I1, r1, q1⟩ => ?_)
  obtain ⟨c, rfl, q1⟩ := q1
  cases r1
  refine wpAny_truthy_bool ?_
  cases c with
  | true => exact hb pins s1 σ H1 Q I1 q1
  | false => exact ⟨.bl false, H1, I1, rfl, q1⟩
theorem pe_not (ha : PE X a ta) : PE X (.UnaryOp .Not a pos) (tNotV ta) := by
  intro pins s σ H Q I h
  refine UnaryOp_ (thn (ha pins s σ H _ I h) fun v s1 ⟨x, H1, I1, r1, q1⟩ => ?_)
  obtain ⟨c, rfl, q1⟩ := q1
  cases r1
  exact not_of (wpAny_truthy_bool ⟨.bl (!c), H1, I1, rfl, q1⟩)
end
end L2

namespace L2
open PySem PySem.Spec PyProof.Rows

/-! ### a list, a tuple that is read: tracked, frozen, or an object of the module -/
def SqL (K : PySem.W.Frag) (H : Hp) (a : Addr) (xs : List V) : Prop :=
  Rd H a (.lst xs) ∨
    ∃ (o : Obj) (its : Array Value) (n : Nat), K.lookup a = some o ∧ o.cls = .type "list" ∧ o.dict = none ∧ o.data = .seq its n ∧ its.size ≤ sizeLine ∧ Vals xs its.toList
def SqT (K : PySem.W.Frag) (H : Hp) (a : Addr) (xs : List V) : Prop :=
  Rd H a (.tup xs) ∨
    ∃ (o : Obj) (its : Array Value) (n : Nat), K.lookup a = some o ∧ o.cls = .type "tuple" ∧ o.data = .seq its n ∧ its.size ≤ sizeLine ∧ Vals xs its.toList
def absV : Value → Option V
  | .none => some .non
  | .bool b => some (.bl b)
  | .int i _ => some (.int i)
  | .str x _ => some (.str x)
  | .bytes b _ => some (.byt b)
  | .float b _ => some (.flt b)
  | .ref a => some (.ref a)
  | .type n => some (.ty n)
  | _ => none
theorem RelV.abs {x : V} {u : Value} (r : RelV x u) : absV u = some x := by
  cases x with
  | non => cases r; rfl
  | bl _ => cases r; rfl
  | int _ => obtain ⟨t, rfl⟩ := r; rfl
  | str _ => obtain ⟨t, rfl⟩ := r; rfl
  | byt _ => obtain ⟨t, rfl⟩ := r; rfl
  | flt _ => obtain ⟨t, rfl⟩ := r; rfl
  | ref _ => cases r; rfl
  | ty _ => cases r; rfl
theorem RelV.inj {x y : V} {u : Value} (r : RelV x u) (q : RelV y u) : x = y := Option.some.inj (r.abs.symm.trans q.abs)
theorem Vals.inj : ∀ {xs ys : List V} {us : List Value}, Vals xs us → Vals ys us → xs = ys
  | _, _, _, .nil, .nil => rfl
  | _, _, _, .cons r t, .cons r' t' => by rw [r.inj r', Vals.inj t t']
section
variable {X : Cx} {pins : List (Addr × Obj)} {σ : St} {H : Hp} {s : Shared} {a : Addr} {xs ys : List V}
theorem SqL.of {K : PySem.W.Frag} (h : H a = some (.lst xs)) : SqL K H a xs := .inl (.inl h)
theorem SqT.of {K : PySem.W.Frag} (h : H a = some (.tup xs)) : SqT K H a xs := .inl (.inl h)
theorem Inv.list (I : Inv X pins σ H s) (h : SqL X.K H a xs) : ∃ its : List Value, Vals xs its ∧ PlainL s.heap a its.toArray ∧ xs.length ≤ sizeLine := by
  rcases h with h | ⟨o, its, n, hk, hc, hd, hs, hz, r⟩
  · obtain ⟨z, its, n, r, e⟩ := h.ok I.hok
    exact ⟨its, r, ⟨_, n, e, rfl, rfl, rfl⟩, z⟩
  · refine ⟨its.toList, r, ⟨o, n, I.kIn a o hk, hc, hd, by simpa using hs⟩, ?_⟩
    have e := r.length
    simp only [Array.length_toList] at e
    omega
theorem Inv.tuple (I : Inv X pins σ H s) (h : SqT X.K H a xs) : ∃ its : List Value, Vals xs its ∧ IsTup s.heap a its.toArray ∧ xs.length ≤ sizeLine := by
  rcases h with h | ⟨o, its, n, hk, hc, hs, hz, r⟩
  · obtain ⟨z, its, r, p⟩ := h.ok I.hok
    exact ⟨its, r, p, z⟩
  · refine ⟨its.toList, r, ⟨o, I.kIn a o hk, hc, n, by simpa using hs⟩, ?_⟩
    have e := r.length
    simp only [Array.length_toList] at e
    omega
theorem Inv.list_inj (I : Inv X pins σ H s) (h : SqL X.K H a xs) (h' : SqL X.K H a ys) : xs = ys := by
  obtain ⟨its, r, ⟨o, n, e, _, _, d⟩, _⟩ := I.list h
  obtain ⟨its', r', ⟨o', n', e', _, _, d'⟩, _⟩ := I.list h'
  rw [e] at e'; cases e'
  rw [d] at d'
  injection d' with d1 _
  have : its = its' := by simpa using congrArg Array.toList d1
  subst this
  exact r.inj r'
end

/-! ### another wish about exceptions -/
abbrev Cx.wish (X : Cx) (E : Value → Shared → Prop) : Cx := { X with xe := E }
/-- no exception leaves -/
abbrev Cx.nox (X : Cx) : Cx := X.wish fun _ _ => False
theorem Cx.Ok.wish {X : Cx} (ok : X.Ok) (E : Value → Shared → Prop) : (X.wish E).Ok :=
  ⟨ok.mod, ok.kind, ok.glob, ok.blt, ok.above, ok.inj, ok.has, ok.cab, ok.hd, ok.frames, ok.stk, ok.exf, ok.bs, ok.bsz, ok.noex, ok.exfs, ok.funs, ok.frf⟩
theorem Cx.Ok.unwish {X : Cx} {E : Value → Shared → Prop} (ok : (X.wish E).Ok) : X.Ok :=
  ⟨ok.mod, ok.kind, ok.glob, ok.blt, ok.above, ok.inj, ok.has, ok.cab, ok.hd, ok.frames, ok.stk, ok.exf, ok.bs, ok.bsz, ok.noex, ok.exfs, ok.funs, ok.frf⟩
section
variable {X : Cx} {pins : List (Addr × Obj)} {σ : St} {H : Hp} {s : Shared} {E : Value → Shared → Prop}
theorem Inv.wish (I : Inv X pins σ H s) (E : Value → Shared → Prop) : Inv (X.wish E) pins σ H s := ⟨I.ok.wish E, I.os, I.bare, I.base, I.loc, I.cell, I.free, I.freeC, I.pin, I.hok, I.len⟩
theorem Inv.unwish (I : Inv (X.wish E) pins σ H s) : Inv X pins σ H s := ⟨I.ok.unwish, I.os, I.bare, I.base, I.loc, I.cell, I.free, I.freeC, I.pin, I.hok, I.len⟩
theorem SP.unwish {D : Ends} {f : Flow} {s' : Shared} (h : SP (X.wish E) pins D f s') : SP X pins D f s' := by
  cases f with
  | next => obtain ⟨σ', H', I, q⟩ := h; exact ⟨σ', H', I.unwish, q⟩
  | brk => obtain ⟨σ', H', I, q⟩ := h; exact ⟨σ', H', I.unwish, q⟩
  | cont => obtain ⟨σ', H', I, q⟩ := h; exact ⟨σ', H', I.unwish, q⟩
  | ret u => obtain ⟨v, σ', H', I, r, q⟩ := h; exact ⟨v, σ', H', I.unwish, r, q⟩
theorem PE.nox {e : Expr} {t : TE} (h : PE X.nox e t) : PE X e t := fun pins s σ H Q I hw =>
  wpAny_mono (h pins s σ H Q (I.wish _) hw) (fun _ _ ⟨v, H', I', r, q⟩ => ⟨v, H', I'.unwish, r, q⟩) fun _ _ z => False.elim z
theorem PT.nox {e : Expr} {t : TT} (h : PT X.nox e t) : PT X e t := fun pins s σ H Q I hw =>
  wpAny_mono (h pins s σ H Q (I.wish _) hw) (fun _ _ ⟨H', I', q⟩ => ⟨H', I'.unwish, q⟩) fun _ _ z => False.elim z
theorem PSs.nox {st : List Stmt} {t : TS} (h : PSs X.nox st t) : PSs X st t := fun pins s σ H D I hw =>
  wpAny_mono (h pins s σ H D (I.wish _) hw) (fun _ _ q => q.unwish) fun _ _ z => False.elim z
end

/-! ### blocks and small statements -/
section
variable {X : Cx} {st : Stmt} {rest : List Stmt} {t u : TS} {e : Expr} {te : TE} {pos : Pos}
def tNext : TS := fun D σ H => D.nx σ H
def tSeq (t u : TS) : TS := fun D σ H => t { D with nx := u D } σ H
theorem pss_nil : PSs X [] tNext := fun _ _ σ H _ I h => wpAny_execs_nil ⟨σ, H, I, h⟩
theorem pss_cons (h1 : PS X st t) (h2 : PSs X rest u) : PSs X (st :: rest) (tSeq t u) := by
  intro pins s σ H D I h
  refine wpAny_execs_cons (thn (h1 pins s σ H { D with nx := u D } I h) fun f s1 q => ?_)
  cases f with
  | next =>
    obtain ⟨σ', H', I', q⟩ := q
    exact h2 pins s1 σ' H' D I' q
  | ret v => exact q
  | brk => exact q
  | cont => exact q
theorem pss_one (h1 : PS X st t) : PSs X [st] t := by
  intro pins s σ H D I h
  refine wpAny_execs_cons (thn (h1 pins s σ H D I h) fun f s1 q => ?_)
  cases f with
  | next => exact wpAny_execs_nil q
  | ret v => exact q
  | brk => exact q
  | cont => exact q
/-- in a def's body nothing is shown -/
theorem Inv.quiet {pins : List (Addr × Obj)} {σ : St} {H : Hp} {s : Shared} (I : Inv X pins σ H s) : interactive X.env = false := by simp [interactive, I.ok.kind]
/-- an expression whose value is dropped -/
def tDrop (te : TE) : TS := fun D σ H => te σ H fun _ H1 => D.nx σ H1
theorem ps_expr (he : PE X e te) (hs : swapsWith e none pos.line X.env = pure false := by rfl) : PS X (.Expr e pos) (tDrop te) := by
  intro pins s σ H D I h
  exact wpAny_Expr_any (thn (he pins s σ H _ I h) fun v s1 ⟨x, H1, I1, r1, q1⟩ => ⟨σ, H1, I1, q1⟩) I.quiet hs
def tRet (te : TE) : TS := fun D σ H => te σ H D.rt
theorem ps_ret (he : PE X e te) : PS X (.Return (some e) pos) (tRet te) := by
  intro pins s σ H D I h
  exact wpAny_Return_some (thn (he pins s σ H _ I h) fun v s1 ⟨x, H1, I1, r1, q1⟩ => ⟨x, σ, H1, I1, r1, q1⟩)
def tIfS (c : TT) (t u : TS) : TS := fun D σ H => c σ H fun b H1 => if b = true then t D σ H1 else u D σ H1
theorem ps_if {c : Expr} {a b : List Stmt} {tc : TT} (hc : PT X c tc) (ha : PSs X a t) (hb : PSs X b u) : PS X (.If c a b pos) (tIfS tc t u) := by
  intro pins s σ H D I h
  refine wpAny_If (thn (hc pins s σ H _ I h) fun d s1 ⟨H1, I1, q1⟩ => ?_)
  cases d with
  | true => exact ha pins s1 σ H1 D I1 q1
  | false => exact hb pins s1 σ H1 D I1 q1
end

/-! ### targets -/
abbrev TG := V → St → Hp → (St → Hp → Prop) → Prop
abbrev TGs := List V → St → Hp → (St → Hp → Prop) → Prop
def PG (X : Cx) (target : Expr) (t : TG) : Prop :=
  ∀ (pins : List (Addr × Obj)) (s : Shared) (σ : St) (H : Hp) (v : V) (u : Value) (Q : St → Hp → Prop), Inv X pins σ H s → RelV v u → t v σ H Q →
    wpAny (model X.prog X.w) X.A (assign target X.env u) (fun _ s' => ∃ σ' H', Inv X pins σ' H' s' ∧ Q σ' H') X.xe s
/-- several targets, one after another -/
def PGs (X : Cx) (ts : List Expr) (t : TGs) : Prop :=
  ∀ (pins : List (Addr × Obj)) (s : Shared) (σ : St) (H : Hp) (vs : List V) (us : List Value) (Q : St → Hp → Prop), Inv X pins σ H s → Vals vs us → t vs σ H Q →
    wpAny (model X.prog X.w) X.A (assignInOrder ((assignEach ts X.env).map (·.2)) us) (fun _ s' => ∃ σ' H', Inv X pins σ' H' s' ∧ Q σ' H') X.xe s
/-- o[i] = v, by values -/
abbrev TSet := V → V → V → Hp → (Hp → Prop) → Prop
def PSet (X : Cx) (t : TSet) : Prop :=
  ∀ (pins : List (Addr × Obj)) (s : Shared) (σ : St) (H : Hp) (o i v : V) (ov iv u : Value) (Q : Hp → Prop), Inv X pins σ H s → RelV o ov → RelV i iv → RelV v u → t o i v H Q →
    wpAny (model X.prog X.w) X.A (setItem ov iv u) (fun _ s' => ∃ H', Inv X pins σ H' s' ∧ Q H') X.xe s
section
variable {X : Cx} {pos : Pos}
def gName (i : Nat) : TG := fun v σ H Q => Q (σ.set i (some v)) H
theorem pg_name {i : Nat} {x : Str} (hN : X.N.Nodup) (hi : X.N[i]? = some x) (hx : Loc X.env.scope x) (hf : X.fn x = true ∨ X.env.scope.names.lookup x = some .local := by first | exact .inl rfl | exact .inr rfl | assumption) : PG X (.Name x pos) (gName i) := by
  intro pins s σ H v u Q I r h
  exact wpAny_assign_Name (store_ok I hN hi hx r (fun s' I' => ⟨_, H, I', h⟩) hf)
def gNil : TGs := fun vs σ H Q => vs = [] ∧ Q σ H
def gCons (t : TG) (u : TGs) : TGs := fun vs σ H Q => ∃ v r, vs = v :: r ∧ t v σ H fun σ' H' => u r σ' H' Q
theorem pgs_nil : PGs X [] gNil := by
  intro pins s σ H vs us Q I r h
  obtain ⟨e, h⟩ := h
  subst e
  cases r
  exact assignInOrder_nil ⟨σ, H, I, h⟩
theorem pgs_cons {e : Expr} {es : List Expr} {t : TG} {u : TGs} (h1 : PG X e t) (h2 : PGs X es u)
    (hs : (assignEach (e :: es) X.env).map (·.2) = assign e X.env :: (assignEach es X.env).map (·.2) := by rfl) : PGs X (e :: es) (gCons t u) := by
  intro pins s σ H vs us Q I r h
  obtain ⟨v, vr, e1, h⟩ := h
  subst e1
  cases r with
  | cons r rr =>
    rw [hs]
    refine assignInOrder_cons (thn (h1 pins s σ H _ _ _ I r h) fun _ s1 ⟨σ1, H1, I1, q1⟩ => ?_)
    exact h2 pins s1 σ1 H1 _ _ Q I1 rr q1
/-- (a, b, ..) = a tuple of that length -/
def gTup (K : PySem.W.Frag) (n : Nat) (t : TGs) : TG := fun v σ H Q => ∃ a xs, v = .ref a ∧ SqT K H a xs ∧ xs.length = n ∧ t xs σ H Q
theorem pg_tup {es : List Expr} {k : Nat} {t : TGs} {n : Nat} (hc : X.calm = true) (h : PGs X es t)
    (hn : (assignEach es X.env).length = n := by rfl) (hst : (assignEach es X.env).findIdx? (·.1) = none := by rfl) : PG X (.Tuple es k pos) (gTup X.K n t) := by
  intro pins s σ H v u Q I r hw
  obtain ⟨a, xs, e1, hq, hl, hw⟩ := hw
  subst e1
  cases r
  obtain ⟨its, rv, ht, hz⟩ := I.tuple hq
  refine assign_Tuple_tuple (I.ok.hd hc) ht (by simp [hn, ← hl, rv.length]) hst fun h' hx => ?_
  have I1 : Inv X pins σ H { s with heap := h' } := I.kept (t' := s.toks) fun b o e => hx b o (Nat.ne_of_lt (Heap.lt_size e)) e
  exact h pins _ σ H xs _ Q I1 (by simpa using rv) hw
/-- o[i] = .. -/
def gSub (to ti : TE) (t : TSet) : TG := fun v σ H Q => to σ H fun o H1 => ti σ H1 fun i H2 => t o i v H2 fun H3 => Q σ H3
theorem pg_sub {o i : Expr} {to ti : TE} {t : TSet} (ho : PE X o to) (hi : PE X i ti) (hs : PSet X t)
    (ha : ∀ v, assign (.Subscript o i pos) X.env v = (do
      let ov ← holding [v] (eval o X.env)
      let iv ← holding [v, ov] (eval i X.env)
      standAt pos
      holding [v, ov, iv] (setItem ov iv v)
      release [v, ov, iv] []) := by intro _; rfl) : PG X (.Subscript o i pos) (gSub to ti t) := by
  intro pins s σ H v u Q I r h
  rw [ha]
  refine wpAny_bind (wpAny_holding (thn (ho pins s σ H _ I h) fun ov s1 ⟨x, H1, I1, r1, q1⟩ => ?_))
  refine wpAny_bind (wpAny_holding (thn (hi pins s1 σ H1 _ I1 q1) fun iv s2 ⟨y, H2, I2, r2, q2⟩ => ?_))
  refine wpAny_bind (wpAny_standAt (wpAny_bind (wpAny_holding (thn (hs pins s2 σ H2 x y v ov iv u _ I2 r1 r2 r q2) fun _ s3 ⟨H3, I3, q3⟩ => ?_))))
  exact wpAny_release ⟨σ, H3, I3, q3⟩
/-- target = value -/
def tAsg (te : TE) (g : TG) : TS := fun D σ H => te σ H fun x H1 => g x σ H1 D.nx
theorem ps_asg {tg e : Expr} {te : TE} {g : TG} (he : PE X e te) (hg : PG X tg g) (hs : swapsWithSole [tg] e pos.line X.env = pure false := by rfl) (hw : swappedStores [tg] e X.env = pure none := by rfl)
    (h1 : (assignEach [tg] X.env).map (·.2) = [assign tg X.env] := by rfl) : PS X (.Assign [tg] e pos) (tAsg te g) := by
  intro pins s σ H D I h
  refine wpAny_Assign_stores (thn (he pins s σ H _ I h) fun v s1 ⟨x, H1, I1, r1, q1⟩ => ?_) hs hw
  rw [h1]
  exact thn (hg pins s1 σ H1 x v _ I1 r1 q1) fun _ s2 q => q
/-- name = value -/
theorem ps_set {i : Nat} {x : Str} {e : Expr} {te : TE} {pos' : Pos} (hN : X.N.Nodup) (hi : X.N[i]? = some x) (hx : Loc X.env.scope x) (he : PE X e te) (hs : swapsWith e (some (.Name x pos')) pos.line X.env = pure false := by rfl) (hf : X.fn x = true ∨ X.env.scope.names.lookup x = some .local := by first | exact .inl rfl | exact .inr rfl | assumption) :
    PS X (.Assign [.Name x pos'] e pos) (tAsg te (gName i)) := by
  intro pins s σ H D I h
  refine wpAny_Assign_Name (thn (he pins s σ H _ I h) fun v s1 ⟨y, H1, I1, r1, q1⟩ => ?_) hs
  exact store_ok I1 hN hi hx r1 (fun s2 I2 => ⟨_, H1, I2, q1⟩) hf
end

/-! ### while -/
section
variable {X : Cx} {pos : Pos}
/-- the invariant W with its measure -/
def tWhile (c : TT) (tb : TS) : TS := fun D σ H => ∃ W : Nat → St → Hp → Prop, (∃ m, W m σ H) ∧ ∀ m σ H, W m σ H →
  c σ H fun b H1 => if b = true then ∃ N : St → Hp → Prop, (∀ σ' H', N σ' H' → ∃ m', m' < m ∧ W m' σ' H') ∧ tb { D with nx := N, ct := N, bk := D.nx } σ H1 else D.nx σ H1
theorem ps_while {c : Expr} {body : List Stmt} {tc : TT} {tb : TS} (hp : PassesOwn (model X.prog X.w) X.A X.env X.xe) (hc : PT X c tc) (hb : PSs X body tb) : PS X (.While c body [] pos) (tWhile tc tb) := by
  intro pins s σ H D I h
  obtain ⟨W, ⟨m0, w0⟩, turn⟩ := h
  refine wpAny_While (codeAny_whileLoop (fun n s' => ∃ σ' H', Inv X pins σ' H' s' ∧ W n σ' H') ?_ m0 ⟨σ, H, I, w0⟩)
  rintro n s1 ⟨σ1, H1, I1, w1⟩
  refine wpAny_passesOwn hp (thn (hc pins s1 σ1 H1 _ I1 (turn n σ1 H1 w1)) fun b s2 ⟨H2, I2, q2⟩ => ?_)
  cases b with
  | true =>
    obtain ⟨N, hN, q2⟩ := q2
    rw [if_pos rfl]
    refine wpAny_passesOwn hp (thn (hb pins s2 σ1 H2 _ I2 q2) fun f s3 q3 => ?_)
    cases f with
    | next =>
      obtain ⟨σ3, H3, I3, n3⟩ := q3
      obtain ⟨m', hm, w3⟩ := hN σ3 H3 n3
      exact ⟨m', hm, σ3, H3, I3, w3⟩
    | cont =>
      obtain ⟨σ3, H3, I3, n3⟩ := q3
      obtain ⟨m', hm, w3⟩ := hN σ3 H3 n3
      exact ⟨m', hm, σ3, H3, I3, w3⟩
    | brk => exact q3
    | ret v => exact q3
  | false =>
    rw [if_neg Bool.false_ne_true]
    exact wpAny_execs_nil ⟨σ1, H2, I2, q2⟩
end

/-! ### what a loop or a comprehension walks -/
/-- at turn i: it yields x (the heap may grow), or it stops -/
structure It where
  go : Nat → Hp → Prop
  yld : Nat → Hp → V → Hp → Prop
  stop : Nat → Hp → Prop
/-- the iterator's own objects may turn: they are not the frame's, not pinned, younger than the entry (or a comprehension's own) -/
def FpOk (X : Cx) (pins : List (Addr × Obj)) (H : Hp) (b : Addr) : Prop :=
  H b = none ∧ b ≠ X.env.locals ∧ b ∉ X.fs ∧ (b ∈ X.ex ∨ X.s₀.heap.objs.size ≤ b) ∧ (∀ x c, X.env.cells.lookup x = some c → c ≠ b) ∧ ∀ p ∈ X.pn ++ pins, p.1 ≠ b
theorem Inv.fpOk {X : Cx} {pins : List (Addr × Obj)} {σ : St} {H H' : Hp} {s : Shared} {b : Addr} (I : Inv X pins σ H s) (hb : s.heap.objs.size ≤ b) (hn : H' b = none) : FpOk X pins H' b := by
  refine ⟨hn, Nat.ne_of_gt (Nat.lt_of_lt_of_le I.lt hb), I.nofs hb, .inr (Nat.le_trans I.sz hb), fun x c e z => ?_, fun p hp z => ?_⟩
  · obtain ⟨v, q⟩ := I.cell x c e
    exact absurd (Nat.lt_of_lt_of_le q.lt (by rw [z]; exact hb)) (Nat.lt_irrefl _)
  · exact absurd (Nat.lt_of_lt_of_le (Heap.lt_size (I.pin p hp).1) (by rw [z]; exact hb)) (Nat.lt_irrefl _)
structure Turn (P : Program) (w : World) (K : PySem.W.Frag) (tg : Expr) (J : It) (fp : List Addr) (it : Addr) (tn : Nat → Heap → Prop) : Prop where
  mem : it ∈ fp
  obj : ∀ i h, tn i h → ∀ b ∈ fp, ∃ o, h.get? b = some o ∧ ∀ v, o.data ≠ .cell v
  keep : ∀ i h h', tn i h → (∀ b ∈ fp, ∀ o, h.get? b = some o → h'.get? b = some o) → tn i h'
  item : ∀ (X : Cx), X.prog = P → X.w = w → X.K = K → X.calm = true → ∀ (i : Nat) (pins : List (Addr × Obj)) (s : Shared) (σ : St) (H : Hp) (E : Value → Shared → Prop), Inv X pins σ H s → (∀ b ∈ fp, FpOk X pins H b) → tn i s.heap → J.go i H →
    wpAny (model P w) X.A (pyNext (.ref it)) (fun r s1 => ∃ u, r = some u ∧
      wpAny (model P w) X.A (letOwnedTupleGo tg (.ref it) u) (fun _ s2 => ∃ x H', Inv X pins σ H' s2 ∧ RelV x u ∧ J.yld i H x H' ∧ tn (i + 1) s2.heap ∧ ∀ b ∈ fp, H' b = none) E s1) E s
  done : ∀ (X : Cx), X.prog = P → X.w = w → X.K = K → X.calm = true → ∀ (i : Nat) (pins : List (Addr × Obj)) (s : Shared) (σ : St) (H : Hp) (E : Value → Shared → Prop), Inv X pins σ H s → (∀ b ∈ fp, FpOk X pins H b) → tn i s.heap → J.stop i H →
    wpAny (model P w) X.A (pyNext (.ref it)) (fun r s1 => r = none ∧ Inv X pins σ H s1) E s
  self : ∀ (A : Around) (i : Nat) (s : Shared) (Q : Value → Shared → Prop) (E : Value → Shared → Prop), tn i s.heap → Q (.ref it) s → wpAny (model P w) A (pyIter (.ref it)) Q E s
abbrev TI := St → Hp → (It → Hp → Prop) → Prop
/-- an iterator has come -/
def PIE (X : Cx) (pins : List (Addr × Obj)) (σ : St) (tg : Expr) (R : It → Hp → Prop) (itv : Value) (s2 : Shared) : Prop :=
  ∃ (it : Addr) (fp : List Addr) (tn : Nat → Heap → Prop) (J : It) (H' : Hp), itv = .ref it ∧ Inv X pins σ H' s2 ∧ Turn X.prog X.w X.K tg J fp it tn ∧ tn 0 s2.heap ∧ (∀ b ∈ fp, FpOk X pins H' b) ∧ R J H'
def PI (X : Cx) (tg iter : Expr) (wi : TI) : Prop :=
  ∀ (pins : List (Addr × Obj)) (s : Shared) (σ : St) (H : Hp) (R : It → Hp → Prop), Inv X pins σ H s → wi σ H R →
    wpAny (model X.prog X.w) X.A (eval iter X.env) (fun v s1 => wpAny (model X.prog X.w) X.A (pyIter v) (PIE X pins σ tg R) X.xe s1) X.xe s

/-- the step ahead of the store is nothing for an iterator that keeps no tuple -/
theorem go_of {M : Model} {A : Around} {E : Value → Shared → Prop} {s : Shared} {tg : Expr} {it : Addr} {u : Value} {o : Obj} {n : String} {vs : Array Value} {Q : Unit → Shared → Prop} (ho : s.heap.get? it = some o) (hc : o.cls = .type n) (hd : o.data = .fields vs)
    (hn : ["enumerate", "zip", "dict_itemiterator", "dict_reverseitemiterator", "odict_iterator", "itertools.zip_longest", "itertools.pairwise"].contains n = false) (hQ : Q () s) : wpAny M A (letOwnedTupleGo tg (.ref it) u) Q E s := by
  unfold letOwnedTupleGo
  cases tg <;> first
    | exact wpAny_pure hQ
    | (cases u <;> first
        | exact wpAny_pure hQ
        | (refine wpAny_bind (wpAny_load ho ?_)
           rw [hc, hd]
           show wpAny M A (if (["enumerate", "zip", "dict_itemiterator", "dict_reverseitemiterator", "odict_iterator", "itertools.zip_longest", "itertools.pairwise"].contains n && vs[0]? == some (rawInt _)) = true then _ else _) Q E s
           rw [if_neg (by intro h; rw [hn, Bool.false_and] at h; cases h)]
           exact wpAny_pure hQ))

/-- the list at a, as it stands at each turn (a loop may append to it) -/
def Itl (K : PySem.W.Frag) (a : Addr) : It :=
  ⟨fun i H => ∃ xs x, SqL K H a xs ∧ xs[i]? = some x, fun i H x H' => H' = H ∧ ∀ xs, SqL K H a xs → xs[i]? = some x, fun i H => ∃ xs, SqL K H a xs ∧ xs.length ≤ i⟩
theorem turn_list {P : Program} {w : World} {K : PySem.W.Frag} {tg : Expr} (a it : Addr) : Turn P w K tg (Itl K a) [it] it (fun i h => h.IsListIter it a i) where
  mem := by simp
  obj := fun i h st b hb => by
    have e : b = it := by simpa using hb
    subst e
    obtain ⟨o, e, c, d⟩ := st
    exact ⟨o, e, fun v z => by rw [d] at z; cases z⟩
  keep := fun i h h' st k => st.at fun o e => k it (by simp) o e
  item := by
    intro X hP hw hK hc i pins s σ H E I hf st hg
    subst hP hw hK
    obtain ⟨xs, x, hq, hx⟩ := hg
    obtain ⟨its, rv, p, hz⟩ := I.list hq
    obtain ⟨u, hu, ru⟩ := rv.get hx
    obtain ⟨f0, f1, f2, f3, f4, f5⟩ := hf it (by simp)
    refine wpAny_pyNext_list_item st p.isList (x := u) (by simpa using hu) fun h' st' sb => ?_
    have I1 : Inv X pins σ H { s with heap := h' } := I.turned (t' := s.toks) (fun b o hb e => (sb.2 b hb).trans e) f0 f1 f3 f4 f5
    obtain ⟨o, e, c, d⟩ := id st'
    exact ⟨u, rfl, go_of (s := { s with heap := h' }) e c d (by decide) ⟨x, H, I1, ru, ⟨rfl, fun ys hy => by rw [I.list_inj hy hq]; exact hx⟩, st', fun b hb => (hf b hb).1⟩⟩
  done := by
    intro X hP hw hK hc i pins s σ H E I hf st hg
    subst hP hw hK
    obtain ⟨xs, hq, hx⟩ := hg
    obtain ⟨its, rv, p, hz⟩ := I.list hq
    obtain ⟨f0, f1, f2, f3, f4, f5⟩ := hf it (by simp)
    have hl := rv.length
    exact wpAny_pyNext_list_end (I.ok.hd hc) st p.isList (by simp; omega) fun h' eb => ⟨rfl, I.turned (t' := s.toks) (fun b o hb e => eb b o hb e) f0 f1 f3 f4 f5⟩
  self := fun _ _ _ _ _ st h => wpAny_pyIter_listiter st h
end L2

namespace L2
open PySem PySem.Spec PyProof.Rows
section
variable {X : Cx} {tg : Expr}
def iList (K : PySem.W.Frag) (tl : TE) : TI := fun σ H R => tl σ H fun x H1 => ∃ a, x = .ref a ∧ (∃ xs, SqL K H1 a xs) ∧ R (Itl K a) H1
theorem pi_list {l : Expr} {tl : TE} (hl : PE X l tl) : PI X tg l (iList X.K tl) := by
  intro pins s σ H R I h
  refine thn (hl pins s σ H _ I h) fun v s1 ⟨x, H1, I1, r1, q1⟩ => ?_
  obtain ⟨a, e, ⟨xs, hq⟩, q⟩ := q1
  subst e
  cases r1
  obtain ⟨its, rv, p, hz⟩ := I1.list hq
  refine wpAny_pyIter_list p.isList ?_
  refine ⟨s1.heap.objs.size, [s1.heap.objs.size], _, _, H1, rfl, I1.kept (t' := s1.toks) fun b o e => Heap.get?_push_of_some _ e, turn_list a _, ⟨_, Heap.get?_push_size _ rfl, rfl, rfl⟩, fun b hb => ?_, q⟩
  have e : b = s1.heap.objs.size := by simpa using hb
  subst e
  exact I1.fpOk (Nat.le_refl _) (I1.hok.fresh (Nat.le_refl _))
/-! ### for -/
/-- W: the invariant by the turn and a measure; N: what the body is to reach -/
def tFor (wi : TI) (g : TG) (tb : TS) : TS := fun D σ H => wi σ H fun J H1 => ∃ W : Nat → Nat → St → Hp → Prop, (∃ m, W 0 m σ H1) ∧ ∀ i m σ H, W i m σ H →
  (J.stop i H ∧ D.nx σ H) ∨ (J.go i H ∧ ∃ N : St → Hp → Prop, (∀ σ' H', N σ' H' → ∃ m', m' < m ∧ W (i + 1) m' σ' H') ∧ ∀ x H', J.yld i H x H' → g x σ H' fun σ2 H2 => tb { D with nx := N, ct := N, bk := D.nx } σ2 H2)
/-- the records at fp as they stand -/
def pinsAt (fp : List Addr) (h : Heap) : List (Addr × Obj) := fp.filterMap fun b => (h.get? b).map fun o => (b, o)
theorem mem_pinsAt {fp : List Addr} {h : Heap} {b : Addr} {o : Obj} (hb : b ∈ fp) (e : h.get? b = some o) : (b, o) ∈ pinsAt fp h := List.mem_filterMap.mpr ⟨b, hb, by rw [e]; rfl⟩
theorem of_pinsAt {fp : List Addr} {h : Heap} {p : Addr × Obj} (hp : p ∈ pinsAt fp h) : p.1 ∈ fp ∧ h.get? p.1 = some p.2 := by
  obtain ⟨b, hb, e⟩ := List.mem_filterMap.mp hp
  cases q : h.get? b with
  | none => rw [q] at e; cases e
  | some o =>
    rw [q] at e
    have e' : (b, o) = p := Option.some.inj e
    subst e'
    exact ⟨hb, q⟩
theorem Inv.pinned {pins : List (Addr × Obj)} {σ : St} {H : Hp} {s : Shared} {fp : List Addr} (I : Inv X pins σ H s) (hf : ∀ b ∈ fp, FpOk X pins H b) (ho : ∀ b ∈ fp, ∃ o, s.heap.get? b = some o ∧ ∀ v, o.data ≠ .cell v) : Inv X (pins ++ pinsAt fp s.heap) σ H s :=
  I.pins_of fun p hp => (List.mem_append.mp hp).elim (fun z => I.pin p (List.mem_append_right _ z)) fun z => by
    obtain ⟨hb, e⟩ := of_pinsAt z
    obtain ⟨f0, f1, f2, _⟩ := hf p.1 hb
    obtain ⟨o, e', d⟩ := ho p.1 hb
    rw [e] at e'; cases e'
    exact ⟨e, f0, f1, f2, d⟩
theorem Inv.unpinned {pins pl : List (Addr × Obj)} {σ : St} {H : Hp} {s : Shared} (I : Inv X (pins ++ pl) σ H s) : Inv X pins σ H s := I.pins_of fun p hp => I.pin p (List.mem_append_right _ (List.mem_append_left _ hp))
theorem ps_for {iter : Expr} {body : List Stmt} {wi : TI} {g : TG} {tb : TS} {pos : Pos} (hp : PassesOwn (model X.prog X.w) X.A X.env X.xe) (hc : X.calm = true) (hi : PI X tg iter wi) (hg : PG X tg g) (hb : PSs X body tb)
    (hs : ∀ x, foldedSetIterable iter X.env x = pure x := by intro _; rfl) : PS X (.For tg iter body [] pos) (tFor wi g tb) := by
  intro pins s σ H D I h
  refine wpAny_For (thn (hi pins s σ H _ I h) fun v s1 h1 => thn h1 fun itv s2 h2 => ?_) hs
  obtain ⟨it, fp, tn, J, H2, e, I2, T, st2, f2, W, ⟨m0, w0⟩, turn⟩ := h2
  subst e
  -- what stays true of the iterator's objects through the loop
  have stat : ∀ {H' : Hp}, (∀ b ∈ fp, H' b = none) → ∀ b ∈ fp, FpOk X pins H' b := fun hn b hb => ⟨hn b hb, (f2 b hb).2⟩
  refine codeAny_forLoop_any (fun n s' => ∃ i σ' H', Inv X pins σ' H' s' ∧ tn i s'.heap ∧ (∀ b ∈ fp, H' b = none) ∧ W i n σ' H') ?_ m0 ⟨0, σ, H2, I2, st2, fun b hb => (f2 b hb).1, w0⟩
  rintro n s3 ⟨i, σ3, H3, I3, st3, fr3, w3⟩
  rcases turn i n σ3 H3 w3 with ⟨stop, qn⟩ | ⟨go, N, hN, step⟩
  · refine wpAny_passesOwn hp (thn (T.done X rfl rfl rfl hc i pins s3 σ3 H3 X.xe I3 (stat fr3) st3 stop) fun r s4 ⟨hr, I4⟩ => ?_)
    subst hr
    exact wpAny_execs_nil ⟨σ3, H3, I4, qn⟩
  · refine wpAny_passesOwn hp (thn (T.item X rfl rfl rfl hc i pins s3 σ3 H3 X.xe I3 (stat fr3) st3 go) fun r s4 ⟨u, hr, h4⟩ => ?_)
    subst hr
    refine wpAny_passesOwn hp (thn h4 fun _ s5 ⟨x, H5, I5, r5, y5, st5, fr5⟩ => ?_)
    have I5' := I5.pinned (stat fr5) (T.obj _ _ st5)
    refine wpAny_passesOwn hp (thn (hg _ s5 σ3 H5 x u _ I5' r5 (step x H5 y5)) fun _ s6 ⟨σ6, H6, I6, q6⟩ => ?_)
    refine wpAny_passesOwn hp (thn (hb _ s6 σ6 H6 _ I6 q6) fun f s7 q7 => ?_)
    have again : ∀ {σ7 : St} {H7 : Hp}, Inv X (pins ++ pinsAt fp s5.heap) σ7 H7 s7 → N σ7 H7 → ∃ m, m < n ∧ ∃ i σ' H', Inv X pins σ' H' s7 ∧ tn i s7.heap ∧ (∀ b ∈ fp, H' b = none) ∧ W i m σ' H' := fun {σ7 H7} I7 n7 => by
      obtain ⟨m', hm, w7⟩ := hN σ7 H7 n7
      refine ⟨m', hm, i + 1, σ7, H7, I7.unpinned, T.keep _ _ _ st5 fun b hb o e => (I7.pin (b, o) (List.mem_append_right _ (List.mem_append_right _ (mem_pinsAt hb e)))).1, fun b hb => ?_, w7⟩
      obtain ⟨o, e, d⟩ := T.obj _ _ st5 b hb
      exact (I7.pin (b, o) (List.mem_append_right _ (List.mem_append_right _ (mem_pinsAt hb e)))).2.1
    cases f with
    | next => obtain ⟨σ7, H7, I7, n7⟩ := q7; exact again I7 n7
    | cont => obtain ⟨σ7, H7, I7, n7⟩ := q7; exact again I7 n7
    | brk => obtain ⟨σ7, H7, I7, q7⟩ := q7; exact ⟨σ7, H7, I7.unpinned, q7⟩
    | ret v => obtain ⟨x7, σ7, H7, I7, r7, q7⟩ := q7; exact ⟨x7, σ7, H7, I7.unpinned, r7, q7⟩
end

/-! ### the forms one uses -/
/-- over a list that the body leaves as it is -/
theorem for_list {K : PySem.W.Frag} {a : Addr} {xs : List V} {g : TG} {tb : TS} {D : Ends} {σ : St} {H : Hp} (Pv : Nat → St → Hp → Prop) (h0 : Pv 0 σ H) (hl : ∀ i σ H, i ≤ xs.length → Pv i σ H → SqL K H a xs)
    (hs : ∀ i x σ H, xs[i]? = some x → Pv i σ H → g x σ H fun σ2 H2 => tb { D with nx := Pv (i + 1), ct := Pv (i + 1), bk := D.nx } σ2 H2) (hd : ∀ σ H, Pv xs.length σ H → D.nx σ H) :
    ∃ W : Nat → Nat → St → Hp → Prop, (∃ m, W 0 m σ H) ∧ ∀ i m σ H, W i m σ H →
      ((Itl K a).stop i H ∧ D.nx σ H) ∨ ((Itl K a).go i H ∧ ∃ N : St → Hp → Prop, (∀ σ' H', N σ' H' → ∃ m', m' < m ∧ W (i + 1) m' σ' H') ∧ ∀ x H', (Itl K a).yld i H x H' → g x σ H' fun σ2 H2 => tb { D with nx := N, ct := N, bk := D.nx } σ2 H2) := by
  refine ⟨fun i m σ H => m = xs.length - i ∧ i ≤ xs.length ∧ Pv i σ H, ⟨xs.length, by simp, Nat.zero_le _, h0⟩, ?_⟩
  rintro i m σ H ⟨rfl, hi, p⟩
  have q := hl i σ H hi p
  by_cases hlt : i < xs.length
  · refine .inr ⟨⟨xs, xs[i], q, by simp [hlt]⟩, Pv (i + 1), fun σ' H' p' => ⟨xs.length - (i + 1), by omega, rfl, hlt, p'⟩, fun x H' y => ?_⟩
    obtain ⟨e, y⟩ := y
    subst e
    exact hs i x σ _ (y xs q) p
  · have e : i = xs.length := by omega
    subst e
    exact .inl ⟨⟨xs, q, Nat.le_refl _⟩, hd σ H p⟩
end L2

namespace L2
open PySem PySem.Spec PyProof.Rows

abbrev R2 := V → V → Hp → VK → Prop
/-- a two-place operation on values: f is binaryOp op, inplaceOp op or compareOp op -/
def OpR (X : Cx) (f : Value → Value → Sem Value) (r : R2) : Prop :=
  ∀ (pins : List (Addr × Obj)) (s : Shared) (σ : St) (H : Hp) (x y : V) (v u : Value) (Q : VK), Inv X pins σ H s → RelV x v → RelV y u → r x y H Q →
    wpAny (model X.prog X.w) X.A (f v u) (EP X pins σ Q) X.xe s
/-- a one-place operation -/
def UnR (X : Cx) (f : Value → Sem Value) (r : V → Hp → VK → Prop) : Prop :=
  ∀ (pins : List (Addr × Obj)) (s : Shared) (σ : St) (H : Hp) (x : V) (v : Value) (Q : VK), Inv X pins σ H s → RelV x v → r x H Q →
    wpAny (model X.prog X.w) X.A (f v) (EP X pins σ Q) X.xe s
/-- a call of a value that is known (a builtin, a type) with values -/
def CallR (X : Cx) (f : Value) (r : List V → Hp → VK → Prop) : Prop :=
  ∀ (pins : List (Addr × Obj)) (s : Shared) (σ : St) (H : Hp) (xs : List V) (us : List Value) (Q : VK), Inv X pins σ H s → Vals xs us → r xs H Q →
    wpAny (model X.prog X.w) X.A (call f us) (EP X pins σ Q) X.xe s
def tOp (r : R2) (ta tb : TE) : TE := fun σ H Q => ta σ H fun x H1 => tb σ H1 fun y H2 => r x y H2 Q
def tUn (r : V → Hp → VK → Prop) (ta : TE) : TE := fun σ H Q => ta σ H fun x H1 => r x H1 Q
/-- ints in, under C, and a value out -/
def rI (C : Int → Int → Prop) (g : Int → Int → V) : R2 := fun x y H Q => ∃ i j, x = .int i ∧ y = .int j ∧ C i j ∧ Q (g i j) H
def rI0 (g : Int → Int → V) : R2 := fun x y H Q => ∃ i j, x = .int i ∧ y = .int j ∧ Q (g i j) H
def rU (g : Int → V) : V → Hp → VK → Prop := fun x H Q => ∃ i, x = .int i ∧ Q (g i) H

section
variable {X : Cx} {a b c : Expr} {ta tb tc : TE} {pos : Pos}

theorem binT (ha : PE X a ta) (hb : PE X b tb) {pins : List (Addr × Obj)} {s : Shared} {σ : St} {H : Hp} {R : V → V → Hp → Prop} (I : Inv X pins σ H s)
    (h : ta σ H fun x H1 => tb σ H1 fun y H2 => R x y H2) {Q : Value → Shared → Prop} {f : Value → Value → Sem Value}
    (hf : ∀ v u s2 x y H2, Inv X pins σ H2 s2 → RelV x v → RelV y u → R x y H2 → wpAny (model X.prog X.w) X.A (f v u) Q X.xe s2) :
    wpAny (model X.prog X.w) X.A (eval a X.env) (fun v s₁ => wpAny (model X.prog X.w) X.A (eval b X.env) (fun u s₂ => wpAny (model X.prog X.w) X.A (f v u) Q X.xe s₂) X.xe s₁) X.xe s := by
  refine thn (ha pins s σ H _ I h) fun v s1 ⟨x, H1, I1, r1, q1⟩ => ?_
  refine thn (hb pins s1 σ H1 _ I1 q1) fun u s2 ⟨y, H2, I2, r2, q2⟩ => ?_
  exact hf v u s2 x y H2 I2 r1 r2 q2

theorem pe_op {op : Operator} {r : R2} (ho : OpR X (binaryOp op) r) (ha : PE X a ta) (hb : PE X b tb) : PE X (.BinOp a op b pos) (tOp r ta tb) := by
  intro pins s σ H Q I h
  exact wpAny_BinOp (binT ha hb I h fun v u s2 x y H2 I2 rx ry q => ho pins s2 σ H2 x y v u Q I2 rx ry q)
theorem pe_un {op : UnaryOp} {r : V → Hp → VK → Prop} (ho : UnR X (unaryOp op) r) (ha : PE X a ta) : PE X (.UnaryOp op a pos) (tUn r ta) := by
  intro pins s σ H Q I h
  exact UnaryOp_ (thn (ha pins s σ H _ I h) fun v s1 ⟨x, H1, I1, r1, q1⟩ => ho pins s1 σ H1 x v Q I1 r1 q1)
/-! ### ints -/
theorem opI {f : Value → Value → Sem Value} {C : Int → Int → Prop} {g : Int → Int → Int}
    (rule : ∀ (i j : Int) (t u : Tok) (s : Shared) (Q : Value → Shared → Prop) (E : Value → Shared → Prop), C i j → Q (.int (g i j) s.toks) { s with toks := s.toks + 1 } → wpAny (model X.prog X.w) X.A (f (.int i t) (.int j u)) Q E s) :
    OpR X f (rI C fun i j => .int (g i j)) := by
  intro pins s σ H x y v u Q I rx ry h
  obtain ⟨i, j, rfl, rfl, hc, q⟩ := h
  obtain ⟨t, rfl⟩ := rx
  obtain ⟨t', rfl⟩ := ry
  exact rule i j t t' s _ _ hc ⟨.int (g i j), H, I.tok _, ⟨_, rfl⟩, q⟩
theorem opI0 {f : Value → Value → Sem Value} {g : Int → Int → Int}
    (rule : ∀ (i j : Int) (t u : Tok) (s : Shared) (Q : Value → Shared → Prop) (E : Value → Shared → Prop), Q (.int (g i j) s.toks) { s with toks := s.toks + 1 } → wpAny (model X.prog X.w) X.A (f (.int i t) (.int j u)) Q E s) :
    OpR X f (rI0 fun i j => .int (g i j)) := by
  intro pins s σ H x y v u Q I rx ry h
  obtain ⟨i, j, rfl, rfl, q⟩ := h
  obtain ⟨t, rfl⟩ := rx
  obtain ⟨t', rfl⟩ := ry
  exact rule i j t t' s _ _ ⟨.int (g i j), H, I.tok _, ⟨_, rfl⟩, q⟩
theorem opB0 {f : Value → Value → Sem Value} {g : Int → Int → Bool}
    (rule : ∀ (i j : Int) (t u : Tok) (s : Shared) (Q : Value → Shared → Prop) (E : Value → Shared → Prop), Q (.bool (g i j)) s → wpAny (model X.prog X.w) X.A (f (.int i t) (.int j u)) Q E s) :
    OpR X f (rI0 fun i j => .bl (g i j)) := by
  intro pins s σ H x y v u Q I rx ry h
  obtain ⟨i, j, rfl, rfl, q⟩ := h
  obtain ⟨t, rfl⟩ := rx
  obtain ⟨t', rfl⟩ := ry
  exact rule i j t t' s _ _ ⟨.bl (g i j), H, I, rfl, q⟩

def CPow (i j : Int) : Prop := 0 ≤ j ∧ j ≤ 1000000 ∧ i.natAbs < 2 ^ 64
def CMul (i j : Int) : Prop := (-(2 ^ 64) < i ∧ i < 2 ^ 64) ∨ (-(2 ^ 64) < j ∧ j < 2 ^ 64)
theorem CMul.ok {i j : Int} (h : CMul i j) : IntMulOk i j := by
  rcases h with ⟨h1, h2⟩ | ⟨h1, h2⟩
  · exact .of_left (intBits_le_64 h1 h2)
  · exact .of_right (intBits_le_64 h1 h2)
theorem op_add : OpR X (binaryOp .Add) (rI0 fun i j => .int (i + j)) := opI0 fun _ _ _ _ _ _ _ q => add_int q
theorem op_sub : OpR X (binaryOp .Sub) (rI0 fun i j => .int (i - j)) := opI0 fun _ _ _ _ _ _ _ q => sub_int q
/-- % by a positive divisor of any size -/
theorem op_mod : OpR X (binaryOp .Mod) (rI (fun _ j => 0 < j) fun i j => .int (i % j)) := opI fun i j _ _ _ _ _ hc q => by
  have h1 : (0 : Int) < j := hc
  exact mod_int' (by omega) (by rw [Int.fmod_eq_emod_of_nonneg i (by omega)]; exact q)
theorem op_pow : OpR X (binaryOp .Pow) (rI CPow fun i j => .int (i ^ j.toNat)) := opI fun _ _ _ _ _ _ _ hc q => pow_int_small hc.1 hc.2.1 hc.2.2 q
theorem unI {f : Value → Sem Value} {g : Int → Int}
    (rule : ∀ (i : Int) (t : Tok) (s : Shared) (Q : Value → Shared → Prop) (E : Value → Shared → Prop), Q (.int (g i) s.toks) { s with toks := s.toks + 1 } → wpAny (model X.prog X.w) X.A (f (.int i t)) Q E s) :
    UnR X f (rU fun i => .int (g i)) := by
  intro pins s σ H x v Q I rx h
  obtain ⟨i, rfl, q⟩ := h
  obtain ⟨t, rfl⟩ := rx
  exact rule i t s _ _ ⟨.int (g i), H, I.tok _, ⟨_, rfl⟩, q⟩
theorem un_neg : UnR X (unaryOp .USub) (rU fun i => .int (-i)) := unI fun _ _ _ _ _ q => neg_int q
/-! ### bools among ints: n += (a < b) -/
end

/-! ### comparisons -/
/-- the scalars that == tells apart as data does -/
def scal : V → V → Bool
  | .non, .non => true | .non, .int _ => true | .int _, .non => true | .non, .bl _ => true | .bl _, .non => true | .non, .str _ => true | .str _, .non => true
  | .int _, .int _ => true | .bl _, .bl _ => true | .str _, .str _ => true | .byt _, .byt _ => true
  | .int _, .str _ => true | .str _, .int _ => true | .bl _, .str _ => true | .str _, .bl _ => true
  | _, _ => false
def rEq : R2 := fun x y H Q => scal x y = true ∧ Q (.bl (decide (x = y))) H
theorem dec_int {i j : Int} : decide (V.int i = V.int j) = (i == j) := by
  rw [Bool.eq_iff_iff]
  simp
theorem dec_bl {i j : Bool} : decide (V.bl i = V.bl j) = (i == j) := by
  rw [Bool.eq_iff_iff]
  simp
theorem dec_str {i j : Str} : decide (V.str i = V.str j) = (i == j) := by
  rw [Bool.eq_iff_iff]
  simp
theorem dec_byt {i j : Array UInt8} : decide (V.byt i = V.byt j) = (i.toList == j.toList) := by
  rw [Bool.eq_iff_iff]
  cases i
  cases j
  simp

section
variable {X : Cx} {a b c : Expr} {ta tb tc : TE} {pos : Pos}
theorem fin_bl {pins : List (Addr × Obj)} {σ : St} {H : Hp} {s : Shared} {Q : VK} {k k' : Bool} (I : Inv X pins σ H s) (q : Q (.bl k) H) (e : k = k') : EP X pins σ Q (.bool k') s := by
  subst e
  exact ⟨.bl k, H, I, rfl, q⟩
theorem op_eq : OpR X (compareOp .Eq) rEq := by
  intro pins s σ H x y v u Q I rx ry h
  obtain ⟨hs, q⟩ := h
  cases x with
  | non =>
    cases rx
    cases y with
    | non => cases ry; exact PySem.EqNone.eq_none_none (fin_bl I q (by simp))
    | bl j => cases ry; exact PySem.EqNone.eq_none_bool (fin_bl I q (by simp))
    | int j => obtain ⟨t', rfl⟩ := ry; exact PySem.EqNone.eq_none_int (fin_bl I q (by simp))
    | str j => obtain ⟨t', rfl⟩ := ry; exact PySem.EqNone.eq_none_str (fin_bl I q (by simp))
    | _ => exact absurd (show false = true from hs) Bool.false_ne_true
  | bl i =>
    cases rx
    cases y with
    | non => cases ry; exact PySem.EqNone.eq_bool_none (fin_bl I q (by simp))
    | bl j => cases ry; exact eq_bool (fin_bl I q dec_bl)
    | str j => obtain ⟨t', rfl⟩ := ry; exact PySem.EqMixed.eq_bool_str (fin_bl I q (by simp))
    | _ => exact absurd (show false = true from hs) Bool.false_ne_true
  | int i =>
    obtain ⟨t, rfl⟩ := rx
    cases y with
    | non => cases ry; exact PySem.EqNone.eq_int_none (fin_bl I q (by simp))
    | int j => obtain ⟨t', rfl⟩ := ry; exact eq_int (fin_bl I q dec_int)
    | str j => obtain ⟨t', rfl⟩ := ry; exact PySem.EqMixed.eq_int_str (fin_bl I q (by simp))
    | _ => exact absurd (show false = true from hs) Bool.false_ne_true
  | str i =>
    obtain ⟨t, rfl⟩ := rx
    cases y with
    | non => cases ry; exact PySem.EqNone.eq_str_none (fin_bl I q (by simp))
    | bl j => cases ry; exact PySem.EqMixed.eq_str_bool (fin_bl I q (by simp))
    | int j => obtain ⟨t', rfl⟩ := ry; exact PySem.EqMixed.eq_str_int (fin_bl I q (by simp))
    | str j => obtain ⟨t', rfl⟩ := ry; exact eq_str (fin_bl I q dec_str)
    | _ => exact absurd (show false = true from hs) Bool.false_ne_true
  | byt i =>
    obtain ⟨t, rfl⟩ := rx
    cases y with
    | byt j => obtain ⟨t', rfl⟩ := ry; exact PySem.W.eq_bytes (fin_bl I q dec_byt)
    | _ => exact absurd (show false = true from hs) Bool.false_ne_true
  | _ => cases y <;> exact absurd (show false = true from hs) Bool.false_ne_true
theorem op_lt : OpR X (compareOp .Lt) (rI0 fun i j => .bl (decide (i < j))) := opB0 fun _ _ _ _ _ _ _ q => lt_int q
theorem op_gt : OpR X (compareOp .Gt) (rI0 fun i j => .bl (decide (j < i))) := opB0 fun _ _ _ _ _ _ _ q => gt_int q
theorem op_ge : OpR X (compareOp .GtE) (rI0 fun i j => .bl (decide (j ≤ i))) := opB0 fun _ _ _ _ _ _ _ q => ge_int q
theorem op_notN : OpR X (compareOp .IsNot) (fun x y H Q => y = .non ∧ Q (.bl (!decide (x = .non))) H) := by
  intro pins s σ H x y v u Q I rx ry h
  obtain ⟨rfl, q⟩ := h
  cases ry
  refine isnot_none_gen (fin_bl I q ?_)
  cases x <;> first
    | (cases rx; rfl)
    | (obtain ⟨t, rfl⟩ := rx; rfl)

/-- two rules for one operation: by cases -/
theorem OpR.or {f : Value → Value → Sem Value} {r r' : R2} (h : OpR X f r) (h' : OpR X f r') : OpR X f (fun x y H Q => r x y H Q ∨ r' x y H Q) := by
  intro pins s σ H x y v u Q I rx ry q
  rcases q with q | q
  · exact h pins s σ H x y v u Q I rx ry q
  · exact h' pins s σ H x y v u Q I rx ry q

theorem nomark (b : Expr) {op : CmpOp} (h : op ≠ .In := by decide) (h2 : op ≠ .NotIn := by decide) : behindInMarks op b = false := by
  have e1 : (op == CmpOp.In) = false := by cases op <;> first | rfl | exact absurd rfl h
  have e2 : (op == CmpOp.NotIn) = false := by cases op <;> first | rfl | exact absurd rfl h2
  cases b <;> simp [behindInMarks, e1, e2]
/-- a comparison as a value; hm: nomark b, or (for in, not in) by with_unfolding_all rfl -/
theorem pe_cmpR {op : CmpOp} {r : R2} (ho : OpR X (compareOp op) r) (ha : PE X a ta) (hb : PE X b tb) (hm : behindInMarks op b = false) : PE X (.Compare a [op] [b] pos) (tOp r ta tb) := by
  intro pins s σ H Q I h
  exact wpAny_Compare1 (binT ha hb I h fun v u s2 x y H2 I2 rx ry q => ho pins s2 σ H2 x y v u Q I2 rx ry q) hm
/-- a reading of a value as a test -/
def tTest (t : TE) : TT := fun σ H Q => t σ H fun x H' => ∃ k, x = .bl k ∧ Q k H'
theorem pt_cmpR {op : CmpOp} {r : R2} (ho : OpR X (compareOp op) r) (ha : PE X a ta) (hb : PE X b tb) (hm : behindInMarks op b = false) : PT X (.Compare a [op] [b] pos) (tTest (tOp r ta tb)) := by
  intro pins s σ H Q I h
  refine wpAny_isTrue_Compare1 (thn (ha pins s σ H _ I h) fun v s1 ⟨x, H1, I1, r1, q1⟩ => thn (hb pins s1 σ H1 _ I1 q1) fun u s2 ⟨y, H2, I2, r2, q2⟩ =>
    thn (ho pins s2 σ H2 x y v u _ I2 r1 r2 q2) fun c s3 ⟨z, H3, I3, r3, k, e, q3⟩ => ?_) hm
  subst e
  cases r3
  exact wpAny_truthy_bool ⟨H3, I3, q3⟩
/-! ### truth -/
theorem line63 : (sizeLine : Nat) < 2 ^ 63 := by rw [sizeLine_eq]; decide
/-! ### strs and bytes -/
/-! ### scalar builtins, by CallR -/
theorem vals1 {x : V} {us : List Value} (r : Vals [x] us) : ∃ u, us = [u] ∧ RelV x u := by
  cases r with
  | cons r1 r2 => cases r2; exact ⟨_, rfl, r1⟩
theorem vals2 {x y : V} {us : List Value} (r : Vals [x, y] us) : ∃ u w', us = [u, w'] ∧ RelV x u ∧ RelV y w' := by
  cases r with
  | cons r1 r2 =>
    cases r2 with
    | cons r3 r4 => cases r4; exact ⟨_, _, rfl, r1, r3⟩
theorem call_max2 (hc : X.calm = true) : CallR X (.builtin "max") (fun xs H Q => ∃ i j, xs = [.int i, .int j] ∧ Q (.int (if j > i then j else i)) H) := by
  intro pins s σ H xs us Q I r h
  obtain ⟨i, j, rfl, q⟩ := h
  obtain ⟨u, w', rfl, ⟨t, rfl⟩, ⟨t', rfl⟩⟩ := vals2 r
  refine max_two_ints (I.ok.hd hc) fun h' tk k => ⟨_, H, I.kept k, ?_, q⟩
  by_cases hj : j > i
  · rw [if_pos hj, if_pos hj]; exact ⟨_, rfl⟩
  · rw [if_neg hj, if_neg hj]; exact ⟨_, rfl⟩
end
end L2

namespace L2
open PySem PySem.Spec PyProof.Rows

/-! ### an instance, its attributes a map -/
structure ObjM (h : Heap) (x dx C : Addr) (mA : Str → Option Value) : Prop where
  obj : h.get? x = some (PySem.W.instObj C dx)
  ns : h.Ns1 dx mA
  ne : dx ≠ x

theorem lookIn_ns {h : Heap} {dx : Addr} {mA : Str → Option Value} (n : h.Ns1 dx mA) : ∃ od, h.get? dx = some od ∧ ∀ name, PySem.W.lookIn name od = some (mA name) := by
  obtain ⟨o, es, ep, ho, hd, hk, _, hm⟩ := n
  refine ⟨o, ho, fun name => ?_⟩
  have e := hm name
  unfold nsFind findBy at e
  rw [← Array.find?_toList] at e
  unfold PySem.W.lookIn
  rw [hd]
  dsimp only
  split
  · rename_i y q
    rw [q] at e
    exact congrArg some e
  · rename_i q
    rw [q] at e
    have a : es.toList.any (·.refKey) = false := by
      rw [List.any_eq_false]
      intro y hy
      obtain ⟨z, t, hkey⟩ := hk y (Array.mem_toList_iff.mp hy)
      simp [DictEntry.refKey, hkey]
    have a' : ¬ es.toList.any (·.refKey) = true := by rw [a]; exact Bool.false_ne_true
    rw [if_neg a']
    exact congrArg some e

theorem ObjM.look {h : Heap} {x dx C : Addr} {mA : Str → Option Value} (I : ObjM h x dx C mA) : ∃ od, PySem.W.InstAt h x (PySem.W.instObj C dx) C (some od) ∧ ∀ name, PySem.W.lookIn name od = some (mA name) :=
  let ⟨od, ho, hl⟩ := lookIn_ns I.ns
  ⟨od, ⟨I.obj, rfl, rfl, ho⟩, hl⟩

section
variable {prog : Program} {w : World} {A : Around} {E : Value → Shared → Prop} {s : Shared} {K : PySem.W.Frag} {x dx C f : Addr} {mA : Str → Option Value} {name : Str} {v : Value}

theorem get_map {expr : Bool} {Q : Value → Shared → Prop} (X : K.In s.heap) (I : ObjM s.heap x dx C mA) (hg : PySem.W.plainGet K C name = true) (hh : PySem.W.hasDictIn K C = true)
    (ha : PySem.W.findIn K (.ref C) name = some none) (hv : mA name = some v) (hv' : PySem.W.handedIn v = true) (h : Q v { s with toks := s.toks + 1 }) :
    wpAny (model prog w) A (getAttr (.ref x) name expr) Q E s := by
  obtain ⟨od, J, hl⟩ := I.look
  exact PySem.W.get_value X J (PySem.W.plainGet_of hg).1 (PySem.W.findObj_own hh ha rfl (by rw [hl, hv])) hv' h

theorem get_meth {pl : Sem Bool} {Q : Value × List Value → Shared → Prop} (X : K.In s.heap) (I : ObjM s.heap x dx C mA) (hg : PySem.W.plainGet K C name = true)
    (hf : PySem.W.findIn K (.ref C) name = some (some (.ref f))) (ht : PySem.W.isFn K (.ref f) = true) (hv : mA name = none) (h : Q (.ref f, [.ref x]) s) :
    wpAny (model prog w) A (getMethod (.ref x) name pl) Q E s := by
  obtain ⟨od, J, hl⟩ := I.look
  exact PySem.W.method_fn X J (PySem.W.plainGet_of hg).1 (PySem.W.plainGet_of hg).2 hf (beq_iff_eq.mp ht) (by show (PySem.W.lookIn name od).map (·.isSome) = some false; rw [hl, hv]; rfl) h

theorem set_map {ns : List Str} {Q : Unit → Shared → Prop} (X : K.In s.heap) (I : ObjM s.heap x dx C mA)
    (hs : PySem.W.findIn K (.ref C) "__setattr__" = some (some (.builtin "object.__setattr__"))) (hp : PySem.W.plainOver K C = true) (ht : PySem.W.takerIn K C name = some none) (hh : PySem.W.hasDictIn K C = true)
    (hw : PySem.Within mA ns) (hsz : ns.length ≤ sizeLine)
    (h : ∀ h', ObjM h' x dx C (fun y => if y = name then some v else mA y) → Heap.SameBut dx s.heap h' → Q () { s with heap := h', toks := s.toks + 2 }) :
    wpAny (model prog w) A (setAttr (.ref x) name v) Q E s := by
  obtain ⟨od, J, hl⟩ := I.look
  refine PySem.W.set_plain X J hs (PySem.W.osa_open (s := { s with toks := s.toks + 1 }) (r := none) X J hp ht fun b => ?_)
  obtain ⟨cd, hc, hd'⟩ := PySem.W.any_some hh
  have hx : s.heap.get? x = some ⟨.ref C, some dx, .plain, #[]⟩ := I.obj
  refine wpAny_bind (wpAny_pure (wpAny_bind (wpAny_bind (wpAny_loadPart hx (wpAny_bind (PySem.W.Looks.here (s := { s with toks := s.toks + 1 }) (PySem.W.looks_clsIn X hc) ?_))))))
  rw [hd']
  refine wpAny_pure (a := some dx) (wpAny_bind (wpAny_pure (wpAny_bind ?_)))
  refine wpAny_nsSet1 (s := { s with toks := s.toks + 1 }) I.ns fun h' hn2 hs2 => ?_
  obtain ⟨oD, esD, epD, hoD, hdD, hcD⟩ := hn2.count (PySem.Within.cons name v hw)
  refine wpAny_bind (wpAny_lookBehind hoD (by rw [hdD]; exact pastItsLine_dict (Nat.le_trans hcD (by rw [List.length_cons]; omega))) ?_)
  exact wpAny_pure (h _ ⟨(hs2.2 _ (Ne.symm I.ne)).trans I.obj, hn2, I.ne⟩ hs2)

/-- C(..): the dict at the heap's end, the instance behind it; then its __init__ -/
theorem make_map {R : Result → Shared → Prop} {vs : List Value} {kw : List (Str × Value)} (X : K.In s.heap) (hm : PySem.W.makesIn K C = true)
    (hi : PySem.W.findIn K (.ref C) "__init__" = some (some (.ref f))) (hf : PySem.W.typeIn K (.ref f) = some (.type "function"))
    (h : codeAny (model prog w) (A.under (.builtin "type.__call__" ⟨.ref C :: vs, kw⟩)) (.call (.ref f) ⟨.ref (s.heap.objs.size + 1) :: vs, kw⟩) (PySem.W.InitBack (s.heap.objs.size + 1) R)
      { s with heap := (s.heap.push PySem.W.emptyDict).push (PySem.W.instObj C s.heap.objs.size) }) :
    codeAny (model prog w) A (.call (.ref C) ⟨vs, kw⟩) R s := by
  obtain ⟨hh, g, d, t, os⟩ := s
  exact PySem.W.make_core (PySem.W.makes_of X hm) (PySem.W.looks_findIn X hi) (fun self => PySem.W.bind_fn X self hf) (.inl rfl) h
end

/-! ### the attributes as a list of pairs -/
def putF (f : Str) (v : V) : List (Str × V) → List (Str × V)
  | [] => [(f, v)]
  | (g, x) :: r => if g = f then (g, v) :: r else (g, x) :: putF f v r
theorem lookup_putF (f g : Str) (v : V) : ∀ fs : List (Str × V), (putF f v fs).lookup g = if g = f then some v else fs.lookup g
  | [] => by
    show List.lookup g [(f, v)] = _
    by_cases h : g = f
    · have hb : (g == f) = true := beq_iff_eq.mpr h
      simp only [List.lookup, hb, if_pos h]
    · have hb : (g == f) = false := beq_eq_false_iff_ne.mpr h
      simp only [List.lookup, hb, if_neg h]
  | (k, x) :: r => by
    have ih := lookup_putF f g v r
    rw [show putF f v ((k, x) :: r) = (if k = f then (k, v) :: r else (k, x) :: putF f v r) from rfl]
    by_cases hk : k = f
    · rw [if_pos hk]
      by_cases h : g = k
      · have hb : (g == k) = true := beq_iff_eq.mpr h
        simp only [List.lookup, hb, if_pos (h.trans hk)]
      · have hb : (g == k) = false := beq_eq_false_iff_ne.mpr h
        simp only [List.lookup, hb, if_neg (fun e : g = f => h (e.trans hk.symm))]
    · rw [if_neg hk]
      by_cases h : g = k
      · have hb : (g == k) = true := beq_iff_eq.mpr h
        simp only [List.lookup, hb, if_neg (fun e : g = f => hk (h.symm.trans e))]
      · have hb : (g == k) = false := beq_eq_false_iff_ne.mpr h
        simp only [List.lookup, hb]
        exact ih
theorem keys_putF (f : Str) (v : V) : ∀ fs : List (Str × V), f ∈ (putF f v fs).map (·.1) ∧ ∀ g, g ∈ fs.map (·.1) → g ∈ (putF f v fs).map (·.1)
  | [] => ⟨by simp [putF], fun g h => by simp at h⟩
  | (k, x) :: r => by
    obtain ⟨i1, i2⟩ := keys_putF f v r
    rw [show putF f v ((k, x) :: r) = (if k = f then (k, v) :: r else (k, x) :: putF f v r) from rfl]
    by_cases hk : k = f
    · rw [if_pos hk]
      subst hk
      exact ⟨by simp, fun g h => by simpa using h⟩
    · rw [if_neg hk]
      refine ⟨?_, fun g h => ?_⟩
      · rw [List.map_cons]
        exact List.mem_cons_of_mem _ i1
      · rw [List.map_cons] at h ⊢
        rcases List.mem_cons.mp h with e | e
        · exact List.mem_cons.mpr (.inl e)
        · exact List.mem_cons_of_mem _ (i2 g e)
theorem length_putF (f : Str) (v : V) : ∀ fs : List (Str × V), (putF f v fs).length ≤ fs.length + 1
  | [] => by simp [putF]
  | (k, x) :: r => by
    have ih := length_putF f v r
    rw [show putF f v ((k, x) :: r) = (if k = f then (k, v) :: r else (k, x) :: putF f v r) from rfl]
    by_cases hk : k = f
    · rw [if_pos hk, List.length_cons, List.length_cons]; omega
    · rw [if_neg hk, List.length_cons, List.length_cons]; omega

theorem RelO.some_of {v : V} {o : Option Value} (r : RelO (some v) o) : ∃ u, o = some u ∧ RelV v u := by
  cases o with
  | none => exact (show False from r).elim
  | some u => exact ⟨u, rfl, r⟩
theorem RelO.none_of {o : Option Value} (r : RelO none o) : o = none := by
  cases o with
  | none => rfl
  | some u => exact (show False from r).elim
theorem handed_of {v : V} {u : Value} (r : RelV v u) : PySem.W.handedIn u = true := by
  cases v with
  | non => cases (show u = Value.none from r); rfl
  | bl b => cases (show u = Value.bool b from r); rfl
  | int i => obtain ⟨t, e⟩ := (show ∃ t, u = Value.int i t from r); cases e; rfl
  | str x => obtain ⟨t, e⟩ := (show ∃ t, u = Value.str x t from r); cases e; rfl
  | byt b => obtain ⟨t, e⟩ := (show ∃ t, u = Value.bytes b t from r); cases e; rfl
  | flt b => obtain ⟨t, e⟩ := (show ∃ t, u = Value.float b t from r); cases e; rfl
  | ref a => cases (show u = Value.ref a from r); rfl
  | ty n => cases (show u = Value.type n from r); rfl

section
variable {P : Program} {w : World} {H H' : Hp} {h h' : Heap} {a C dx : Addr} {fs fs' : List (Str × V)}
theorem ins_get (hok : HOk P w H h) (e : H a = some (.ins C dx fs)) : ∃ mA, ObjM h a dx C mA ∧ (∀ f, RelO (fs.lookup f) (mA f)) ∧ PySem.Within mA (fs.map (·.1)) ∧ fs.length ≤ 1000 ∧ H dx = some (.own a) := by
  obtain ⟨d, z, ne, ob, mA, n, r, q⟩ := (show ObjOk P w H h a (.ins C dx fs) from hok a _ e)
  exact ⟨mA, ⟨ob, n, ne⟩, r, q, z, d⟩
end

/-! ### what of the text a class must have -/
structure Cls (K : PySem.W.Frag) (C : Addr) : Prop where
  pg : PySem.W.plainGet K C Str.empty = true
  hd : PySem.W.hasDictIn K C = true
  po : PySem.W.plainOver K C = true
  sa : PySem.W.findIn K (.ref C) "__setattr__" = some (some (.builtin "object.__setattr__"))
theorem Cls.get {K : PySem.W.Frag} {C : Addr} (c : Cls K C) (f : Str) : PySem.W.plainGet K C f = true := c.pg
/-- no class of it has the name -/
def NoAttr (K : PySem.W.Frag) (C : Addr) (f : Str) : Prop := PySem.W.findIn K (.ref C) f = some none
theorem NoAttr.taker {K : PySem.W.Frag} {C : Addr} {f : Str} (n : NoAttr K C f) : PySem.W.takerIn K C f = some none := by
  unfold PySem.W.takerIn
  rw [show PySem.W.findIn K (.ref C) f = some none from n]
  rfl
/-- a constant of the class -/
structure Con (K : PySem.W.Frag) (C : Addr) (f : Str) (v : V) (u : Value) : Prop where
  at_ : PySem.W.findIn K (.ref C) f = some (some u)
  rel : RelV v u
  get : PySem.W.specialIn K u "__get__" = some none
  cp : PySem.W.copiedNames.contains f = false
/-- a method: a plain def of the class or of one above it -/
structure Meth (K : PySem.W.Frag) (C : Addr) (m : Str) (f : Addr) : Prop where
  at_ : PySem.W.findIn K (.ref C) m = some (some (.ref f))
  fn : PySem.W.isFn K (.ref f) = true
  kp : PySem.W.keepIn K (.ref f) = true

section
variable {X : Cx} {pins : List (Addr × Obj)} {σ : St} {H : Hp} {s : Shared} {a C dx : Addr} {fs : List (Str × V)} {f : Str} {v : V} {A : Around} {E : Value → Shared → Prop}

theorem getattr_ok {b : Bool} {Q : Value → Shared → Prop} (I : Inv X pins σ H s) (e : H a = some (.ins C dx fs)) (c : Cls X.K C) (n : NoAttr X.K C f) (l : fs.lookup f = some v)
    (h : ∀ u s', Inv X pins σ H s' → RelV v u → Q u s') : wpAny (model X.prog X.w) A (getAttr (.ref a) f b) Q E s := by
  obtain ⟨mA, O, r, _, _, _⟩ := ins_get I.hok e
  obtain ⟨u, hu, ru⟩ := RelO.some_of (v := v) (o := mA f) (by rw [← l]; exact r f)
  exact get_map I.kIn O (c.get f) c.hd n hu (handed_of ru) (h u _ (I.tok _) ru)

theorem getmeth_ok {m : Str} {g : Addr} {pl : Sem Bool} {Q : Value × List Value → Shared → Prop} (I : Inv X pins σ H s) (e : H a = some (.ins C dx fs)) (c : Cls X.K C) (k : Meth X.K C m g) (l : fs.lookup m = none)
    (h : Q (.ref g, [.ref a]) s) : wpAny (model X.prog X.w) A (getMethod (.ref a) m pl) Q E s := by
  obtain ⟨mA, O, r, _, _, _⟩ := ins_get I.hok e
  have hn : mA m = none := RelO.none_of (by rw [← l]; exact r m)
  exact get_meth I.kIn O (c.get m) k.at_ k.fn hn h

theorem setattr_ok {y : V} {u : Value} {Q : Unit → Shared → Prop} (I : Inv X pins σ H s) (e : H a = some (.ins C dx fs)) (c : Cls X.K C) (n : NoAttr X.K C f) (hl : fs.length < 1000) (ry : RelV y u)
    (h : ∀ s', Inv X pins σ (upd H a (.ins C dx (putF f y fs))) s' → Q () s') : wpAny (model X.prog X.w) A (setAttr (.ref a) f u) Q E s := by
  obtain ⟨mA, O, r, wi, _, ho⟩ := ins_get I.hok e
  have hz : (fs.map (·.1)).length ≤ sizeLine := by rw [List.length_map, sizeLine_eq]; omega
  refine set_map I.kIn O c.sa c.po n.taker c.hd wi hz fun h' O' sb => h _ ?_
  have hd : ∃ o, h'.get? dx = some o := let ⟨o, _, _, e', _⟩ := O'.ns; ⟨o, e'⟩
  refine I.write (x := a) (e := dx) (by rw [e]; exact True.intro) (.inr ho) (fun b q hb z => (sb.2 b hb).trans z) hd ?_
  refine ⟨by rw [upd_ne O.ne]; exact ho, ?_, O.ne, O'.obj, _, O'.ns, fun g => ?_, fun g hg => ?_⟩
  · have := length_putF f y fs; omega
  · show RelO ((putF f y fs).lookup g) (if g = f then some u else mA g)
    rw [lookup_putF]
    by_cases q : g = f
    · rw [if_pos q, if_pos q]; exact ry
    · rw [if_neg q, if_neg q]; exact r g
  · by_cases q : g = f
    · rw [q]; exact (keys_putF f y fs).1
    · refine (keys_putF f y fs).2 g (wi g fun z => hg ?_)
      show (if g = f then some u else mA g) = none
      rw [if_neg q]; exact z

/-- a new instance, tracked, without attributes -/
theorem Inv.made (I : Inv X pins σ H s) : Inv X pins σ (upd (upd H s.heap.objs.size (.own (s.heap.objs.size + 1))) (s.heap.objs.size + 1) (.ins C s.heap.objs.size []))
    { s with heap := (s.heap.push PySem.W.emptyDict).push (PySem.W.instObj C s.heap.objs.size) } := by
  have e1 : (s.heap.push PySem.W.emptyDict).get? s.heap.objs.size = some PySem.W.emptyDict := Heap.get?_push_size s.heap rfl
  have e2 : ((s.heap.push PySem.W.emptyDict).push (PySem.W.instObj C s.heap.objs.size)).get? (s.heap.objs.size + 1) = some (PySem.W.instObj C s.heap.objs.size) := by
    have := Heap.get?_push_size (s.heap.push PySem.W.emptyDict) (o := PySem.W.instObj C s.heap.objs.size) rfl
    rwa [Heap.size_push] at this
  have e3 : (s.heap.push PySem.W.emptyDict).Ns s.heap.objs.size (fun _ => none) := ⟨PySem.W.emptyDict, #[], _, e1, rfl, (fun e he => absurd he (by simp)), fun _ => rfl⟩
  have I1 := I.laid (a := s.heap.objs.size) (o := .own (s.heap.objs.size + 1)) (h' := s.heap.push PySem.W.emptyDict) (t' := s.toks) (fun b u q => Heap.get?_push_of_some _ q) (Nat.le_refl _) ⟨_, e1⟩
  refine I1.laid (a := s.heap.objs.size + 1) (o := .ins C s.heap.objs.size []) (t' := s.toks) (fun b u q => Heap.get?_push_of_some _ q) (Nat.le_of_eq (Heap.size_push _ _)) ?_
  have ne : s.heap.objs.size ≠ s.heap.objs.size + 1 := Nat.ne_of_lt (Nat.lt_succ_self _)
  refine ⟨by rw [upd_ne ne, upd_same], Nat.zero_le _, ne, e2, fun _ => none, (Heap.Ns1.of_empty e3).at fun o q => Heap.get?_push_of_some _ q, fun _ => True.intro, fun y hy => absurd rfl hy⟩

/-- e.f where nothing but the object is asked: through attributeBase (super) and the last hold -/
theorem attr_of {prog : Program} {w : World} {env : Env} {e : Expr} {f : Str} {pos : Pos} {s : Shared} {Q : Value → Shared → Prop} (hb : attributeBase e f env (eval e env) = eval e env)
    (h : wpAny (model prog w) A (eval e env) (fun o s₁ => wpAny (model prog w) A (getAttr o f true) Q E s₁) E s) : wpAny (model prog w) A (eval (.Attribute e f pos) env) Q E s :=
  Attribute_any_ h (by rw [arm_eval_Attribute, hb])
end

/-! ### readings and rules -/
/-- e.f, an attribute of the instance -/
def tFld (K : PySem.W.Frag) (ta : TE) (f : Str) : TE := fun σ H Q => ta σ H fun x H1 => ∃ a C dx fs v, x = .ref a ∧ H1 a = some (.ins C dx fs) ∧ Cls K C ∧ NoAttr K C f ∧ fs.lookup f = some v ∧ Q v H1
/-- e.f = value -/
def sFld (K : PySem.W.Frag) (ta tv : TE) (f : Str) : TS := fun D σ H => tv σ H fun y H1 => ta σ H1 fun x H2 => ∃ a C dx fs, x = .ref a ∧ H2 a = some (.ins C dx fs) ∧ Cls K C ∧ NoAttr K C f ∧ fs.length < 1000 ∧
  D.nx σ (upd H2 a (.ins C dx (putF f y fs)))
/-- an augmented operator on two values -/
def InOp (X : Cx) (op : Operator) (rd : V → V → Hp → VK → Prop) : Prop :=
  ∀ (pins : List (Addr × Obj)) (s : Shared) (σ : St) (H : Hp) (x y : V) (u v : Value) (Q : VK), Inv X pins σ H s → RelV x u → RelV y v → rd x y H Q → wpAny (model X.prog X.w) X.A (inplaceOp op u v) (EP X pins σ Q) X.xe s
/-- e.f op= value -/
def sFldAug (K : PySem.W.Frag) (ta tv : TE) (rd : V → V → Hp → VK → Prop) (f : Str) : TS := fun D σ H => ta σ H fun x H1 => ∃ a C dx fs v, x = .ref a ∧ H1 a = some (.ins C dx fs) ∧ Cls K C ∧ NoAttr K C f ∧ fs.lookup f = some v ∧
  tv σ H1 fun y H2 => rd v y H2 fun z H3 => ∃ dx' fs', H3 a = some (.ins C dx' fs') ∧ fs'.length < 1000 ∧ D.nx σ (upd H3 a (.ins C dx' (putF f z fs')))

section
variable {X : Cx} {o e value : Expr} {f : Str} {pos pos' tpos : Pos} {ta tv : TE}
theorem pe_fld (he : PE X e ta) (hb : attributeBase e f X.env (eval e X.env) = eval e X.env) : PE X (.Attribute e f pos) (tFld X.K ta f) := by
  intro pins s σ H Q I h
  refine attr_of hb (thn (he pins s σ H _ I h) fun u s1 ⟨x, H1, I1, rx, a, C, dx, fs, v, ex, ea, c, n, l, q⟩ => ?_)
  subst ex
  obtain rfl : u = Value.ref a := rx
  exact getattr_ok I1 ea c n l fun u' s2 I2 ru => ⟨v, H1, I2, ru, q⟩
theorem ps_fld (ha : PE X o ta) (hv : PE X value tv) (hs : swapsWith value (some (.Attribute o f pos')) pos.line X.env = pure false) : PS X (.Assign [.Attribute o f pos'] value pos) (sFld X.K ta tv f) := by
  intro pins s σ H D I h
  refine plainObj_wpAny_Assign_Attribute (thn (hv pins s σ H _ I h) fun u s1 ⟨y, H1, I1, ry, q⟩ => thn (ha pins s1 σ H1 _ I1 q) fun ov s2 ⟨x, H2, I2, rx, a, C, dx, fs, ex, ea, c, n, l, q2⟩ => ?_) hs
  subst ex
  obtain rfl : ov = Value.ref a := rx
  exact setattr_ok I2 ea c n l ry fun s3 I3 => ⟨σ, _, I3, q2⟩
theorem ps_fldaug {op : Operator} {rd : V → V → Hp → VK → Prop} (ha : PE X o ta) (hv : PE X value tv) (hop : InOp X op rd) : PS X (.AugAssign (.Attribute o f tpos) op value pos) (sFldAug X.K ta tv rd f) := by
  intro pins s σ H D I h
  refine wpAny_AugAssign_AttributeAny (thn (ha pins s σ H _ I h) fun ov s1 ⟨x, H1, I1, rx, a, C, dx, fs, v, ex, ea, c, n, l, q⟩ => ?_)
  subst ex
  obtain rfl : ov = Value.ref a := rx
  refine getattr_ok I1 ea c n l fun u s2 I2 ru => thn (hv pins s2 σ H1 _ I2 q) fun w3 s3 ⟨y, H2, I3, ry, q3⟩ => thn (hop pins s3 σ H2 v y u w3 _ I3 ru ry q3) fun w4 s4 ⟨z, H3, I4, rz, dx', fs', ea', l', q4⟩ => ?_
  exact setattr_ok I4 ea' c n l' rz fun s5 I5 => ⟨σ, _, I5, q4⟩
def rAdd : V → V → Hp → VK → Prop := fun x y H Q => ∃ i j, x = .int i ∧ y = .int j ∧ Q (.int (i + j)) H
def rSub : V → V → Hp → VK → Prop := fun x y H Q => ∃ i j, x = .int i ∧ y = .int j ∧ Q (.int (i - j)) H
theorem in_add : InOp X .Add rAdd := by
  rintro pins s σ H x y u v Q I rx ry ⟨i, j, rfl, rfl, q⟩
  obtain ⟨t, rfl⟩ := (show ∃ t, u = Value.int i t from rx)
  obtain ⟨t', rfl⟩ := (show ∃ t', v = Value.int j t' from ry)
  exact PyProof.Rows.iadd_int ⟨.int (i + j), H, I.tok _, ⟨_, rfl⟩, q⟩
theorem in_sub : InOp X .Sub rSub := by
  rintro pins s σ H x y u v Q I rx ry ⟨i, j, rfl, rfl, q⟩
  obtain ⟨t, rfl⟩ := (show ∃ t, u = Value.int i t from rx)
  obtain ⟨t', rfl⟩ := (show ∃ t', v = Value.int j t' from ry)
  exact PyProof.Rows.isub_int ⟨.int (i - j), H, I.tok _, ⟨_, rfl⟩, q⟩

end

/-! ### isinstance -/
section
variable {X : Cx} {pins : List (Addr × Obj)} {σ : St} {H : Hp} {s : Shared} {A : Around} {E : Value → Shared → Prop} {Q : Value → Shared → Prop} {c : Value} {b : Bool}
/-- the type of a value, as the fragment's deciders take it; for an instance its class -/
inductive TyOf (K : PySem.W.Frag) (H : Hp) : V → Value → Prop where
  | non : TyOf K H .non (.type "NoneType")
  | bl (x : Bool) : TyOf K H (.bl x) (.type "bool")
  | int (i : Int) : TyOf K H (.int i) (.type "int")
  | str (x : Str) : TyOf K H (.str x) (.type "str")
  | flt (x : UInt64) : TyOf K H (.flt x) (.type "float")
  | lst {a : Addr} {xs : List V} (e : H a = some (.lst xs)) : TyOf K H (.ref a) (.type "list")
  | frz {a : Addr} {o : Obj} {xs : List V} (e : H a = some (.frz o (.lst xs))) : TyOf K H (.ref a) (.type "list")
  | tup {a : Addr} {xs : List V} (e : H a = some (.tup xs)) : TyOf K H (.ref a) (.type "tuple")
  | dK {a : Addr} {kvs : List (Key × V)} (e : H a = some (.dK kvs)) : TyOf K H (.ref a) (.type "dict")
  | dT {a : Addr} {kvs : List (List Key × V)} (e : H a = some (.dT kvs)) : TyOf K H (.ref a) (.type "dict")
  | ins {a C dx : Addr} {fs : List (Str × V)} (e : H a = some (.ins C dx fs)) (cl : Cls K C) (ha : PySem.W.findIn K (.ref C) "__class__" = some (some (.builtin "object.__class__")))
      (hn : PySem.W.specialIn K (.builtin "object.__class__") "__get__" = some (some (.builtin "getset_descriptor.__get__"))) (htk : PySem.W.takesIn K (.builtin "object.__class__") = some true)
      (hm : PySem.W.mroIn K C (.type "object") = some true) : TyOf K H (.ref a) (.ref C)
/-- isinstance(x, c) for one class c, a built-in or an own one: kitOne's answer -/
theorem isinst_ok {x : V} {u t : Value} (I : Inv X pins σ H s) (rx : RelV x u) (ty : TyOf X.K H x t) (e : PySem.W.kitOne X.K t c = some b) (h : ∀ tk, Q (.bool b) { s with toks := tk }) :
    wpAny (model X.prog X.w) A (call (.builtin "isinstance") [u, c]) Q E s := by
  cases ty with
  | non => cases (show u = Value.none from rx); exact PySem.W.kia_one PySem.W.kitx_none I.kIn True.intro e (fun z => nomatch z) h
  | bl y => cases (show u = Value.bool y from rx); exact PySem.W.kia_one PySem.W.kitx_bool I.kIn True.intro e (fun z => nomatch z) h
  | int i => obtain ⟨t, q⟩ := (show ∃ t, u = Value.int i t from rx); cases q; exact PySem.W.kia_one PySem.W.kitx_int I.kIn True.intro e (fun z => nomatch z) h
  | str y => obtain ⟨t, q⟩ := (show ∃ t, u = Value.str y t from rx); cases q; exact PySem.W.kia_one PySem.W.kitx_str I.kIn True.intro e (fun z => nomatch z) h
  | flt y => obtain ⟨t, q⟩ := (show ∃ t, u = Value.float y t from rx); cases q; exact PySem.W.kia_one PySem.W.kitx_float I.kIn True.intro e (fun z => nomatch z) h
  | @lst a xs ea =>
    cases (show u = Value.ref a from rx)
    obtain ⟨_, _, n, _, h1⟩ := (show ObjOk X.prog X.w H s.heap a (.lst xs) from I.hok a _ ea)
    exact PySem.W.kia_one PySem.W.kitx_list I.kIn ⟨_, h1, rfl⟩ e (fun z => nomatch z) h
  | @frz a ob xs ea =>
    cases (show u = Value.ref a from rx)
    obtain ⟨_, _, _, n, _, h1⟩ := (show ObjOk X.prog X.w H s.heap a (.frz ob (.lst xs)) from I.hok a _ ea)
    exact PySem.W.kia_one PySem.W.kitx_list I.kIn ⟨_, h1, rfl⟩ e (fun z => nomatch z) h
  | @tup a xs ea =>
    cases (show u = Value.ref a from rx)
    obtain ⟨_, _, _, p⟩ := (show ObjOk X.prog X.w H s.heap a (.tup xs) from I.hok a _ ea)
    obtain ⟨o, h1, h2, _⟩ := p
    exact PySem.W.kia_one PySem.W.kitx_tuple I.kIn ⟨o, h1, h2⟩ e (fun z => nomatch z) h
  | @dK a kvs ea =>
    cases (show u = Value.ref a from rx)
    obtain ⟨_, _, vs, _, p⟩ := (show ObjOk X.prog X.w H s.heap a (.dK kvs) from I.hok a _ ea)
    obtain ⟨o, es, ep, h1, h2, _⟩ := p
    exact PySem.W.kia_one PySem.W.kitx_dict I.kIn ⟨o, h1, h2.1⟩ e (fun z => nomatch z) h
  | @dT a kvs ea =>
    cases (show u = Value.ref a from rx)
    obtain ⟨_, _, xs, _, o, es, ep, h1, h2, _⟩ := (show ObjOk X.prog X.w H s.heap a (.dT kvs) from I.hok a _ ea)
    exact PySem.W.kia_one PySem.W.kitx_dict I.kIn ⟨o, h1, h2.1⟩ e (fun z => nomatch z) h
  | @ins a C dx fs ea cl ha hn htk hm =>
    cases (show u = Value.ref a from rx)
    obtain ⟨mA, O, _⟩ := ins_get I.hok ea
    obtain ⟨od, J, _⟩ := O.look
    exact PySem.W.kia_one (PySem.W.kitx_own (cl.get _) cl.hd ha hn htk hm) I.kIn J e (fun z => nomatch z) h
end
end L2

namespace L2
open PySem PySem.Spec PyProof.Rows

/-! ### room -/
structure Room (k : Nat) (A : Around) : Prop where
  hd : A.handled = none
  dp : A.depth + 3 * k + 5 < recursionLimit
  un : A.units + 16 * k + 200 < cLine
theorem Room.mono {j k : Nat} {A : Around} (r : Room k A) (h : j ≤ k) : Room j A := ⟨r.hd, by have := r.dp; omega, by have := r.un; omega⟩
theorem Room.deeper {k : Nat} {A : Around} (r : Room (k + 1) A) (env : Env) : Room k (A.deeper env) :=
  ⟨r.hd, by have := r.dp; show A.depth + 1 + 3 * k + 5 < _; omega, by have := r.un; show A.units + 3 + 16 * k + 200 < _; omega⟩
theorem Room.in1 {k : Nat} {A : Around} (r : Room (k + 1) A) : Room k A.in1 :=
  ⟨r.hd, by have := r.dp; show A.depth + 3 * k + 5 < _; omega, by have := r.un; show A.units + 1 + 16 * k + 200 < _; omega⟩
theorem make_depth {A : Around} {C : Addr} {us : List Value} {kw : List (Str × Value)} : (A.under (.builtin "type.__call__" ⟨.ref C :: us, kw⟩)).depth = A.depth + 1 := by
  first | rfl | simp [Around.under, Code.weight, Code.isCreation, Code.isGuard, Code.isCaller, Code.frames, Code.isFrame, guardIds]
theorem make_units {A : Around} {C : Addr} {us : List Value} {kw : List (Str × Value)} : (A.under (.builtin "type.__call__" ⟨.ref C :: us, kw⟩)).units = A.units + 1 := by
  first | rfl | simp [Around.under, Code.cUnits, Code.frames, Code.isFrame]
theorem Room.make {k : Nat} {A : Around} (r : Room (k + 1) A) (C : Addr) (us : List Value) (kw : List (Str × Value)) : Room k (A.under (.builtin "type.__call__" ⟨.ref C :: us, kw⟩)) :=
  ⟨r.hd, by have := r.dp; rw [make_depth]; omega, by have := r.un; rw [make_units]; omega⟩
theorem Room.depth {k : Nat} {A : Around} (r : Room k A) : A.depth < recursionLimit := by have := r.dp; omega
theorem Room.units {k : Nat} {A : Around} (r : Room k A) : A.units + 64 < cLine := by have := r.un; omega
theorem Room.units0 {k : Nat} {A : Around} (r : Room k A) : A.units < cLine := by have := r.un; omega

/-! ### argument lists and displays -/
def tNil : TA := fun _ H Q => Q [] H
def tCons (ta : TE) (tr : TA) : TA := fun σ H Q => ta σ H fun x H1 => tr σ H1 fun xs H2 => Q (x :: xs) H2
section
variable {X : Cx} {e : Expr} {es : List Expr} {te : TE} {t : TA} {pos : Pos}
theorem pa_nil : PA X [] tNil := fun _ _ _ _ H Q I h => Calls.spliced_nil ⟨[], H, I, .nil, h⟩
theorem pa_cons (ha : PE X e te) (hr : PA X es t) (hs : starEach (e :: es) X.env = (false, eval e X.env) :: starEach es X.env := by rfl) : PA X (e :: es) (tCons te t) := by
  intro pos pins s σ H Q I h
  rw [hs]
  show wpAny _ _ (spliced ((false, eval e X.env) :: backTo pos (starEach es X.env))) _ _ s
  refine Calls.spliced_cons (thn (ha pins s σ H _ I h) fun u s1 ⟨x, H1, I1, r1, q1⟩ => ?_)
  exact thn (hr pos pins s1 σ H1 _ I1 q1) fun us s2 ⟨xs, H2, I2, r2, q2⟩ => ⟨x :: xs, H2, I2, .cons r1 r2, q2⟩

/-- a tuple, a list of written items -/
def tTup (t : TA) : TE := fun σ H Q => t σ H fun xs H1 => xs.length ≤ sizeLine ∧ ∀ p, H1 p = none → Q (.ref p) (upd H1 p (.tup xs))
def tLst (t : TA) : TE := fun σ H Q => t σ H fun xs H1 => xs.length ≤ sizeLine ∧ ∀ p, H1 p = none → Q (.ref p) (upd H1 p (.lst xs))
theorem pe_tup {x1} (h : PA X es t) : PE X (.Tuple es x1 pos) (tTup t) := by
  intro pins s σ H Q I hq
  refine wpAny_Tuple_spliced (thn (h pos pins s σ H _ I hq) fun us s1 ⟨xs, H1, I1, r, z, q⟩ => ⟨by rw [← r.length]; exact z, ?_⟩)
  have hf : H1 s1.heap.objs.size = none := I1.hok.fresh (Nat.le_refl _)
  refine ⟨.ref s1.heap.objs.size, upd H1 s1.heap.objs.size (.tup xs), I1.laid (t' := s1.toks) (fun b u e => Heap.get?_push_of_some _ e) (Nat.le_refl _) ?_, rfl, q _ hf⟩
  exact ⟨z, us, r, ⟨_, Heap.get?_push_size _ rfl, rfl, _, rfl⟩⟩
theorem pe_lst (h : PA X es t) : PE X (.List es pos) (tLst t) := by
  intro pins s σ H Q I hq
  refine wpAny_List_spliced (thn (h pos pins s σ H _ I hq) fun us s1 ⟨xs, H1, I1, r, z, q⟩ => ⟨by rw [← r.length]; exact z, ?_⟩)
  have hf : H1 s1.heap.objs.size = none := I1.hok.fresh (Nat.le_refl _)
  refine ⟨.ref s1.heap.objs.size, upd H1 s1.heap.objs.size (.lst xs), I1.laid (t' := s1.toks) (fun b u e => Heap.get?_push_of_some _ e) (Nat.le_refl _) ?_, rfl, q _ hf⟩
  exact ⟨z, us, 0, r, Heap.get?_push_size _ rfl⟩
end

/-! ### what a def promises -/
/-- a def's promise: the bound arguments in the parameters' order, the heap, the wanted end, the wanted exception -/
abbrev Sp := List V → Hp → VK → XK → Prop
/-- how an exception lies behind a call (file 08 gives it): the callers' frames, abstract heap and state ahead of the call, the wish, the exception, the state -/
abbrev CXT := List Env → Hp → Shared → XK → Value → Shared → Prop

/-- the state at a call -/
structure Env0 (P : Program) (w : World) (K : PySem.W.Frag) (mg : Str → Option Value) (base : Heap) (A : Around) (outer : List Env) (s : Shared) (H : Hp) : Prop where
  frames : A.frames = some outer
  mod : Mod K mg base
  bs : ∀ b o, base.get? b = some o → s.heap.get? b = some o ∧ H b = none
  bsz : base.objs.size ≤ s.heap.objs.size
  funs : s.heap.FunFrames base outer
  frf : ∀ b ∈ frs outer, H b = none
  hok : HOk P w H s.heap
  bare : AllBare s.gens
/-- a call's end -/
def CE (outer : List Env) (P : Program) (w : World) (H : Hp) (s : Shared) (Q : VK) (u : Value) (s' : Shared) : Prop :=
  ∃ v H', s'.os = s.os ∧ AllBare s'.gens ∧ Un (frs outer) [] H H' s.heap s'.heap ∧ HOk P w H' s'.heap ∧ RelV v u ∧ Q v H'
def CR (CX : CXT) (outer : List Env) (P : Program) (w : World) (H : Hp) (s : Shared) (Q : VK) (E : XK) (r : Result) (s' : Shared) : Prop :=
  match r with
  | .ok (.ret u) => CE outer P w H s Q u s'
  | .ok _ => False
  | .error e => CX outer H s E e s'
structure FnOk (P : Program) (w : World) (K : PySem.W.Frag) (mg : Str → Option Value) (base : Heap) (CX : CXT) (k : Nat) (f : Addr) (fd : FuncData) (ps : List Str) (sp : Sp) : Prop where
  len : ∀ vs H Q E, sp vs H Q E → vs.length = ps.length
  run : ∀ (A : Around) (outer : List Env) (s : Shared) (H : Hp) (args : Args) (us : List Value) (vs : List V) (Q : VK) (E : XK), Room k A → Env0 P w K mg base A outer s H → BindsTo s fd args (ps.zip us) → Vals vs us → sp vs H Q E →
    codeAny (model P w) A (.call (.ref f) args) (CR CX outer P w H s Q E) s
theorem FnOk.mono {P : Program} {w : World} {K : PySem.W.Frag} {mg : Str → Option Value} {base : Heap} {CX : CXT} {j k : Nat} {f : Addr} {fd : FuncData} {ps : List Str} {sp : Sp} (F : FnOk P w K mg base CX j f fd ps sp) (h : j ≤ k) :
    FnOk P w K mg base CX k f fd ps sp := ⟨F.len, fun A outer s H args us vs Q E hr => F.run A outer s H args us vs Q E (hr.mono h)⟩
/-- a weaker promise -/
theorem FnOk.imp {P : Program} {w : World} {K : PySem.W.Frag} {mg : Str → Option Value} {base : Heap} {CX : CXT} {k : Nat} {f : Addr} {fd : FuncData} {ps : List Str} {sp sp' : Sp} (F : FnOk P w K mg base CX k f fd ps sp)
    (h : ∀ vs H Q E, sp' vs H Q E → sp vs H Q E) : FnOk P w K mg base CX k f fd ps sp' :=
  ⟨fun vs H Q E q => F.len vs H Q E (h _ _ _ _ q), fun A outer s H args us vs Q E hr he hb hv hs => F.run A outer s H args us vs Q E hr he hb hv (h _ _ _ _ hs)⟩

theorem Env0.make {P : Program} {w : World} {K : PySem.W.Frag} {mg : Str → Option Value} {base : Heap} {A : Around} {outer : List Env} {s : Shared} {H : Hp} (e : Env0 P w K mg base A outer s H) (C : Addr) (us : List Value) (kw : List (Str × Value)) :
    Env0 P w K mg base (A.under (.builtin "type.__call__" ⟨.ref C :: us, kw⟩)) outer s H := ⟨by first | exact e.frames | (simpa [Around.under, Code.envs, Code.isFrame, pushEnvs] using e.frames), e.mod, e.bs, e.bsz, e.funs, e.frf, e.hok, e.bare⟩
theorem Env0.in1 {P : Program} {w : World} {K : PySem.W.Frag} {mg : Str → Option Value} {base : Heap} {A : Around} {outer : List Env} {s : Shared} {H : Hp} (e : Env0 P w K mg base A outer s H) :
    Env0 P w K mg base A.in1 outer s H := ⟨e.frames, e.mod, e.bs, e.bsz, e.funs, e.frf, e.hok, e.bare⟩

section
variable {X : Cx} {pins : List (Addr × Obj)} {σ : St} {H : Hp} {s s' : Shared}
/-- from a body: what a callee wants -/
theorem Inv.env0 (I : Inv X pins σ H s) : Env0 X.prog X.w X.K X.mg X.base X.A X.stack s H :=
  ⟨I.ok.frames, I.ok.mod, I.bs, Nat.le_trans I.ok.bsz I.sz, I.stack, I.stkFree, I.hok, I.bare⟩
/-- behind a call -/
theorem Inv.after {Q : VK} {u : Value} (I : Inv X pins σ H s) (h : CE X.stack X.prog X.w H s Q u s') : EP X pins σ Q u s' := by
  obtain ⟨v, H', os, bare, un, hok, r, q⟩ := h
  obtain ⟨hh, g, d, t, os'⟩ := s'
  obtain rfl : os' = s.os := os
  exact ⟨v, H', I.call (h' := hh) (g' := g) (d' := d) (t' := t) (ch := []) un hok bare (fun b z => absurd z (by simp)), r, q⟩
end

/-! ### calls -/
/-- f(..): the written arguments, then the defaults dvs; E: what is wanted of an exception -/
def tCall (sp : Sp) (dvs : List V) (E : XK) (t : TA) : TE := fun σ H Q => t σ H fun vs H1 => sp (vs ++ dvs) H1 Q E
/-- C(..): a new instance and its dict, then __init__ -/
def tMake (C : Addr) (sp : Sp) (dvs : List V) (E : XK) (t : TA) : TE := fun σ H Q => t σ H fun vs H1 => ∀ x dx, H1 x = none → H1 dx = none → dx ≠ x →
  sp (.ref x :: (vs ++ dvs)) (upd (upd H1 dx (.own x)) x (.ins C dx [])) (fun v H2 => v = .non ∧ Q (.ref x) H2) E

/-- how the parameters are bound: us the positional arguments, kw the keywords' values by name, ds the defaults that fill up -/
def Binds (K : PySem.W.Frag) (fd : FuncData) (ps : List Str) (ds : List Value) : Prop :=
  ∀ (s : Shared) (us : List Value), K.In s.heap → (us ++ ds).length = ps.length → BindsTo s fd ⟨us, []⟩ (ps.zip (us ++ ds))
/-- every parameter is given -/
theorem Binds.all {K : PySem.W.Frag} {fd : FuncData} {ps : List Str} (h : ∀ us : List Value, us.length = ps.length → bindArgs fd ⟨us, []⟩ = pure (ps.zip us)) : Binds K fd ps [] := fun s us _ hl => by
  rw [List.append_nil] at hl ⊢
  exact .of_eq (h us hl)

/-- an exception of a callee reaches what this body wants of exceptions -/
def Passes (CX : CXT) (X : Cx) (E : XK) : Prop := ∀ (pins : List (Addr × Obj)) (σ : St) (H : Hp) (s : Shared) (e : Value) (s' : Shared), Inv X pins σ H s → CX X.stack H s E e s' → X.xe e s'

section
variable {X : Cx} {CX : CXT} {k : Nat} {f C : Addr} {fd : FuncData} {ps : List Str} {sp : Sp} {dvs : List V} {ds : List Value} {E : XK} {x m : Str} {p pos apos : Pos} {e o : Expr} {es : List Expr} {ta : TE} {t : TA}

/-- the callee runs -/
theorem run_fn {pins : List (Addr × Obj)} {σ : St} {H : Hp} {s : Shared} {Q : VK} {us : List Value} {vs : List V} (F : FnOk X.prog X.w X.K X.mg X.base CX k f fd ps sp) (hr : Room k X.A) (hb : Binds X.K fd ps ds) (hd : Vals dvs ds) (hx : Passes CX X E)
    (I : Inv X pins σ H s) (r : Vals vs us) (h : sp (vs ++ dvs) H Q E) : wpAny (model X.prog X.w) X.A (call (.ref f) us) (EP X pins σ Q) X.xe s := by
  have r2 : Vals (vs ++ dvs) (us ++ ds) := r.append hd
  have hl : (us ++ ds).length = ps.length := by rw [← r2.length]; exact F.len _ _ _ _ h
  refine wpAny_call (codeAny_mono (F.run X.A X.stack s H ⟨us, []⟩ (us ++ ds) (vs ++ dvs) Q E hr I.env0 (hb s us I.kIn hl) r2 h) fun r s' hq => ?_)
  cases r with
  | error e => exact hx pins σ H s e s' I hq
  | ok fl =>
    cases fl with
    | ret u => exact I.after hq
    | next => exact False.elim hq
    | brk => exact False.elim hq
    | cont => exact False.elim hq

theorem pe_call (F : FnOk X.prog X.w X.K X.mg X.base CX k f fd ps sp) (hr : Room k X.A) (hg : Gl X x) (hm : X.mg x = some (.ref f)) (hk : PySem.W.keepIn X.K (.ref f) = true) (hb : Binds X.K fd ps ds) (hd : Vals dvs ds) (hx : Passes CX X E)
    (ha : PA X (e :: es) t) (hdb : (x == ("__debug__" : Str)) = false := by decide) (he : starEach (e :: es) X.env = (false, eval e X.env) :: starEach es X.env := by rfl) (hpl : (backTo pos (starEach es X.env)).any (·.1) = false := by rfl) :
    PE X (.Call (.Name x p) (e :: es) [] pos) (tCall sp dvs E t) := by
  intro pins s σ H Q I h
  refine wpAny_Call_Name_kw (ld_glob I hg hm ?_ hdb)
  refine PySem.W.callWith_K (h₀ := X.base) I.ok.mod.kin hk (thn (ha pos pins s σ H _ I h) fun us s1 ⟨vs, H1, I1, r, q⟩ => ⟨I1.kIn, ?_⟩) he hpl
  exact run_fn F hr hb hd hx I1 r q
/-- what a class must have to be made -/
structure Mk (K : PySem.W.Frag) (C f : Addr) : Prop where
  makes : PySem.W.makesIn K C = true
  init : PySem.W.findIn K (.ref C) "__init__" = some (some (.ref f))
  fn : PySem.W.isFn K (.ref f) = true
  kp : PySem.W.keepIn K (.ref C) = true

theorem run_make {pins : List (Addr × Obj)} {σ : St} {H : Hp} {s : Shared} {Q : VK} {us : List Value} {vs : List V} (M : Mk X.K C f) (F : FnOk X.prog X.w X.K X.mg X.base CX k f fd ps sp) (hr : Room (k + 1) X.A) (hb : Binds X.K fd ps ds) (hd : Vals dvs ds)
    (hx : Passes CX X E) (I : Inv X pins σ H s) (r : Vals vs us)
    (h : ∀ x dx, H x = none → H dx = none → dx ≠ x → sp (.ref x :: (vs ++ dvs)) (upd (upd H dx (.own x)) x (.ins C dx [])) (fun v H2 => v = .non ∧ Q (.ref x) H2) E) :
    wpAny (model X.prog X.w) X.A (call (.ref C) us) (EP X pins σ Q) X.xe s := by
  have hq := h (s.heap.objs.size + 1) s.heap.objs.size (I.hok.fresh (Nat.le_succ _)) (I.hok.fresh (Nat.le_refl _)) (Nat.ne_of_lt (Nat.lt_succ_self _))
  have I2 := Inv.made (C := C) I
  have r2 : Vals (V.ref (s.heap.objs.size + 1) :: (vs ++ dvs)) (Value.ref (s.heap.objs.size + 1) :: (us ++ ds)) := .cons rfl (r.append hd)
  have hl : (Value.ref (s.heap.objs.size + 1) :: us ++ ds).length = ps.length := by
    have e := r2.length
    rw [F.len _ _ _ _ hq] at e
    exact e.symm
  refine wpAny_call (make_map (f := f) I.kIn M.makes M.init (beq_iff_eq.mp M.fn) (codeAny_mono (F.run _ X.stack _ _ ⟨Value.ref (s.heap.objs.size + 1) :: us, []⟩ (Value.ref (s.heap.objs.size + 1) :: (us ++ ds)) _ _ E (hr.make C us [])
    (I2.env0.make C us []) (hb _ (Value.ref (s.heap.objs.size + 1) :: us) I2.kIn hl) r2 hq) fun r s' hq' => ?_))
  cases r with
  | error e => exact hx pins σ _ _ e s' I2 hq'
  | ok fl =>
    cases fl with
    | ret u =>
      obtain ⟨v, H', I3, rv, ev, q3⟩ := I2.after hq'
      subst ev
      exact ⟨rv, ⟨V.ref (s.heap.objs.size + 1), H', I3, rfl, q3⟩⟩
    | next => exact False.elim hq'
    | brk => exact False.elim hq'
    | cont => exact False.elim hq'
theorem pe_make (M : Mk X.K C f) (F : FnOk X.prog X.w X.K X.mg X.base CX k f fd ps sp) (hr : Room (k + 1) X.A) (hg : Gl X x) (hm : X.mg x = some (.ref C)) (hb : Binds X.K fd ps ds) (hd : Vals dvs ds) (hx : Passes CX X E)
    (ha : PA X (e :: es) t) (hdb : (x == ("__debug__" : Str)) = false := by decide) (he : starEach (e :: es) X.env = (false, eval e X.env) :: starEach es X.env := by rfl) (hpl : (backTo pos (starEach es X.env)).any (·.1) = false := by rfl) :
    PE X (.Call (.Name x p) (e :: es) [] pos) (tMake C sp dvs E t) := by
  intro pins s σ H Q I h
  refine wpAny_Call_Name_kw (ld_glob I hg hm ?_ hdb)
  refine PySem.W.callWith_K (h₀ := X.base) I.ok.mod.kin M.kp (thn (ha pos pins s σ H _ I h) fun us s1 ⟨vs, H1, I1, r, q⟩ => ⟨I1.kIn, ?_⟩) he hpl
  exact run_make M F hr hb hd hx I1 r q
theorem pe_make0 (M : Mk X.K C f) (F : FnOk X.prog X.w X.K X.mg X.base CX k f fd ps sp) (hr : Room (k + 1) X.A) (hg : Gl X x) (hm : X.mg x = some (.ref C)) (hb : Binds X.K fd ps ds) (hd : Vals dvs ds) (hx : Passes CX X E)
    (hdb : (x == ("__debug__" : Str)) = false := by decide) : PE X (.Call (.Name x p) [] [] pos) (tMake C sp dvs E tNil) := by
  intro pins s σ H Q I h
  refine wpAny_Call_Name_kw (ld_glob I hg hm ?_ hdb)
  exact PySem.W.callWith_K0 I.kIn M.kp (run_make (us := []) M F hr hb hd hx I .nil h)
end

/-! ### keywords -/
section
variable {X : Cx} {CX : CXT} {k : Nat} {f C : Addr} {fd : FuncData} {ps ks : List Str} {sp : Sp} {E : XK} {x m : Str} {p pos apos kpos : Pos} {e o : Expr} {es : List Expr} {kws : List Keyword} {te ta : TE} {t tk : TA} {nm : Option Str}
/-- how a call with keywords binds: g puts the positional values us and the keywords' values ws (names ks) in the parameters' order, defaults among them -/
structure KBinds (K : PySem.W.Frag) (fd : FuncData) (ps ks : List Str) (g : List Value → List Value → List Value) (gV : List V → List V → List V) : Prop where
  to : ∀ (s : Shared) (us ws : List Value), K.In s.heap → (g us ws).length = ps.length → BindsTo s fd ⟨us, ks.zip ws⟩ (ps.zip (g us ws))
  rel : ∀ {vs : List V} {us : List Value} {zs : List V} {ws : List Value}, Vals vs us → Vals zs ws → Vals (gV vs zs) (g us ws)
variable {g : List Value → List Value → List Value} {gV : List V → List V → List V}
end

/-! ### a def's body keeps its promise -/
/-- names: the parameters first -/
structure FnScope (N P : List Str) (sc : Scope) : Prop where
  kind : sc.kind = .function
  co : sc.isCoroutine = false
  gen : sc.isGenerator = false
  nd : N.Nodup
  pre : N.take P.length = P
  par : ∀ x ∈ P, sc.names.lookup x = some .local ∨ sc.names.lookup x = some .cell
  nofree : ∀ y ∈ sc.names, y.2 ≠ .free

theorem bindL_out {kindOf : Str → Option NameKind} {x : Str} : ∀ {binds : List (Str × Value)} {m : Str → Option Value}, (∀ v, (x, v) ∉ binds) → bindL kindOf binds m x = m x
  | [], _, _ => rfl
  | (n, v) :: r, m, h => by
    unfold bindL
    rw [bindL_out fun w hw => h w (List.mem_cons_of_mem _ hw)]
    split
    · have : x ≠ n := by rintro rfl; exact h v List.mem_cons_self
      simp [this]
    · rfl
theorem bindC_out {kindOf : Str → Option NameKind} {x : Str} : ∀ {binds : List (Str × Value)} {m : Str → Option Value}, (∀ v, (x, v) ∉ binds) → bindC kindOf binds m x = m x
  | [], _, _ => rfl
  | (n, v) :: r, m, h => by
    unfold bindC
    rw [bindC_out fun w hw => h w (List.mem_cons_of_mem _ hw)]
    split
    · rfl
    · have : x ≠ n := by rintro rfl; exact h v List.mem_cons_self
      simp [this]
theorem bindL_get {kindOf : Str → Option NameKind} {x : Str} {v : Value} : ∀ {P : List Str} {vs : List Value} {i : Nat} {m : Str → Option Value}, P.Nodup → P[i]? = some x → vs[i]? = some v → kindOf x = some .local →
    bindL kindOf (P.zip vs) m x = some v
  | [], _, _, _, _, h, _, _ => by simp at h
  | _ :: _, [], _, _, _, _, h, _ => by simp at h
  | p :: P, w :: vs, 0, m, nd, h1, h2, hk => by
    simp at h1 h2; subst h1; subst h2
    show bindL kindOf ((p, w) :: P.zip vs) m p = _
    unfold bindL
    rw [bindL_out fun v hv => (List.nodup_cons.mp nd).1 (List.of_mem_zip hv).1, if_pos hk]
    simp
  | p :: P, w :: vs, i + 1, m, nd, h1, h2, hk => by
    show bindL kindOf ((p, w) :: P.zip vs) m x = _
    unfold bindL
    exact bindL_get (i := i) (List.nodup_cons.mp nd).2 (by simpa using h1) (by simpa using h2) hk
theorem bindC_get {kindOf : Str → Option NameKind} {x : Str} {v : Value} : ∀ {P : List Str} {vs : List Value} {i : Nat} {m : Str → Option Value}, P.Nodup → P[i]? = some x → vs[i]? = some v → kindOf x ≠ some .local →
    bindC kindOf (P.zip vs) m x = some v
  | [], _, _, _, _, h, _, _ => by simp at h
  | _ :: _, [], _, _, _, _, h, _ => by simp at h
  | p :: P, w :: vs, 0, m, nd, h1, h2, hk => by
    simp at h1 h2; subst h1; subst h2
    show bindC kindOf ((p, w) :: P.zip vs) m p = _
    unfold bindC
    rw [bindC_out fun v hv => (List.nodup_cons.mp nd).1 (List.of_mem_zip hv).1, if_neg hk]
    simp
  | p :: P, w :: vs, i + 1, m, nd, h1, h2, hk => by
    show bindC kindOf ((p, w) :: P.zip vs) m x = _
    unfold bindC
    exact bindC_get (i := i) (List.nodup_cons.mp nd).2 (by simpa using h1) (by simpa using h2) hk

/-- the names' values at the entry -/
def start (N : List Str) (vs : List V) : St := vs.map some ++ List.replicate (N.length - vs.length) none

/-- the context of a def's body, at its entry; an exception leaves the frame, then lies as CX says -/
def cxOf (CX : CXT) (P : Program) (w : World) (K : PySem.W.Frag) (mg : Str → Option Value) (base : Heap) (N : List Str) (qual : Str) (scope : Scope) (f : Addr) (cd : Value) (A : Around) (outer : List Env) (s : Shared) (H : Hp) (E : XK) : Cx where
  prog := P
  w := w
  K := K
  mg := mg
  base := base
  A := A.deeper (envOfC qual scope s.heap.objs.size f cd)
  N := N
  s₀ := s
  H₀ := H
  env := envOfC qual scope s.heap.objs.size f cd
  outer := outer
  stack := envOfC qual scope s.heap.objs.size f cd :: outer
  ex := []
  calm := true
  fn := fun _ => true
  pn := []
  xe := fun e s' => wpAny (model P w) (A.deeper (envOfC qual scope s.heap.objs.size f cd)) (leaving (envOfC qual scope s.heap.objs.size f cd) e) (fun _ s'' => CX outer H s E e s'') (fun e' s'' => CX outer H s E e' s'') s'

theorem cell_has {sc : Scope} {n : Nat} {x : Str} (h : sc.names.lookup x = some .cell) : ∃ c, (cellsFrom n sc.names []).lookup x = some c := by
  have q := PySem.W.cellsFrom_some sc.names n [] (.inl h)
  exact Option.isSome_iff_exists.mp q

theorem inv_start {CX : CXT} {P : Program} {w : World} {K : PySem.W.Frag} {mg : Str → Option Value} {base : Heap} {N ps : List Str} {qual : Str} {scope : Scope} {f : Addr} {cd : Value} {A : Around} {outer : List Env} {s s1 : Shared} {H : Hp} {E : XK} {us : List Value} {vs : List V}
    (S : FnScope N ps scope) (hd : A.handled = none) (e0 : Env0 P w K mg base A outer s H) (hl : vs.length = ps.length) (r : Vals vs us)
    (x : InCallC s s.heap.objs.size (bindL (envOfC qual scope s.heap.objs.size f cd).kindOf (ps.zip us) fun _ => none) (cellsFrom (s.heap.objs.size + 1) scope.names []) (bindC (envOfC qual scope s.heap.objs.size f cd).kindOf (ps.zip us) fun _ => none) s1) :
    Inv (cxOf CX P w K mg base N qual scope f cd A outer s H E) [] (start N vs) H s1 := by
  have hpl : ps.length ≤ N.length := by have := congrArg List.length S.pre; rw [List.length_take] at this; omega
  obtain ⟨h1, tk, rfl, hk⟩ := x.done
  have noA : ∀ b : Addr, b ∉ (cxOf CX P w K mg base N qual scope f cd A outer s H E).ex := fun b z => absurd (show b ∈ ([] : List Addr) from z) (by simp)
  refine ⟨⟨e0.mod, S.kind, rfl, rfl, Nat.le_refl _, fun y z c h1 h2 => ?_, fun y hy => ?_, fun y c _ h => ?_, fun _ => hd, Around.frames_deeper e0.frames, .inr ⟨rfl, rfl⟩, fun b z => absurd z (noA b), e0.bs, e0.bsz, fun b _ _ => noA b, fun b z => absurd z (noA b), e0.funs, e0.frf⟩,
    rfl, e0.bare, Un.kept hk, ⟨_, x.toInCall.ns, fun i y v h1 h2 h3 => ?_⟩, fun y c h => ⟨_, x.cell y c h⟩, e0.hok.fresh (Nat.le_refl _), fun y c h => ?_, fun p hp => absurd (show p ∈ ([] : List (Addr × Obj)) from hp) (by simp), e0.hok.kept hk, ?_⟩
  · exact name_of_addr x.apart (PySem.mem_of_lookup h1) (PySem.mem_of_lookup h2)
  · have hy : scope.names.lookup y = some .cell ∨ scope.names.lookup y = some .free := hy
    rcases hy with hy | hy
    · exact cell_has hy
    · exact absurd rfl (S.nofree _ (PySem.mem_of_lookup hy))
  · exact Nat.le_of_lt (x.above y c (PySem.mem_of_lookup h))
  · have hi : i < vs.length := by
      unfold start at h2
      by_cases hi : i < vs.length
      · exact hi
      · rw [List.getElem?_append_right (by simpa using hi)] at h2
        rw [List.getElem?_replicate] at h2
        split at h2 <;> cases h2
    have ha : vs[i]? = some v := by
      unfold start at h2
      rw [List.getElem?_append_left (by simpa using hi), List.getElem?_map] at h2
      cases e : vs[i]? with
      | none => rw [e] at h2; cases h2
      | some a => rw [e] at h2; cases h2; rfl
    obtain ⟨u, hu, rv⟩ := r.get ha
    have hp : ps[i]? = some y := by
      rw [← S.pre, List.getElem?_take_of_lt (by omega)]; exact h1
    have ndP : ps.Nodup := by rw [← S.pre]; exact S.nd.sublist (List.take_sublist _ _)
    refine ⟨u, rv, ?_⟩
    rcases S.par y (List.mem_of_getElem? hp) with k | k
    · exact .inl ⟨k, bindL_get ndP hp hu k⟩
    · obtain ⟨c, e⟩ := cell_has (n := s.heap.objs.size + 1) k
      refine .inr ⟨.inl k, c, e, ?_⟩
      have q := x.cell y c e
      rw [bindC_get ndP hp hu (by show scope.names.lookup y ≠ _; rw [k]; decide)] at q
      exact q
  · exact e0.hok.fresh (Nat.le_of_lt (x.above y c (PySem.mem_of_lookup h)))
  · unfold start
    show _ = N.length
    rw [List.length_append, List.length_map, List.length_replicate]
    omega

/-- THE RULE: a def (or a method) of the text, by its body. The body's reading t is chosen for each entry; it is run at the parameters' values -/
theorem fn_of {CX : CXT} {P : Program} {w : World} {K : PySem.W.Frag} {mg : Str → Option Value} {base : Heap} {k : Nat} {f : Addr} {name qual : Str} {params : Arguments} {body : List Stmt} {scope : Scope} {dV kV doc pm cdv ct oc : Value} {an od : Option Addr}
    {osl : Array (Option Value)} {N ps : List Str} {sp : Sp} (lk : K.lookup f = some ⟨oc, od, .func (PySem.W.fnOf name qual params body scope dV kV doc pm an cdv ct), osl⟩) (hcd : PySem.W.codeIn K cdv qual = true) (S : FnScope N ps scope)
    (len : ∀ vs H Q E, sp vs H Q E → vs.length = ps.length)
    (hbody : ∀ (A : Around) (outer : List Env) (s : Shared) (H : Hp) (vs : List V) (Q : VK) (E : XK), Room k (A.deeper (envOfC qual scope s.heap.objs.size f cdv)) → sp vs H Q E →
      ∃ t, PSs (cxOf CX P w K mg base N qual scope f cdv A outer s H E) body t ∧ t { nx := fun _ H' => Q .non H', rt := Q } (start N vs) H) :
    FnOk P w K mg base CX (k + 1) f (PySem.W.fnOf name qual params body scope dV kV doc pm an cdv ct) ps sp := by
  refine ⟨len, fun A outer s H args us vs Q E hr e0 hb r hsp => ?_⟩
  have hl := len _ _ _ _ hsp
  have KX : K.In s.heap := e0.mod.kin.keeps fun b o e => (e0.bs b o e).1
  have lim : s.heap.NoLimit := e0.mod.nolimit.keeps fun b o e => (e0.bs b o e).1
  have hkind : ∀ y ∈ ps.zip us, scope.names.lookup y.1 = some .local ∨ (scope.names.lookup y.1 = some .cell ∧ ((cellsFrom (s.heap.objs.size + 1) scope.names []).lookup y.1).isSome = true) := fun ⟨n, v⟩ hy => by
    rcases S.par n (List.of_mem_zip hy).1 with q | q
    · exact .inl q
    · exact .inr ⟨q, PySem.W.cellsFrom_some _ _ _ (.inl q)⟩
  refine codeAny_call_function hr.depth (KX _ _ lk) rfl S.co S.gen rfl (PySem.W.codeRec_of KX hcd) (hb _ _ _ _ ?_)
  refine wpAny_newFunctionEnv_cells S.kind hkind fun env he s1 x => ?_
  subst he
  refine ⟨lim.keeps x.toInCall.keep, codeAny_func ?_⟩
  obtain ⟨t, ht, hq⟩ := hbody A outer s H vs Q E (hr.deeper _) hsp
  have I : Inv (cxOf CX P w K mg base N qual scope f cdv A outer s H E) [] (start N vs) H s1 := inv_start S hr.hd e0 hl r x
  refine wpAny_mono (ht [] s1 (start N vs) H _ I hq) (fun fl s' hs => ?_) fun e s' hs => hs
  have fin : ∀ {σ' : St} {H' : Hp} {v : V} {u : Value}, Inv (cxOf CX P w K mg base N qual scope f cdv A outer s H E) [] σ' H' s' → RelV v u → Q v H' → CE outer P w H s Q u s' :=
    fun {σ' H' v u} J rv q => ⟨v, H', J.os, J.bare, J.base, J.hok, rv, q⟩
  cases fl with
  | ret u =>
    obtain ⟨v, σ', H', J, rv, q⟩ := hs
    exact fin J rv q
  | next =>
    obtain ⟨σ', H', J, q⟩ := hs
    exact fin (v := V.non) (u := Value.none) J rfl q
  | brk =>
    obtain ⟨_, _, _, q⟩ := hs
    exact False.elim q
  | cont =>
    obtain ⟨_, _, _, q⟩ := hs
    exact False.elim q
end L2

namespace L2
open PySem PySem.Spec PyProof.Rows
section
variable {X : Cx} {x : Str} {p pos : Pos} {e : Expr} {es : List Expr} {t : TA} {id T : String} {r : List V → Hp → VK → Prop}

def tCB (r : List V → Hp → VK → Prop) (t : TA) : TE := fun σ H Q => t σ H fun vs H1 => r vs H1 Q
/-- f(e, ..), f a built-in function -/
theorem pe_callB (hc : CallR X (.builtin id) r) (hg : Gl X x) (hm : X.mg x = none) (hv : bootBuiltins x = some (.builtin id)) (ha : PA X (e :: es) t) (hn : x ≠ "__name__" := by decide) (hdb : (x == ("__debug__" : Str)) = false := by decide)
    (he : starEach (e :: es) X.env = (false, eval e X.env) :: starEach es X.env := by rfl) (hpl : (backTo pos (starEach es X.env)).any (·.1) = false := by rfl) : PE X (.Call (.Name x p) (e :: es) [] pos) (tCB r t) := by
  intro pins s σ H Q I h
  refine wpAny_Call_Name_kw (ld_blt I hg hm hv ?_ hn hdb)
  exact PyProof.Rows.callWith_builtin1 (thn (ha pos pins s σ H _ I h) fun us s1 ⟨vs, H1, I1, r1, q1⟩ => hc pins s1 σ H1 vs us Q I1 r1 q1) he hpl
end
end L2

namespace HT
open PySem PyProof.Rows

/-- t < u of tuples of ints -/
def lexLt : List Int → List Int → Bool
  | [], [] => false
  | [], _ :: _ => true
  | _ :: _, [] => false
  | x :: xs, y :: ys => if x = y then lexLt xs ys else decide (x < y)
theorem lexLt_cons (x y : Int) (xs ys : List Int) : lexLt (x :: xs) (y :: ys) = if x = y then lexLt xs ys else decide (x < y) := rfl
theorem lexLt_nil_nil : lexLt [] [] = false := rfl
theorem lexLt_nil_cons (y : Int) (ys : List Int) : lexLt [] (y :: ys) = true := rfl
theorem lexLt_cons_nil (x : Int) (xs : List Int) : lexLt (x :: xs) [] = false := rfl

theorem eqAt_int (A : Around) (s : Shared) (a : Int) (t : Tok) (c : Int) (u : Tok) : ∃ e, SeqAt.EqAt A s (.int a t) (.int c u) e ∧ (e = true ↔ a = c) :=
  ⟨(a == c), SeqAt.EqAt.int_int a t c u, by simp⟩
theorem rcLt_int (A : Around) (s : Shared) (a : Int) (t : Tok) (c : Int) (u : Tok) (prog : Program) (w : World) (E : Value → Shared → Prop) (Q : Value → Shared → Prop) (h : Q (.bool (decide (a < c))) s) :
    wpAny (model prog w) A (richCompare .Lt (.int a t) (.int c u)) Q E s :=
  (PyProof.Rows.lt_int h : wpAny (model prog w) A (compareOp .Lt (.int a t) (.int c u)) Q E s)

section
open PySem.SeqAt
open PySem.AutoSeq1 (wpAny_loadPart')
open PySem.MeetsSeq PySem.MeetsSeq2 PySem.MeetsSeq3

theorem tuple_lt_ints (l b : Addr) (items items2 : Array Value) (n n2 : Nat) (dd dd2 : Option Addr) (sl sl2 : Array (Option Value)) (ns ms : List Int) (hi : IntsAre items.toList ns) (hj : IntsAre items2.toList ms) :
    Meets (Builtin.«tuple.__lt__» ⟨[.ref l, .ref b], []⟩)
      (fun _ R s => s.heap.get? l = some { cls := .type "tuple", dict := dd, data := .seq items n, slots := sl } ∧ s.heap.get? b = some { cls := .type "tuple", dict := dd2, data := .seq items2 n2, slots := sl2 } ∧
        R (.ok (.ret (.bool (lexLt ns ms)))) s) :=
  .of_wp fun prog w A R s h => by
    obtain ⟨hp, g, d, tk, os⟩ := s; obtain ⟨hl, hb, h⟩ := h
    have f2 := AutoSeq1.sub_tuple_tuple
    have z1 : items.size = ns.length := by rw [← hi.length]; simp
    have z2 : items2.size = ms.length := by rw [← hj.length]; simp
    wp_walk using wpAny_loadPart' hl, wpAny_loadPart' hb, wpAny_forIn_list _ (fun rest b s' => b.1 = none ∧ s' = ⟨hp, g, d, tk, os⟩ ∧ ∃ (vs ws : List Value) (ns' ms' : List Int), rest = vs.zip ws ∧
      IntsAre vs ns' ∧ IntsAre ws ms' ∧ ns'.length + items2.size = ms'.length + items.size ∧ R (.ok (.ret (.bool (lexLt ns' ms')))) ⟨hp, g, d, tk, os⟩) _
    case turn =>
      rintro ⟨y, x⟩ rest b s' ⟨hb', rfl, vs, ws, ns', ms', hz, hvi, hwi, hlen, hR⟩
      cases hvi with
      | nil => rw [List.zip_nil_left] at hz; cases hz
      | cons a t hvi' =>
        cases hwi with
        | nil => rw [List.zip_nil_right] at hz; cases hz
        | cons c u hwi' =>
          rw [List.zip_cons_cons] at hz
          injection hz with hyx hrest
          injection hyx with hy hx
          subst hy hx
          rw [lexLt_cons] at hR
          simp only [List.length_cons] at hlen
          obtain ⟨e, he, hiff⟩ := eqAt_int A.in1 ⟨hp, g, d, tk, os⟩ a t c u
          refine wpAny_bind (he prog w _ _ ?_)
          cases e with
          | true =>
            rw [if_pos (hiff.mp rfl)] at hR
            wp_walk
            exact ⟨rfl, rfl, _, _, _, _, hrest, hvi', hwi', by omega, hR⟩
          | false =>
            rw [if_neg (fun q => absurd (hiff.mpr q) Bool.false_ne_true)] at hR
            have hri := rcLt_int A.in1 ⟨hp, g, d, tk, os⟩ a t c u prog w
            wp_walk using hri
            exact ⟨_, rfl, by simpa using hR⟩
    case fin =>
      rintro ⟨b1, b2⟩ s' ⟨hb', rfl, vs, ws, ns', ms', hz, hvi, hwi, hlen, hR⟩
      simp only at hb'
      subst hb'
      have hv : lexLt ns' ms' = decide (items.size < items2.size) := by
        cases hvi with
        | nil =>
          cases hwi with
          | nil =>
            simp only [List.length_nil] at hlen
            rw [lexLt_nil_nil]
            exact (decide_eq_false (by omega)).symm
          | cons c u hw =>
            simp only [List.length_nil, List.length_cons] at hlen
            rw [lexLt_nil_cons]
            exact (decide_eq_true (by omega)).symm
        | cons a t hv =>
          cases hwi with
          | nil =>
            simp only [List.length_nil, List.length_cons] at hlen
            rw [lexLt_cons_nil]
            exact (decide_eq_false (by omega)).symm
          | cons c u hw =>
            rw [List.zip_cons_cons] at hz
            cases hz
      rw [hv] at hR
      wp_walk
      exact ⟨_, rfl, by simpa [Builtin.Tuple.tupleCompareSizes] using hR⟩
    case h =>
      exact ⟨rfl, rfl, items.toList, items2.toList, ns, ms, rfl, hi, hj, by omega, h⟩
end

section
variable {prog : Program} {w : World} {A : Around} {E : Value → Shared → Prop} {s : Shared}

theorem lt_tupInts {l b : Addr} {items items2 : Array Value} {ns ms : List Int} {Q : Value → Shared → Prop} (hl : IsTup s.heap l items) (hb : IsTup s.heap b items2) (hi : IntsAre items.toList ns) (hj : IntsAre items2.toList ms)
    (hu : A.units < cLine) (h : Q (.bool (lexLt ns ms)) s) : wpAny (model prog w) A (compareOp .Lt (.ref l) (.ref b)) Q E s := by
  obtain ⟨⟨cls, dd, data, sl⟩, ho, hc, n, hd⟩ := id hl
  obtain ⟨⟨cls2, dd2, data2, sl2⟩, ho2, hc2, n2, hd2⟩ := id hb
  simp only at hc hd hc2 hd2
  subst hc hd hc2 hd2
  exact richCompare_meets_room (op := .Lt) ⟨_, ho, rfl⟩ ⟨_, ho2, rfl⟩ PySem.F.slot_tuple_lt PySem.F.entry_tuple_lt (PySem.F.args_tuple_lt_2 _ _) (tuple_lt_ints l b items items2 n n2 dd dd2 sl sl2 ns ms hi hj)
    ⟨ho, ho2, show Value.bool (lexLt ns ms) ≠ Value.notImplemented ∧ Q (.bool (lexLt ns ms)) s from ⟨(fun x => nomatch x), h⟩⟩ hu

/-! ### t[a:b], not the whole -/
/-- a slice's bound as a place among n (d where it is left out) -/
def sIx (n d : Nat) : Option Int → Nat
  | none => d
  | some v => if v < 0 then (v + (n : Int)).toNat else min v.toNat n
end
end HT

namespace L2
open PySem PySem.Spec PyProof.Rows

/-! ### the parts of a slice -/
abbrev TO := St → Hp → (Option Int → Hp → Prop) → Prop
/-- a slice's part (left out, or an int) -/
def PO (X : Cx) (e : Option Expr) (t : TO) : Prop :=
  ∀ (pins : List (Addr × Obj)) (s : Shared) (σ : St) (H : Hp) (Q : Option Int → Hp → Prop), Inv X pins σ H s → t σ H Q →
    wpAny (model X.prog X.w) X.A (evalPart e X.env) (fun u s' => ∃ o H', Inv X pins σ H' s' ∧ IsPart u o ∧ Q o H') X.xe s
def tPart (t : TE) : TO := fun σ H Q => t σ H fun x H1 => ∃ i, x = .int i ∧ Q (some i) H1

theorem intsAre_of {ns : List Int} : ∀ {us : List Value}, Vals (ns.map V.int) us → IntsAre us ns := by
  induction ns with
  | nil => intro us r; rw [List.map_nil] at r; cases r; exact .nil
  | cons n ns ih =>
    intro us r
    rw [List.map_cons] at r
    cases r with
    | cons r1 r2 =>
      obtain ⟨t, e⟩ := r1
      subst e
      exact .cons n t (ih r2)

section
variable {X : Cx} {e : Expr} {te : TE} {lo hi : Option Expr} {tl th : TO} {pos p2 : Pos}

theorem po_some (h : PE X e te) : PO X (some e) (tPart te) := by
  intro pins s σ H Q I hw
  rw [evalPart_some]
  refine thn (h pins s σ H _ I hw) fun u s1 ⟨x, H1, I1, r1, q1⟩ => ?_
  obtain ⟨i, rfl, q⟩ := q1
  obtain ⟨t, rfl⟩ := r1
  exact ⟨some i, H1, I1, .int i t, q⟩

/-- what a slice of a value is, by values: the slice object stands at sl -/
def SlR (X : Cx) (r : V → Option Int → Option Int → Hp → VK → Prop) : Prop :=
  ∀ (pins : List (Addr × Obj)) (s : Shared) (σ : St) (H : Hp) (x : V) (v vl vu : Value) (lo hi : Option Int) (sl : Addr) (Q : VK), Inv X pins σ H s → RelV x v → s.heap.IsSliceOf sl vl vu .none → IsPart vl lo → IsPart vu hi → r x lo hi H Q →
    ∃ T id, typeLookup (.type T) "__getitem__" = pure (some (.builtin id)) ∧ s.TypeIs v T ∧ wpAny (model X.prog X.w) X.A (getItem v (.ref sl)) (EP X pins σ Q) X.xe s
theorem SlR.or {r r' : V → Option Int → Option Int → Hp → VK → Prop} (h : SlR X r) (h' : SlR X r') : SlR X (fun x lo hi H Q => r x lo hi H Q ∨ r' x lo hi H Q) := by
  intro pins s σ H x v vl vu lo hi sl Q I rx hs pl pu q
  rcases q with q | q
  · exact h pins s σ H x v vl vu lo hi sl Q I rx hs pl pu q
  · exact h' pins s σ H x v vl vu lo hi sl Q I rx hs pl pu q
def tSl (r : V → Option Int → Option Int → Hp → VK → Prop) (te : TE) (tl th : TO) : TE := fun σ H Q => te σ H fun x H1 => tl σ H1 fun l H2 => th σ H2 fun u H3 => r x l u H3 Q
/-- a[lo:hi], any a -/
theorem pe_slice {r : V → Option Int → Option Int → Hp → VK → Prop} (hr : SlR X r) (he : PE X e te) (hl : PO X lo tl) (hu : PO X hi th) : PE X (.Subscript e (.Slice lo hi none p2) pos) (tSl r te tl th) := by
  intro pins s σ H Q I h
  refine Subscript_ (thn (he pins s σ H _ I h) fun v s1 ⟨x, H1, I1, r1, q1⟩ => ?_)
  refine wpAny_Slice (thn (hl pins s1 σ H1 _ I1 q1) fun vl s2 ⟨l, H2, I2, pl, q2⟩ => thn (hu pins s2 σ H2 _ I2 q2) fun vu s3 ⟨u, H3, I3, pu, q3⟩ => ?_)
  rw [evalPart_none]
  refine wpAny_pure ?_
  have I4 : Inv X pins σ H3 { s3 with heap := s3.heap.push { cls := .type "slice", data := .fields #[vl, vu, .none] } } := I3.kept (t' := s3.toks) fun b ob q => Heap.get?_push_of_some _ q
  obtain ⟨T, id, hT, ht, hg⟩ := hr pins { s3 with heap := s3.heap.push { cls := .type "slice", data := .fields #[vl, vu, .none] } } σ H3 x v vl vu l u s3.heap.objs.size Q I4 r1 (Heap.IsSliceOf.new ..) pl pu q3
  show wpAny (model X.prog X.w) X.A (subscriptTail e (.Slice lo hi none p2) v (.ref s3.heap.objs.size)) (EP X pins σ Q) X.xe { s3 with heap := s3.heap.push { cls := .type "slice", data := .fields #[vl, vu, .none] } }
  exact tail_any (ops := [.ref s3.heap.objs.size, v]) ht hT hg (by with_unfolding_all rfl)

/-- the items of xs[lo:hi] -/
def cutV (xs : List V) (lo hi : Option Int) : List V := (xs.drop (HT.sIx xs.length 0 lo)).take (HT.sIx xs.length xs.length hi - HT.sIx xs.length 0 lo)
theorem cutV_length (xs : List V) (lo hi : Option Int) : (cutV xs lo hi).length ≤ xs.length := by
  unfold cutV
  rw [List.length_take, List.length_drop]
  omega
/-! ### t < u, t + u -/
def rLtT (K : PySem.W.Frag) : R2 := fun x y H Q => ∃ a b ns ms, x = .ref a ∧ y = .ref b ∧ SqT K H a (ns.map V.int) ∧ SqT K H b (ms.map V.int) ∧ Q (.bl (HT.lexLt ns ms)) H
theorem op_ltT (hu : X.A.units < cLine) : OpR X (compareOp .Lt) (rLtT X.K) := by
  intro pins s σ H x y v u Q I rx ry h
  obtain ⟨a, b, ns, ms, rfl, rfl, ha, hb, q⟩ := h
  cases rx
  cases ry
  obtain ⟨its, r1, p1, _⟩ := I.tuple ha
  obtain ⟨its2, r2, p2, _⟩ := I.tuple hb
  have i1 : IntsAre its.toArray.toList ns := intsAre_of r1
  have i2 : IntsAre its2.toArray.toList ms := intsAre_of r2
  exact HT.lt_tupInts p1 p2 i1 i2 hu ⟨.bl (HT.lexLt ns ms), H, I, rfl, q⟩
end
end L2

namespace L2
open PySem PySem.Spec PyProof.Rows

/-! ### places -/
/-- the place that an index of any sign means -/
def ixN (n : Nat) (i : Int) : Option Nat := if 0 ≤ i then (if i < n then some i.toNat else none) else if -(n : Int) ≤ i then some (i + n).toNat else none
def atI {α : Type} (xs : List α) (i : Int) : Option α := (ixN xs.length i).bind fun j => xs[j]?
theorem ixN_seq {n : Nat} {i : Int} {j : Nat} (h : ixN n i = some j) : seqIndex? i n = some j ∧ j < n ∧ -(n : Int) ≤ i ∧ i < n := by
  unfold ixN at h
  by_cases h0 : 0 ≤ i
  · rw [if_pos h0] at h
    by_cases h1 : i < n
    · rw [if_pos h1] at h
      have e : i.toNat = j := Option.some.inj h
      exact ⟨by rw [seqIndex_of h0 h1, e], by omega, by omega, h1⟩
    · rw [if_neg h1] at h; cases h
  · rw [if_neg h0] at h
    by_cases h1 : -(n : Int) ≤ i
    · rw [if_pos h1] at h
      have e : (i + n).toNat = j := Option.some.inj h
      exact ⟨by rw [seqIndex_neg (by omega) h1, e], by omega, h1, by omega⟩
    · rw [if_neg h1] at h; cases h
theorem atI_get {α : Type} {xs : List α} {i : Int} {v : α} (h : atI xs i = some v) : ∃ j, seqIndex? i xs.length = some j ∧ xs[j]? = some v ∧ j < xs.length ∧ -(xs.length : Int) ≤ i ∧ i < xs.length := by
  unfold atI at h
  cases e : ixN xs.length i with
  | none => rw [e] at h; cases h
  | some j =>
    rw [e] at h
    obtain ⟨h1, h2, h3, h4⟩ := ixN_seq e
    exact ⟨j, h1, h, h2, h3, h4⟩
theorem atI_nat {α : Type} {xs : List α} {j : Nat} {v : α} (h : xs[j]? = some v) : atI xs (j : Int) = some v := by
  have hj : j < xs.length := (List.getElem?_eq_some_iff.mp h).1
  have e : ixN xs.length (j : Int) = some j := by
    unfold ixN
    rw [if_pos (by omega), if_pos (by omega)]; simp
  unfold atI; rw [e]; exact h
/-! ### what may be subscripted -/
/-- what stands as an index of a plain subscript -/
def PlainIx (b : Expr) : Prop := ∀ o i, subscripted b false o i = operate [o, i] (getItem o i)
/-- a subscript by values -/
def IxR (X : Cx) (r : R2) : Prop :=
  ∀ (value slice : Expr) (pins : List (Addr × Obj)) (s : Shared) (σ : St) (H : Hp) (x y : V) (v u : Value) (Q : VK), Inv X pins σ H s → RelV x v → RelV y u → r x y H Q →
    subscripted slice false v u = operate [v, u] (getItem v u) → wpAny (model X.prog X.w) X.A (subscriptTail value slice v u) (EP X pins σ Q) X.xe s
/-- a call of a builtin's method by values: the receiver, the arguments -/
def MtR (X : Cx) (id : String) (r : V → List V → Hp → VK → Prop) : Prop :=
  ∀ (pins : List (Addr × Obj)) (s : Shared) (σ : St) (H : Hp) (x : V) (xs : List V) (v : Value) (us : List Value) (Q : VK), Inv X pins σ H s → RelV x v → Vals xs us → r x xs H Q →
    wpAny (model X.prog X.w) X.A (call (.builtin id) (v :: us)) (EP X pins σ Q) X.xe s
section
variable {X : Cx} {a b : Expr} {ta tb : TE} {pos : Pos}
theorem IxR.or {r r' : R2} (h : IxR X r) (h' : IxR X r') : IxR X (fun x y H Q => r x y H Q ∨ r' x y H Q) := by
  intro value slice pins s σ H x y v u Q I rx ry q hs
  rcases q with q | q
  · exact h value slice pins s σ H x y v u Q I rx ry q hs
  · exact h' value slice pins s σ H x y v u Q I rx ry q hs
theorem MtR.or {id : String} {r r' : V → List V → Hp → VK → Prop} (h : MtR X id r) (h' : MtR X id r') : MtR X id (fun x xs H Q => r x xs H Q ∨ r' x xs H Q) := by
  intro pins s σ H x xs v us Q I rx rs q
  rcases q with q | q
  · exact h pins s σ H x xs v us Q I rx rs q
  · exact h' pins s σ H x xs v us Q I rx rs q
/-- a[b] -/
theorem pe_ix {r : R2} (hr : IxR X r) (ha : PE X a ta) (hb : PE X b tb) (hs : PlainIx b) : PE X (.Subscript a b pos) (tOp r ta tb) := by
  intro pins s σ H Q I h
  exact Subscript_ (binT ha hb I h fun v u s2 x y H2 I2 rx ry q => hr a b pins s2 σ H2 x y v u Q I2 rx ry q (hs _ _))

def rIxL (K : PySem.W.Frag) : R2 := fun x y H Q => ∃ p xs i v, x = .ref p ∧ y = .int i ∧ SqL K H p xs ∧ atI xs i = some v ∧ Q v H
def rIxT (K : PySem.W.Frag) : R2 := fun x y H Q => ∃ p xs i v, x = .ref p ∧ y = .int i ∧ SqT K H p xs ∧ atI xs i = some v ∧ Q v H
theorem ix_list : IxR X (rIxL X.K) := by
  intro value slice pins s σ H x y v u Q I rx ry h hs
  obtain ⟨p, xs, i, z, rfl, rfl, hq, he, q⟩ := h
  cases rx
  obtain ⟨t, rfl⟩ := ry
  obtain ⟨its, r, pl, hz⟩ := I.list hq
  obtain ⟨j, h1, h2, h3, h4, h5⟩ := atI_get he
  obtain ⟨w, ew, rw'⟩ := r.get h2
  have hl := r.length
  have hn := line63
  have fin : EP X pins σ Q w s := ⟨z, H, I, rw', q⟩
  by_cases h0 : 0 ≤ i
  · have hj : i.toNat = j := by
      rw [seqIndex_of h0 h5] at h1
      exact Option.some.inj h1
    exact item_listR pl.isList h0 (by omega) (by rw [hj]; simpa using ew) fin hs
  · have hj : (i + (its.toArray.size : Int)).toNat = j := by
      rw [seqIndex_neg (by omega) h4] at h1
      rw [List.size_toArray, ← hl]
      exact Option.some.inj h1
    exact subscriptTail_builtinR (x := w) pl.isList.typeIs slot_list_getitem.lookup
      (wpAny_getItem_list_neg (Q := fun r s' => r = w ∧ EP X pins σ Q r s') pl.isList (by omega) (by rw [List.size_toArray] <;> omega) (by omega) (by rw [hj]; simpa using ew) ⟨rfl, fin⟩) hs
theorem ix_tup : IxR X (rIxT X.K) := by
  intro value slice pins s σ H x y v u Q I rx ry h hs
  obtain ⟨p, xs, i, z, rfl, rfl, hq, he, q⟩ := h
  cases rx
  obtain ⟨t, rfl⟩ := ry
  obtain ⟨its, r, pl, hz⟩ := I.tuple hq
  obtain ⟨j, h1, h2, h3, h4, h5⟩ := atI_get he
  obtain ⟨w, ew, rw'⟩ := r.get h2
  have hl := r.length
  have hn := line63
  have fin : EP X pins σ Q w s := ⟨z, H, I, rw', q⟩
  exact subscriptTail_builtinR (x := w) pl.typeIs slot_tuple_getitem.lookup
    (getItem_tuple (j := j) (Q := fun r s' => r = w ∧ EP X pins σ Q r s') pl (by omega) (by omega) (by rw [List.size_toArray, ← hl]; exact h1) (by simpa using ew) ⟨rfl, fin⟩) hs
/-! ### xs[i] = v, any sign -/
/-- the list's object behind a store -/
theorem mapSeq_set (its : List Value) (n j : Nat) (u : Value) : Obj.mapSeq (·.setIfInBounds j u) { cls := .type "list", data := .seq its.toArray n } = { cls := .type "list", data := .seq (its.set j u).toArray n } := by
  simp [Obj.mapSeq]
theorem Inv.lst {pins : List (Addr × Obj)} {σ : St} {H : Hp} {s : Shared} {p : Addr} {xs : List V} (I : Inv X pins σ H s) (h : H p = some (.lst xs)) :
    ∃ (its : List Value) (n : Nat), Vals xs its ∧ s.heap.get? p = some { cls := .type "list", data := .seq its.toArray n } ∧ xs.length ≤ sizeLine := by
  obtain ⟨z, its, n, r, e⟩ := I.hok p _ h
  exact ⟨its, n, r, e, z⟩
/-- the list at p is written by an update of its object -/
theorem Inv.lstUpd {pins : List (Addr × Obj)} {σ : St} {H : Hp} {s : Shared} {p : Addr} {xs ys : List V} {its its' : List Value} {n n' : Nat} {f : Obj → Obj} (I : Inv X pins σ H s) (h : H p = some (.lst xs))
    (ho : s.heap.get? p = some { cls := .type "list", data := .seq its.toArray n }) (hf : f { cls := .type "list", data := .seq its.toArray n } = { cls := .type "list", data := .seq its'.toArray n' }) (r : Vals ys its') (hz : ys.length ≤ sizeLine) (t : Nat) :
    Inv X pins σ (upd H p (.lst ys)) { s with heap := s.heap.update p f, toks := t } := by
  have e : (s.heap.update p f).get? p = some { cls := .type "list", data := .seq its'.toArray n' } := by
    rw [Heap.get?_update_self f ho (by rw [hf] <;> rfl), hf]
  refine I.write (x := p) (e := p) (by rw [h]; trivial) (.inl rfl) (fun b u hb q => (Heap.get?_update_other _ _ (Ne.symm hb)).trans q) ⟨_, e⟩ ?_
  exact ⟨hz, its', n', r, e⟩
def rSetL : V → V → V → Hp → (Hp → Prop) → Prop := fun o i v H Q => ∃ p xs k j, o = .ref p ∧ i = .int k ∧ H p = some (.lst xs) ∧ ixN xs.length k = some j ∧ Q (upd H p (.lst (xs.set j v)))
theorem set_list : PSet X rSetL := by
  intro pins s σ H o i v ov iv u Q I ro ri rv h
  obtain ⟨p, xs, k, j, rfl, rfl, hp, hj, q⟩ := h
  cases ro
  obtain ⟨t, rfl⟩ := ri
  obtain ⟨its, n, r, ho, hz⟩ := I.lst hp
  obtain ⟨h1, h2, h3, h4⟩ := ixN_seq hj
  have hl := r.length
  have hn := line63
  have I' : Inv X pins σ (upd H p (.lst (xs.set j v))) { s with heap := s.heap.update p (Obj.mapSeq (·.setIfInBounds j u)) } :=
    I.lstUpd hp ho (mapSeq_set its n j u) (r.set rv j) (by rw [List.length_set]; exact hz) s.toks
  by_cases h0 : 0 ≤ k
  · have hk : k.toNat = j := by
      rw [seqIndex_of h0 h4] at h1
      exact Option.some.inj h1
    exact PySem.W.ki_setAt ho h0 (by omega) (by rw [List.size_toArray, ← hl]; exact h4) (by rw [hk]; exact ⟨_, I', q⟩)
  · have hk : (k + (its.toArray.size : Int)).toNat = j := by
      rw [seqIndex_neg (by omega) h3] at h1
      rw [List.size_toArray, ← hl]
      exact Option.some.inj h1
    exact PySem.W.ki_setBack ho (by omega) (by rw [List.size_toArray, ← hl]; exact h3) (by omega) (by rw [hk]; exact ⟨_, I', q⟩)

/-! ### slices -/
theorem slice_bounds (lo hi : Option Int) (n : Nat) : (sliceBounds lo hi none n).1 = ((HT.sIx n 0 lo : Nat) : Int) ∧ (sliceBounds lo hi none n).2.1 = ((HT.sIx n n hi : Nat) : Int) ∧ (sliceBounds lo hi none n).2.2 = 1 := by
  refine ⟨?_, ?_, rfl⟩
  · cases lo with
    | none => simp [sliceBounds, HT.sIx]
    | some i =>
      simp only [sliceBounds, HT.sIx, Option.getD_none, show (1 : Int) > 0 by decide, if_true]
      by_cases h : i < 0
      · simp only [h, if_true] <;> omega
      · simp only [h, if_false] <;> omega
  · cases hi with
    | none => simp [sliceBounds, HT.sIx]
    | some i =>
      simp only [sliceBounds, HT.sIx, Option.getD_none, show (1 : Int) > 0 by decide, if_true]
      by_cases h : i < 0
      · simp only [h, if_true] <;> omega
      · simp only [h, if_false] <;> omega
theorem slicePick_cut (its : List Value) (lo hi : Option Int) : slicePick its.toArray lo hi none = ((its.drop (HT.sIx its.length 0 lo)).take (HT.sIx its.length its.length hi - HT.sIx its.length 0 lo)).toArray := by
  obtain ⟨h1, h2, h3⟩ := slice_bounds lo hi its.toArray.size
  unfold slicePick
  rw [h1, h2, h3]
  simp only [sliceRange_one, pick_run, List.size_toArray] <;> rfl
/-- xs[lo:hi] of a list: a new list -/
def rSlL (K : PySem.W.Frag) : V → Option Int → Option Int → Hp → VK → Prop := fun x lo hi H Q => ∃ a xs, x = .ref a ∧ SqL K H a xs ∧ ∀ p, H p = none → Q (.ref p) (upd H p (.lst (cutV xs lo hi)))
theorem sl_list : SlR X (rSlL X.K) := by
  intro pins s σ H x v vl vu lo hi sl Q I rx hs pl pu h
  obtain ⟨a, xs, rfl, hx, q⟩ := h
  cases rx
  obtain ⟨its, r, ht, hz⟩ := I.list hx
  have hlen := r.length
  refine ⟨"list", _, slot_list_getitem.lookup, ht.isList.typeIs, ?_⟩
  refine wpAny_getItem_list_slice ht.isList hs pl pu .none (by simp) ?_ (by rw [List.size_toArray] <;> omega)
  rw [slicePick_cut, ← hlen]
  refine ⟨.ref s.heap.objs.size, _, I.laid (t' := s.toks) (o := .lst (cutV xs lo hi)) (fun b ob q => Heap.get?_push_of_some _ q) (Nat.le_refl _) ?_, rfl, q _ (I.hok.fresh (Nat.le_refl _))⟩
  exact ⟨Nat.le_trans (cutV_length xs lo hi) hz, _, 0, (r.drop (HT.sIx xs.length 0 lo)).take (HT.sIx xs.length xs.length hi - HT.sIx xs.length 0 lo), Heap.get?_push_size _ rfl⟩

/-! ### in, not in: flat items -/
/-! ### len, list(x), tuple(x) of any list or tuple that is read -/
theorem call_len_seq : CallR X (.builtin "len") (fun xs H Q => ∃ p ys, xs = [.ref p] ∧ (SqL X.K H p ys ∨ SqT X.K H p ys) ∧ Q (.int ys.length) H) := by
  intro pins s σ H xs us Q I r h
  obtain ⟨p, ys, rfl, hq, q⟩ := h
  obtain ⟨u, rfl, rx⟩ := vals1 r
  cases rx
  have hn := line63
  rcases hq with hq | hq
  · obtain ⟨its, r', pl, hz⟩ := I.list hq
    have hlen := r'.length
    exact Calls.call_len_list pl.isList (by simp only [List.size_toArray] <;> omega) ⟨.int ys.length, H, I.tok _, ⟨s.toks + 1, by rw [List.size_toArray, hlen]⟩, q⟩
  · obtain ⟨its, r', pl, hz⟩ := I.tuple hq
    have hlen := r'.length
    exact len_tuple pl (by simp only [List.size_toArray] <;> omega) ⟨.int ys.length, H, I.tok _, ⟨s.toks + 1, by rw [List.size_toArray, hlen]⟩, q⟩
theorem CallR.or {f : Value} {r r' : List V → Hp → VK → Prop} (h : CallR X f r) (h' : CallR X f r') : CallR X f (fun xs H Q => r xs H Q ∨ r' xs H Q) := by
  intro pins s σ H xs us Q I rs q
  rcases q with q | q
  · exact h pins s σ H xs us Q I rs q
  · exact h' pins s σ H xs us Q I rs q
/-! ### the call of a builtin's method: o.m(..) -/
/-- the value is of that builtin type -/
def tyV (K : PySem.W.Frag) (T : String) (x : V) (H : Hp) : Prop := match x with
  | .str _ => T = "str"
  | .int _ => T = "int"
  | .ref p => (T = "list" ∧ ∃ xs, SqL K H p xs) ∨ (T = "tuple" ∧ ∃ o, K.lookup p = some o ∧ o.cls = .type "tuple" ∧ o.dict = none) ∨
      (T = "dict" ∧ ((∃ kvs, H p = some (.dK kvs)) ∨ ∃ kvs, H p = some (.dT kvs))) ∨ (T = "set" ∧ ∃ S n, H p = some (.set S n))
  | _ => False
theorem tyV_is {pins : List (Addr × Obj)} {σ : St} {H : Hp} {s : Shared} {T : String} {x : V} {v : Value} (I : Inv X pins σ H s) (r : RelV x v) (ty : tyV X.K T x H) :
    s.TypeIs v T ∧ ∀ a, v = .ref a → ∃ ob, s.heap.get? a = some ob ∧ ob.dict = none := by
  cases x with
  | str z =>
    obtain ⟨t, rfl⟩ := r
    cases (show T = "str" from ty)
    exact ⟨typeIs_str s z t, fun _ e => nomatch e⟩
  | int i =>
    obtain ⟨t, rfl⟩ := r
    cases (show T = "int" from ty)
    exact ⟨typeIs_int s i t, fun _ e => nomatch e⟩
  | ref p =>
    cases r
    rcases ty with ⟨rfl, xs, hq⟩ | ⟨rfl, o, hk, hc, hd⟩ | ⟨rfl, hk⟩ | ⟨rfl, S, n, hk⟩
    · obtain ⟨its, _, pl, _⟩ := I.list hq
      refine ⟨pl.isList.typeIs, fun a e => ?_⟩
      cases e
      obtain ⟨o, n, e, c, hd, _⟩ := pl
      exact ⟨o, e, hd⟩
    · refine ⟨⟨o, I.kIn p o hk, hc⟩, fun a e => ?_⟩
      cases e
      exact ⟨o, I.kIn _ o hk, hd⟩
    · have z : ∃ o, s.heap.get? p = some o ∧ o.ExactDict := by
        rcases hk with ⟨kvs, hk⟩ | ⟨kvs, hk⟩
        · obtain ⟨_, _, _, _, o, _, _, e, ex, _⟩ := I.hok p _ hk
          exact ⟨o, e, ex⟩
        · obtain ⟨_, _, _, _, o, _, _, e, ex, _⟩ := I.hok p _ hk
          exact ⟨o, e, ex⟩
      obtain ⟨o, e, ex⟩ := z
      refine ⟨⟨o, e, ex.1⟩, fun a e2 => ?_⟩
      cases e2
      exact ⟨o, e, ex.2.1⟩
    · obtain ⟨o, _, _, _, e, ex, _⟩ := I.hok p _ hk
      refine ⟨⟨o, e, ex.1⟩, fun a e2 => ?_⟩
      cases e2
      exact ⟨o, e, ex.2.1⟩
  | _ => exact False.elim ty
def tBM0 (K : PySem.W.Frag) (T : String) (r : V → List V → Hp → VK → Prop) (to : TE) : TE := fun σ H Q => to σ H fun x H1 => tyV K T x H1 ∧ r x [] H1 Q
def tBM (K : PySem.W.Frag) (T : String) (r : V → List V → Hp → VK → Prop) (to : TE) (t : TA) : TE := fun σ H Q => to σ H fun x H1 => tyV K T x H1 ∧ t σ H1 fun xs H2 => r x xs H2 Q
variable {o e : Expr} {es : List Expr} {to : TE} {t : TA} {name : Str} {apos cpos : Pos} {T id : String} {r : V → List V → Hp → VK → Prop}
theorem pe_bm0 (pa : PlainAttrs T) (slot : Slot T name id) (hty : typeOf (.builtin id) = pure (.type "method_descriptor")) (hm : MtR X id r) (ho : PE X o to)
    (hbase : attributeBase o name X.env (eval o X.env) = eval o X.env := by rfl) (hline : (apos.endLine == cpos.line) = true := by rfl) : PE X (.Call (.Attribute o name apos) [] [] cpos) (tBM0 X.K T r to) := by
  intro pins s σ H Q I h
  refine wpAny_Call_method0_late hbase hline (thn (ho pins s σ H _ I h) fun v s1 ⟨x, H1, I1, r1, ty, q1⟩ => ?_)
  obtain ⟨h1, h2⟩ := tyV_is I1 r1 ty
  exact ⟨T, id, pa, slot, hty, h1, h2, Calls.callWith_builtin rfl (PySem.evalArgs_none (hm pins s1 σ H1 x [] v [] Q I1 r1 .nil q1))⟩
theorem pe_bm (pa : PlainAttrs T) (slot : Slot T name id) (hty : typeOf (.builtin id) = pure (.type "method_descriptor")) (hm : MtR X id r) (ho : PE X o to) (ha : PA X (e :: es) t)
    (hbase : attributeBase o name X.env (eval o X.env) = eval o X.env := by rfl)
    (hfew : ((backTo cpos (starEach (e :: es) X.env)).all (fun x => !x.1) && (backToKw cpos (keywordEach [] X.env)).all (fun x => x.1.isSome)
      && decide ((e :: es).length + ([] : List Keyword).length + (if ([] : List Keyword).isEmpty then 0 else 1) < 30)) = true := by rfl)
    (hline : (apos.endLine == cpos.line) = true := by rfl) (hs : starEach (e :: es) X.env = (false, eval e X.env) :: starEach es X.env := by rfl) (hplain : (backTo cpos (starEach es X.env)).any (·.1) = false := by rfl) :
    PE X (.Call (.Attribute o name apos) (e :: es) [] cpos) (tBM X.K T r to t) := by
  intro pins s σ H Q I h
  refine wpAny_Call_method_late hbase hfew hline rfl (thn (ho pins s σ H _ I h) fun v s1 ⟨x, H1, I1, r1, ty, q1⟩ => ?_)
  obtain ⟨h1, h2⟩ := tyV_is I1 r1 ty
  refine ⟨T, id, pa, slot, hty, h1, h2, ?_⟩
  have hA := ha cpos pins s1 σ H1 _ I1 q1
  rw [hs] at hA ⊢
  refine Calls.callWith_builtin (by show (false || (backTo cpos (starEach es X.env)).any (·.1)) = false; rw [hplain] <;> rfl) (Calls.evalArgs_plain ?_)
  exact thn hA fun us s2 ⟨vs, H2, I2, r2, q2⟩ => hm pins s2 σ H2 x vs v us Q I2 r1 r2 q2
/- xs.append(e), list.index on a module's tuple .. are MtR facts of 06m -/
end
end L2

namespace L2
open PySem PySem.Spec PyProof.Rows

def MtM (X : Cx) (id : String) (r : V → List V → Hp → VK → Prop) : Prop :=
  ∀ (pins : List (Addr × Obj)) (s : Shared) (σ : St) (H : Hp) (x : V) (xs : List V) (v : Value) (us : List Value) (Q : VK), Inv X pins σ H s → RelV x v → Vals xs us → r x xs H Q →
    wpAny (model X.prog X.w) X.A (call (.builtin id) (v :: us)) (EP X pins σ Q) X.xe s

/-! ### lists of values -/
theorem Vals.one : ∀ {x : V} {us : List Value}, Vals [x] us → ∃ u, us = [u] ∧ RelV x u
  | _, _, .cons r .nil => ⟨_, rfl, r⟩
theorem Vals.two : ∀ {x y : V} {us : List Value}, Vals [x, y] us → ∃ u v, us = [u, v] ∧ RelV x u ∧ RelV y v
  | _, _, _, .cons r (.cons q .nil) => ⟨_, _, rfl, r, q⟩
theorem Vals.zero : ∀ {us : List Value}, Vals [] us → us = []
  | _, .nil => rfl
theorem Vals.dropLast {xs : List V} {us : List Value} (h : Vals xs us) : Vals xs.dropLast us.dropLast := by
  induction h with
  | nil => exact .nil
  | cons r t ih =>
    cases t with
    | nil => exact .nil
    | cons q t' => exact .cons r ih
theorem Vals.eraseIdx : ∀ {xs : List V} {us : List Value} (i : Nat), Vals xs us → Vals (xs.eraseIdx i) (us.eraseIdx i)
  | _, _, _, .nil => .nil
  | _, _, 0, .cons _ t => t
  | _, _, i + 1, .cons r t => .cons r (Vals.eraseIdx i t)
theorem Vals.reverse {xs : List V} {us : List Value} (h : Vals xs us) : Vals xs.reverse us.reverse := by
  induction h with
  | nil => exact .nil
  | cons r t ih => rw [List.reverse_cons, List.reverse_cons]; exact Vals.append ih (.cons r .nil)
theorem erase_last {α : Type} (l : List α) : l.eraseIdx (l.length - 1) = l.dropLast := by
  induction l with
  | nil => rfl
  | cons a r ih =>
    cases r with
    | nil => rfl
    | cons b r =>
      have e : (a :: b :: r).length - 1 = ((b :: r).length - 1) + 1 := by
        have h1 : (a :: b :: r).length = r.length + 2 := rfl
        have h2 : (b :: r).length = r.length + 1 := rfl
        omega
      rw [e, List.eraseIdx_cons_succ, ih]
      all_goals rfl
theorem len_erase {α : Type} : ∀ (l : List α) (i : Nat), (l.eraseIdx i).length ≤ l.length
  | [], _ => Nat.le_refl _
  | _ :: _, 0 => Nat.le_succ _
  | _ :: r, i + 1 => Nat.succ_le_succ (len_erase r i)
section
variable {X : Cx} {pins : List (Addr × Obj)} {σ : St} {H : Hp} {s : Shared} {l b : Addr} {xs ys zs : List V}

/-! ### the two steps: a tracked list is rewritten, a new list is laid -/
theorem Inv.lset {its its' : List Value} {n : Nat} {f : Array Value → Array Value} {t' : Nat} (I : Inv X pins σ H s) (hH : H l = some (.lst xs))
    (e : s.heap.get? l = some { cls := .type "list", data := .seq its.toArray n }) (hf : f its.toArray = its'.toArray) (hv : Vals ys its') (hz : ys.length ≤ sizeLine) :
    Inv X pins σ (upd H l (.lst ys)) { s with heap := s.heap.update l (Obj.mapSeq f), toks := t' } := by
  have q := PySem.IsL.update e f
  rw [hf] at q
  refine I.write (x := l) (e := l) (by rw [hH]; exact trivial) (.inl rfl) (fun b' u hb hu => (Heap.get?_update_other s.heap (Obj.mapSeq f) (Ne.symm hb)).trans hu) ⟨_, q⟩ ?_
  exact ⟨hz, its', _, hv, q⟩
theorem Inv.fresh (I : Inv X pins σ H s) : H s.heap.objs.size = none := I.hok.fresh (Nat.le_refl _)
theorem Inv.lstM (I : Inv X pins σ H s) (hH : H l = some (.lst xs)) : xs.length ≤ sizeLine ∧ ∃ (its : List Value) (n : Nat), Vals xs its ∧ xs.length = its.length ∧ s.heap.get? l = some { cls := .type "list", data := .seq its.toArray n } := by
  obtain ⟨z, its, n, r, e⟩ := I.hok l _ hH
  exact ⟨z, its, n, r, r.length, e⟩

end

section
variable {X : Cx}

/-! ### methods -/
def rAppend : V → List V → Hp → VK → Prop := fun x vs H Q => ∃ l xs y, x = .ref l ∧ vs = [y] ∧ H l = some (.lst xs) ∧ xs.length < sizeLine ∧ Q .non (upd H l (.lst (xs ++ [y])))
theorem mt_append : MtM X "list.append" rAppend := by
  intro pins s σ H x vs v us Q I rx rv h
  obtain ⟨l, xs, y, rfl, rfl, hH, hz, q⟩ := h
  cases rx
  obtain ⟨u, rfl, ru⟩ := rv.one
  obtain ⟨z, its, n, r, hl, e⟩ := I.lstM hH
  refine call_meets F.slot_list_append ⟨_, e, rfl⟩ F.entry_list_append (F.args_list_append_2 _ _) (PySem.list_append l its.toArray n u (by rw [List.size_toArray]; omega)) ⟨e, ?_⟩
  refine ⟨.non, _, I.lset (its' := its ++ [u]) hH e (by simp) (r.append (.cons ru .nil)) ?_, rfl, q⟩
  rw [List.length_append, List.length_singleton]
  omega

def rPop : V → List V → Hp → VK → Prop := fun x vs H Q => ∃ l xs y, x = .ref l ∧ vs = [] ∧ H l = some (.lst xs) ∧ xs[xs.length - 1]? = some y ∧ Q y (upd H l (.lst xs.dropLast))
theorem mt_pop : MtM X "list.pop" rPop := by
  intro pins s σ H x vs v us Q I rx rv h
  obtain ⟨l, xs, y, rfl, rfl, hH, hy, q⟩ := h
  cases rx
  have hus := rv.zero
  subst hus
  obtain ⟨z, its, n, r, hl, e⟩ := I.lstM hH
  obtain ⟨u, hu, ru⟩ := r.get hy
  have hy' : its.toArray[its.toArray.size - 1]? = some u := by
    show its.toArray[its.length - 1]? = some u
    rw [← Array.getElem?_toList, ← hl]
    exact hu
  refine call_meets F.slot_list_pop ⟨_, e, rfl⟩ F.entry_list_pop (F.args_list_pop_1 _) (MeetsSeq.list_pop_last l its.toArray n u hy' (by rw [List.size_toArray]; omega)) ⟨e, ?_⟩
  refine ⟨y, _, I.lset (its' := its.dropLast) hH e ?_ r.dropLast ?_, ru, q⟩
  · show its.toArray.eraseIdxIfInBounds (its.toArray.size - 1) = its.dropLast.toArray
    rw [List.size_toArray, List.eraseIdxIfInBounds_toArray, erase_last]
  · rw [List.length_dropLast]
    omega

def rPopAt : V → List V → Hp → VK → Prop := fun x vs H Q => ∃ l xs i k y, x = .ref l ∧ vs = [.int i] ∧ H l = some (.lst xs) ∧ -(2 ^ 63) ≤ i ∧ i < 2 ^ 63 ∧ seqIndex? i xs.length = some k ∧ xs[k]? = some y ∧ Q y (upd H l (.lst (xs.eraseIdx k)))
theorem mt_popAt : MtM X "list.pop" rPopAt := by
  intro pins s σ H x vs v us Q I rx rv h
  obtain ⟨l, xs, i, k, y, rfl, rfl, hH, h1, h2, hk, hy, q⟩ := h
  cases rx
  obtain ⟨u, rfl, ru⟩ := rv.one
  obtain ⟨t, rfl⟩ := ru
  obtain ⟨z, its, n, r, hl, e⟩ := I.lstM hH
  obtain ⟨w, hw, rw'⟩ := r.get hy
  refine call_meets F.slot_list_pop ⟨_, e, rfl⟩ F.entry_list_pop (F.args_list_pop_2 _ _)
    (MeetsSeq.list_pop_at l its.toArray n i t k w (fitsIndex_both h1 h2) (by rw [List.size_toArray, ← hl]; exact hk) (by rw [← Array.getElem?_toList]; exact hw) (by rw [List.size_toArray]; omega)) ⟨e, ?_⟩
  refine ⟨y, _, I.lset (its' := its.eraseIdx k) hH e ?_ (r.eraseIdx k) ?_, rw', q⟩
  · show its.toArray.eraseIdxIfInBounds k = (its.eraseIdx k).toArray
    rw [List.eraseIdxIfInBounds_toArray]
  · have := len_erase xs k
    omega

/-! ### list + list, list += list, list * int -/
/-! ### del xs[i] -/
end

/-! ### xs[a:b] = ys -/
section
variable {prog : Program} {w : World} {A : Around} {E : Value → Shared → Prop} {s : Shared}
end

section
variable {X : Cx}
end
end L2

namespace L2
open PySem PySem.Spec PyProof.Rows

/-! ### lists of pairs as tables -/
section
variable {κ : Type} [DecidableEq κ]
def valV (kvs : List (κ × V)) (k : κ) : Option V := (kvs.find? fun kv => decide (kv.1 = k)).map (·.2)
/-- in its place, or at the end -/
def putK (kvs : List (κ × V)) (k : κ) (v : V) : List (κ × V) :=
  if (kvs.any fun kv => decide (kv.1 = k)) = true then kvs.map (fun kv => if kv.1 = k then (kv.1, v) else kv) else kvs ++ [(k, v)]
def dropK (kvs : List (κ × V)) (k : κ) : List (κ × V) := kvs.filter fun kv => decide (kv.1 ≠ k)

theorem valV_pos {p : κ × V} {r : List (κ × V)} {k : κ} (e : p.1 = k) : valV (p :: r) k = some p.2 := by simp [valV, List.find?_cons, e]
theorem valV_neg {p : κ × V} {r : List (κ × V)} {k : κ} (e : ¬ p.1 = k) : valV (p :: r) k = valV r k := by simp [valV, List.find?_cons, e]
theorem valV_any (k : κ) : ∀ kvs : List (κ × V), (kvs.any fun kv => decide (kv.1 = k)) = (valV kvs k).isSome
  | [] => rfl
  | p :: r => by
    rw [List.any_cons]
    by_cases e : p.1 = k
    · simp only [valV_pos e, decide_eq_true e, Bool.true_or, Option.isSome_some]
    · rw [valV_neg e, decide_eq_false e, Bool.false_or]; exact valV_any k r
theorem valV_map (k j : κ) (y : V) : ∀ kvs : List (κ × V), valV (kvs.map fun kv => if kv.1 = k then (kv.1, y) else kv) j = (valV kvs j).map fun x => if j = k then y else x
  | [] => rfl
  | p :: r => by
    have ih := valV_map k j y r
    rw [List.map_cons]
    by_cases h : p.1 = k
    · rw [if_pos h]
      by_cases e : p.1 = j
      · rw [valV_pos (p := (p.1, y)) e, valV_pos e, Option.map_some, if_pos (e.symm.trans h)]
      · rw [valV_neg (p := (p.1, y)) e, valV_neg e, ih]
    · rw [if_neg h]
      by_cases e : p.1 = j
      · rw [valV_pos (p := p) e, valV_pos e, Option.map_some, if_neg (fun z => h (e.trans z))]
      · rw [valV_neg (p := p) e, valV_neg e, ih]
theorem valV_snoc (k j : κ) (y : V) : ∀ kvs : List (κ × V), valV kvs k = none → valV (kvs ++ [(k, y)]) j = if j = k then some y else valV kvs j
  | [], _ => by
    by_cases e : k = j
    · rw [if_pos e.symm]; exact valV_pos (p := (k, y)) e
    · rw [if_neg (fun z => e z.symm)]; exact valV_neg (p := (k, y)) e
  | p :: r, hn => by
    rw [List.cons_append]
    have hk : ¬ p.1 = k := fun z => by rw [valV_pos z] at hn; cases hn
    rw [valV_neg hk] at hn
    have ih := valV_snoc k j y r hn
    by_cases e : p.1 = j
    · rw [valV_pos e, valV_pos e, if_neg (fun z => hk (e.trans z))]
    · rw [valV_neg e, valV_neg e, ih]
theorem valV_put (kvs : List (κ × V)) (k j : κ) (y : V) : valV (putK kvs k y) j = if j = k then some y else valV kvs j := by
  unfold putK
  by_cases a : (kvs.any fun kv => decide (kv.1 = k)) = true
  · rw [if_pos a, valV_map]
    rw [valV_any] at a
    by_cases e : j = k
    · obtain ⟨x, hx⟩ := Option.isSome_iff_exists.mp a
      rw [if_pos e, e, hx, Option.map_some, if_pos rfl]
    · rw [if_neg e]
      cases valV kvs j with
      | none => rfl
      | some x => rw [Option.map_some, if_neg e]
  · rw [if_neg a]
    refine valV_snoc k j y kvs ?_
    rw [valV_any] at a
    cases q : valV kvs k with
    | none => rfl
    | some x => rw [q] at a; exact (a rfl).elim
theorem length_putK (kvs : List (κ × V)) (k : κ) (v : V) : (putK kvs k v).length ≤ kvs.length + 1 := by
  unfold putK
  split
  · rw [List.length_map]; omega
  · rw [List.length_append, List.length_cons, List.length_nil]; omega
theorem putK_new {kvs : List (κ × V)} {k : κ} (v : V) (h : valV kvs k = none) : putK kvs k v = kvs ++ [(k, v)] := by
  unfold putK
  rw [valV_any, h]
  exact if_neg (by decide)

theorem RelO.isSome_eq {o : Option V} {u : Option Value} (r : RelO o u) : o.isSome = u.isSome := by
  cases o with
  | none => cases u with
    | none => rfl
    | some _ => exact (show False from r).elim
  | some _ => cases u with
    | none => exact (show False from r).elim
    | some _ => rfl
theorem RelO.getD {o : Option V} {u : Option Value} {d : V} {d' : Value} (r : RelO o u) (rd : RelV d d') : RelV (o.getD d) (u.getD d') := by
  cases o with
  | none => cases u with
    | none => exact rd
    | some _ => exact (show False from r).elim
  | some _ => cases u with
    | none => exact (show False from r).elim
    | some _ => exact r

/-- raw tables of the same keys -/
theorem KV.val {kvs : List (κ × V)} {vs : List (κ × Value)} (r : KV kvs vs) (k : κ) : RelO (valV kvs k) (valueAt vs k) := by
  unfold KV at r
  induction r with
  | nil => exact True.intro
  | @cons p q ps qs h t ih =>
    obtain ⟨h1, h2⟩ := h
    by_cases e : p.1 = k
    · have e' : q.1 = k := h1.symm.trans e
      have b : valueAt (q :: qs) k = some q.2 := by simp [valueAt, List.find?_cons, e']
      rw [valV_pos e, b]; exact h2
    · have e' : ¬ q.1 = k := fun z => e (h1.trans z)
      have b : valueAt (q :: qs) k = valueAt qs k := by simp [valueAt, List.find?_cons, e']
      rw [valV_neg e, b]; exact ih
theorem KV.any {kvs : List (κ × V)} {vs : List (κ × Value)} (r : KV kvs vs) (k : κ) : (kvs.any fun kv => decide (kv.1 = k)) = vs.any fun kv => decide (kv.1 = k) := by
  unfold KV at r
  induction r with
  | nil => rfl
  | cons h t ih => rw [List.any_cons, List.any_cons, ih, h.1]
theorem KV.repl {kvs : List (κ × V)} {vs : List (κ × Value)} (r : KV kvs vs) (k : κ) {y : V} {u : Value} (ry : RelV y u) :
    KV (kvs.map fun kv => if kv.1 = k then (kv.1, y) else kv) (vs.map fun kv => if kv.1 = k then (kv.1, u) else kv) := by
  unfold KV at r ⊢
  induction r with
  | nil => exact .nil
  | @cons p q ps qs h t ih =>
    rw [List.map_cons, List.map_cons]
    refine .cons ?_ ih
    obtain ⟨h1, h2⟩ := h
    by_cases e : p.1 = k
    · rw [if_pos e, if_pos (h1.symm.trans e)]; exact ⟨h1, ry⟩
    · rw [if_neg e, if_neg (fun z => e (h1.trans z))]; exact ⟨h1, h2⟩
theorem KV.put {kvs : List (κ × V)} {vs : List (κ × Value)} (r : KV kvs vs) (k : κ) {y : V} {u : Value} (ry : RelV y u) : KV (putK kvs k y) (stored vs k u) := by
  unfold putK stored
  rw [r.any k]
  by_cases e : (vs.any fun kv => decide (kv.1 = k)) = true
  · rw [if_pos e, if_pos e]; exact r.repl k ry
  · rw [if_neg e, if_neg e]; exact Paired.snoc r ⟨rfl, ry⟩
theorem KV.drop {kvs : List (κ × V)} {vs : List (κ × Value)} (r : KV kvs vs) (k : κ) : KV (dropK kvs k) (without vs k) := by
  unfold KV at r ⊢
  unfold dropK without
  induction r with
  | nil => exact .nil
  | @cons p q ps qs h t ih =>
    obtain ⟨h1, h2⟩ := h
    rw [List.filter_cons, List.filter_cons]
    by_cases e : p.1 = k
    · have a : ¬ decide (p.1 ≠ k) = true := by simp [e]
      have b : ¬ decide (q.1 ≠ k) = true := by simp [h1.symm.trans e]
      rw [if_neg a, if_neg b]; exact ih
    · have e' : ¬ q.1 = k := fun z => e (h1.trans z)
      have a : decide (p.1 ≠ k) = true := by simp [e]
      have b : decide (q.1 ≠ k) = true := by simp [e']
      rw [if_pos a, if_pos b]; exact .cons ⟨h1, h2⟩ ih
theorem KV.keys {kvs : List (κ × V)} {vs : List (κ × Value)} (r : KV kvs vs) : kvs.map (·.1) = vs.map (·.1) := by
  unfold KV at r
  induction r with
  | nil => rfl
  | cons h t ih => rw [List.map_cons, List.map_cons, ih, h.1]
theorem KV.length {kvs : List (κ × V)} {vs : List (κ × Value)} (r : KV kvs vs) : kvs.length = vs.length := Paired.length r
theorem dropK_le (kvs : List (κ × V)) (k : κ) : (dropK kvs k).length ≤ kvs.length := List.length_filter_le _ _
end


/-! ### a tracked dict, its keys ints and texts or tuples of these -/
theorem kV_is {P : Program} {w : World} {k : Key} {u : Value} (r : RelV (kV k) u) : (mixKind P w).is k u = true := by
  cases k with
  | inl i => obtain ⟨t, e⟩ := (show ∃ t, u = Value.int i t from r); subst e; exact mixKind_int P w i t
  | inr x => obtain ⟨t, e⟩ := (show ∃ t, u = Value.str x t from r); subst e; exact mixKind_str P w x t
theorem items_are {P : Program} {w : World} : ∀ {ks : List Key} {us : List Value}, Vals (ks.map kV) us → ItemsAre (mixKind P w) ks us
  | [], _, r => by rw [List.map_nil] at r; cases r; exact .nil
  | k :: ks, _, r => by
    rw [List.map_cons] at r
    cases r with
    | cons h t => exact .cons (kV_is h) (items_are t)

/-- raw entries of a dict with tuple keys -/
abbrev KT (H : Hp) : List (List Key × V) → List (List Key × Addr × Value) → Prop := Paired fun p q => p.1 = q.1 ∧ H q.2.1 = some (.tup (p.1.map kV)) ∧ RelV p.2 q.2.2
theorem KT.val {H : Hp} {kvs : List (List Key × V)} {xs : List (List Key × Addr × Value)} (r : KT H kvs xs) (k : List Key) : RelO (valV kvs k) ((atKey xs k).map (·.2)) := by
  induction r with
  | nil => exact True.intro
  | @cons p q ps qs h t ih =>
    obtain ⟨h1, _, h2⟩ := h
    by_cases e : p.1 = k
    · have e' : q.1 = k := h1.symm.trans e
      have b : atKey (q :: qs) k = some q.2 := by simp [atKey, List.find?_cons, e']
      rw [valV_pos e, b]; exact h2
    · have e' : ¬ q.1 = k := fun z => e (h1.trans z)
      have b : atKey (q :: qs) k = atKey qs k := by simp [atKey, List.find?_cons, e']
      rw [valV_neg e, b]; exact ih
theorem KT.repl {H : Hp} {kvs : List (List Key × V)} {xs : List (List Key × Addr × Value)} (r : KT H kvs xs) (k : List Key) {y : V} {u : Value} (ry : RelV y u) :
    KT H (kvs.map fun kv => if kv.1 = k then (kv.1, y) else kv) (xs.map (putAt k u)) := by
  induction r with
  | nil => exact .nil
  | @cons p q ps qs h t ih =>
    rw [List.map_cons, List.map_cons]
    refine .cons ?_ ih
    obtain ⟨h1, h2, h3⟩ := h
    unfold putAt
    by_cases e : p.1 = k
    · rw [if_pos e, if_pos (h1.symm.trans e)]; exact ⟨h1, h2, ry⟩
    · rw [if_neg e, if_neg (fun z => e (h1.trans z))]; exact ⟨h1, h2, h3⟩
theorem KT.put {H : Hp} {kvs : List (List Key × V)} {xs : List (List Key × Addr × Value)} (r : KT H kvs xs) (k : List Key) {b : Addr} {y : V} {u : Value} (hb : H b = some (.tup (k.map kV))) (ry : RelV y u) :
    KT H (putK kvs k y) (storedH xs k b u) := by
  have e : (kvs.any fun kv => decide (kv.1 = k)) = (atKey xs k).isSome := by
    rw [valV_any, (r.val k).isSome_eq, Option.isSome_map]
  unfold putK storedH
  rw [e]
  by_cases q : (atKey xs k).isSome = true
  · rw [if_pos q, if_pos q]; exact r.repl k ry
  · rw [if_neg q, if_neg q]; exact Paired.snoc r ⟨rfl, hb, ry⟩
theorem KT.keeps {H H' : Hp} {kvs : List (List Key × V)} {xs : List (List Key × Addr × Value)} (r : KT H kvs xs) (ht : ∀ b ys, H b = some (.tup ys) → H' b = some (.tup ys)) : KT H' kvs xs :=
  Paired.mapP r fun _ _ z => ⟨z.1, ht _ _ z.2.1, z.2.2⟩

section
variable {P : Program} {w : World} {H : Hp} {h : Heap} {a : Addr}
theorem rd_of {u : HO} (ok : HOk P w H h) (e : Rd H a u) : ObjOk P w H h a u := e.ok ok
theorem dk_rd {kvs : List (Key × V)} (ok : HOk P w H h) (e : Rd H a (.dK kvs)) : kvs.length ≤ sizeLine ∧ (a == sysModules) = false ∧ ∃ vs, KV kvs vs ∧ h.DictOf (mixKind P w) a vs :=
  show ObjOk P w H h a (.dK kvs) from rd_of ok e
theorem dk_of {kvs : List (Key × V)} (ok : HOk P w H h) (e : H a = some (.dK kvs)) : kvs.length ≤ sizeLine ∧ (a == sysModules) = false ∧ ∃ vs, KV kvs vs ∧ h.DictOf (mixKind P w) a vs := dk_rd ok (.inl e)
/-- a tracked tuple of ints and texts is a key -/
theorem key_of {ks : List Key} (ok : HOk P w H h) (e : H a = some (.tup (ks.map kV))) : (tupleKind (mixKind P w)).is h ks a := by
  obtain ⟨_, its, r, o, h1, h2, n, h3⟩ := (show ObjOk P w H h a (.tup (ks.map kV)) from ok a _ e)
  exact ⟨o, its.toArray, n, h1, h2, h3, by simpa using items_are r⟩
theorem dt_rd {kvs : List (List Key × V)} (ok : HOk P w H h) (e : Rd H a (.dT kvs)) : kvs.length ≤ sizeLine ∧ (a == sysModules) = false ∧
    ∃ xs, KT H kvs xs ∧ h.DictOfH (tupleKind (mixKind P w)) a xs := by
  obtain ⟨z, y, xs, r, o, es, ep, h1, h2, h3, h4, h5⟩ := (show ObjOk P w H h a (.dT kvs) from rd_of ok e)
  refine ⟨z, y, xs, r, o, es, ep, h1, h2, h3, h4, fun x hx => ?_, h5⟩
  have all : ∀ {l : List (List Key × V)} {m : List (List Key × Addr × Value)}, KT H l m → ∀ x ∈ m, (tupleKind (mixKind P w)).is h x.1 x.2.1 := by
    intro l m q
    induction q with
    | nil => intro x hx; exact nomatch hx
    | @cons p q ps qs hq t ih =>
      intro x hx
      rcases List.mem_cons.mp hx with e | hx
      · subst e
        exact key_of ok (by rw [← hq.1]; exact hq.2.1)
      · exact ih x hx
  exact all r x hx
theorem dt_of {kvs : List (List Key × V)} (ok : HOk P w H h) (e : H a = some (.dT kvs)) : kvs.length ≤ sizeLine ∧ (a == sysModules) = false ∧
    ∃ xs, KT H kvs xs ∧ h.DictOfH (tupleKind (mixKind P w)) a xs := dt_rd ok (.inl e)
end

/-- what the dict at a holds at the key y -/
def DGet (H : Hp) (a : Addr) (y : V) (r : Option V) : Prop :=
  (∃ kvs k, Rd H a (.dK kvs) ∧ y = kV k ∧ r = valV kvs k) ∨ ∃ kvs k b, Rd H a (.dT kvs) ∧ y = .ref b ∧ H b = some (.tup (k.map kV)) ∧ r = valV kvs k
/-- the heap behind a[y] = v -/
def DPut (H : Hp) (a : Addr) (y v : V) (H' : Hp) : Prop :=
  (∃ kvs k, H a = some (.dK kvs) ∧ y = kV k ∧ kvs.length < sizeLine ∧ H' = upd H a (.dK (putK kvs k v))) ∨
  ∃ kvs k b, H a = some (.dT kvs) ∧ y = .ref b ∧ H b = some (.tup (k.map kV)) ∧ kvs.length < sizeLine ∧ H' = upd H a (.dT (putK kvs k v))
theorem DGet.k {H : Hp} {a : Addr} {kvs : List (Key × V)} {k : Key} (e : H a = some (.dK kvs)) : DGet H a (kV k) (valV kvs k) := .inl ⟨kvs, k, .inl e, rfl, rfl⟩
theorem DGet.t {H : Hp} {a b : Addr} {kvs : List (List Key × V)} {k : List Key} (e : H a = some (.dT kvs)) (eb : H b = some (.tup (k.map kV))) : DGet H a (.ref b) (valV kvs k) := .inr ⟨kvs, k, b, .inl e, rfl, eb, rfl⟩
theorem DPut.k {H : Hp} {a : Addr} {kvs : List (Key × V)} {k : Key} {v : V} (e : H a = some (.dK kvs)) (hl : kvs.length < sizeLine) : DPut H a (kV k) v (upd H a (.dK (putK kvs k v))) := .inl ⟨kvs, k, e, rfl, hl, rfl⟩
theorem DPut.t {H : Hp} {a b : Addr} {kvs : List (List Key × V)} {k : List Key} {v : V} (e : H a = some (.dT kvs)) (eb : H b = some (.tup (k.map kV))) (hl : kvs.length < sizeLine) :
    DPut H a (.ref b) v (upd H a (.dT (putK kvs k v))) := .inr ⟨kvs, k, b, e, rfl, eb, hl, rfl⟩


section
variable {X : Cx} {pins : List (Addr × Obj)} {σ : St} {H : Hp} {s : Shared} {a : Addr} {y v : V} {u r : Value} {o : Option V} {A : Around} {E : Value → Shared → Prop}

theorem Inv.big (I : Inv X pins σ H s) : sysModules < s.heap.objs.size := by
  have h : mainGlobals < s.heap.objs.size := (I.mod.glob.keeps I.bk).lt
  exact Nat.lt_trans (by decide) h

/-- d[y], there -/
theorem d_getItem {Q : Value → Shared → Prop} (hu : A.units + 1 < cLine) (I : Inv X pins σ H s) (g : DGet H a y (some v)) (ry : RelV y u) (h : ∀ w' s', Inv X pins σ H s' → RelV v w' → Q w' s') :
    wpAny (model X.prog X.w) A (getItem (.ref a) u) Q E s := by
  rcases g with ⟨kvs, k, e, ey, l⟩ | ⟨kvs, k, b, e, ey, eb, l⟩
  · subst ey
    obtain ⟨z, hd, vs, rel, dd⟩ := dk_rd I.hok e
    obtain ⟨w', hw, rw'⟩ := RelO.some_of (v := v) (o := valueAt vs k) (by rw [l]; exact rel.val k)
    exact wpAny_getItem_of (kV_is ry) dd.mapOf hw (h w' _ (I.tok _) rw')
  · subst ey
    cases (show u = Value.ref b from ry)
    obtain ⟨z, hd, xs, rel, dd⟩ := dt_rd I.hok e
    obtain ⟨w', hw, rw'⟩ := RelO.some_of (v := v) (o := (atKey xs k).map (·.2)) (by rw [l]; exact rel.val k)
    obtain ⟨p, hp, hp2⟩ := Option.map_eq_some_iff.mp hw
    refine wpAny_getItem_heap (tupleKind_room_in1 hu) (key_of I.hok eb) dd hp ?_
    rw [hp2]
    exact h w' _ (I.tok _) rw'
/-- y in d -/
theorem d_in {Q : Value → Shared → Prop} (hu : A.units + 1 < cLine) (I : Inv X pins σ H s) (g : DGet H a y o) (ry : RelV y u) (h : ∀ s', Inv X pins σ H s' → Q (.bool o.isSome) s') :
    wpAny (model X.prog X.w) A (compareOp .In u (.ref a)) Q E s := by
  rcases g with ⟨kvs, k, e, ey, l⟩ | ⟨kvs, k, b, e, ey, eb, l⟩
  · subst ey
    obtain ⟨z, hd, vs, rel, dd⟩ := dk_rd I.hok e
    refine wpAny_in_of (kV_is ry) hd dd.mapOf ?_
    rw [← (rel.val k).isSome_eq, ← l]
    exact h _ (I.tok _)
  · subst ey
    cases (show u = Value.ref b from ry)
    obtain ⟨z, hd, xs, rel, dd⟩ := dt_rd I.hok e
    refine wpAny_in_heap (tupleKind_room_in1 hu) (key_of I.hok eb) hd dd ?_
    have q := (rel.val k).isSome_eq
    rw [Option.isSome_map] at q
    rw [← q, ← l]
    exact h _ (I.tok _)
theorem d_notIn {Q : Value → Shared → Prop} (hu : A.units + 1 < cLine) (I : Inv X pins σ H s) (g : DGet H a y o) (ry : RelV y u) (h : ∀ s', Inv X pins σ H s' → Q (.bool (!o.isSome)) s') :
    wpAny (model X.prog X.w) A (compareOp .NotIn u (.ref a)) Q E s := by
  rcases g with ⟨kvs, k, e, ey, l⟩ | ⟨kvs, k, b, e, ey, eb, l⟩
  · subst ey
    obtain ⟨z, hd, vs, rel, dd⟩ := dk_rd I.hok e
    refine wpAny_notIn_of (kV_is ry) hd dd.mapOf ?_
    rw [← (rel.val k).isSome_eq, ← l]
    exact h _ (I.tok _)
  · subst ey
    cases (show u = Value.ref b from ry)
    obtain ⟨z, hd, xs, rel, dd⟩ := dt_rd I.hok e
    refine wpAny_notIn_heap (tupleKind_room_in1 hu) (key_of I.hok eb) hd dd ?_
    have q := (rel.val k).isSome_eq
    rw [Option.isSome_map] at q
    rw [← q, ← l]
    exact h _ (I.tok _)
/-- a dict's object is replaced -/
theorem d_write {h' : Heap} {t' : Nat} {ob : HO} (I : Inv X pins σ H s) (mu : Mut (H a)) (hs : Heap.SameBut a s.heap h') (he : ∃ q, h'.get? a = some q) (new : ObjOk X.prog X.w (upd H a ob) h' a ob) :
    Inv X pins σ (upd H a ob) { s with heap := h', toks := t' } :=
  I.write (x := a) (e := a) mu (.inl rfl) (fun b q hb z => (hs.2 b hb).trans z) he new
theorem dk_new {P : Program} {w : World} {H' : Hp} {h' : Heap} {kvs : List (Key × V)} {vs : List (Key × Value)} (z : kvs.length ≤ sizeLine) (hd : (a == sysModules) = false) (rel : KV kvs vs) (dd : h'.DictOf (mixKind P w) a vs) :
    ObjOk P w H' h' a (.dK kvs) := ⟨z, hd, vs, rel, dd⟩
/-- d[y] = v -/
theorem d_setItem {H' : Hp} {Q : Unit → Shared → Prop} (hu : A.units + 1 < cLine) (I : Inv X pins σ H s) (g : DPut H a y v H') (ry : RelV y u) (rv : RelV v r) (h : ∀ s', Inv X pins σ H' s' → Q () s') :
    wpAny (model X.prog X.w) A (setItem (.ref a) u r) Q E s := by
  rcases g with ⟨kvs, k, e, ey, l, eH⟩ | ⟨kvs, k, b, e, ey, eb, l, eH⟩
  · subst ey eH
    obtain ⟨z, hd, vs, rel, dd⟩ := dk_of I.hok e
    have hz : vs.length ≤ sizeLine := by rw [← rel.length]; exact z
    have hl : (putK kvs k v).length ≤ sizeLine := by have := length_putK kvs k v; omega
    refine wpAny_setItem_pairs (hsz := hz) (kV_is ry) dd fun h' dd' hs => h _ ?_
    have he : ∃ q, h'.get? a = some q := let ⟨q, _, _, hq, _⟩ := dd'; ⟨q, hq⟩
    exact d_write I (by rw [e]; exact True.intro) hs he (dk_new hl hd (rel.put k rv) dd')
  · subst ey eH
    cases (show u = Value.ref b from ry)
    obtain ⟨z, hd, xs, rel, dd⟩ := dt_of I.hok e
    have hz : xs.length ≤ sizeLine := by rw [← Paired.length rel]; exact z
    have hl : (putK kvs k v).length ≤ sizeLine := by have := length_putK kvs k v; omega
    refine wpAny_setItem_heap (hsz := hz) (tupleKind_room_in1 hu) (key_of I.hok eb) dd fun h' dd' hs => h _ ?_
    obtain ⟨q, es, ep, hq, h2, h3, h4, _, h5⟩ := dd'
    refine d_write I (by rw [e]; exact True.intro) hs ⟨q, hq⟩ ⟨hl, hd, _, (rel.put k eb rv).keeps fun c ys ec => ?_, q, es, ep, hq, h2, h3, h4, h5⟩
    rw [upd_ne (ne_of ec e (fun z => nomatch z))]
    exact ec
end

section
variable {X : Cx} {pins : List (Addr × Obj)} {σ : St} {H : Hp} {s : Shared} {a : Addr} {kvs : List (Key × V)} {k : Key} {u : Value} {A : Around} {E : Value → Shared → Prop}
/-- del d[k] -/
theorem d_delItem {Q : Unit → Shared → Prop} (I : Inv X pins σ H s) (e : H a = some (.dK kvs)) (ry : RelV (kV k) u) (l : (valV kvs k).isSome = true) (h : ∀ s', Inv X pins σ (upd H a (.dK (dropK kvs k))) s' → Q () s') :
    wpAny (model X.prog X.w) A (delItem (.ref a) u) Q E s := by
  obtain ⟨z, hd, vs, rel, dd⟩ := dk_of I.hok e
  refine wpAny_delItem_slot dd.typeIs (by decide) PySem.F.slot_dict_delitem
    (call_meetsIn PySem.F.slot_dict_delitem dd.typeIs PySem.F.entry_dict_delitem (PySem.F.args_dict_delitem_2 _ _) (meets_dict_delitem_pairs (mixKind X.prog X.w) a (kV_is ry)) ⟨vs, dd, by rw [← rel.length]; exact z, by rw [← (rel.val k).isSome_eq]; exact l, fun h' dd' hs => h _ ?_⟩)
  have he : ∃ q, h'.get? a = some q := let ⟨q, _, _, hq, _⟩ := dd'; ⟨q, hq⟩
  exact d_write I (by rw [e]; exact True.intro) hs he (dk_new (Nat.le_trans (dropK_le kvs k) z) hd (rel.drop k) dd')
/-- d.pop(k[, x]), there -/
theorem d_pop {v : V} {more : List Value} {Q : Value → Shared → Prop} (I : Inv X pins σ H s) (e : H a = some (.dK kvs)) (ry : RelV (kV k) u) (l : valV kvs k = some v) (hm : more = [] ∨ ∃ x, more = [x])
    (h : ∀ w' s', Inv X pins σ (upd H a (.dK (dropK kvs k))) s' → RelV v w' → Q w' s') : wpAny (model X.prog X.w) A (call (.builtin "dict.pop") (.ref a :: u :: more)) Q E s := by
  obtain ⟨z, hd, vs, rel, dd⟩ := dk_of I.hok e
  obtain ⟨w', hw, rw'⟩ := RelO.some_of (v := v) (o := valueAt vs k) (by rw [← l]; exact rel.val k)
  have hp : (keyPart u).isSome = true := by
    cases k with
    | inl i => obtain ⟨t, q⟩ := (show ∃ t, u = Value.int i t from ry); subst q; rfl
    | inr x => obtain ⟨t, q⟩ := (show ∃ t, u = Value.str x t from ry); subst q; rfl
  have ha : argsOk "dict.pop" ⟨.ref a :: u :: more, []⟩ := by
    rcases hm with q | ⟨x, q⟩
    · subst q; exact PySem.F.args_dict_pop_2 _ _
    · subst q; exact PySem.F.args_dict_pop_3 _ _ _
  refine call_meetsIn PySem.F.slot_dict_pop dd.typeIs PySem.F.entry_dict_pop ha (meets_dict_pop_there (mixKind X.prog X.w) a (kV_is ry) more hm hp)
    ⟨vs, w', dd, by rw [← rel.length]; exact z, hw, fun h' dd' hs => h w' _ ?_ rw'⟩
  have he : ∃ q, h'.get? a = some q := let ⟨q, _, _, hq, _⟩ := dd'; ⟨q, hq⟩
  exact d_write I (by rw [e]; exact True.intro) hs he (dk_new (Nat.le_trans (dropK_le kvs k) z) hd (rel.drop k) dd')
/-- len(d) -/
theorem d_len {Q : Value → Shared → Prop} (I : Inv X pins σ H s) (e : Rd H a (.dK kvs)) (h : ∀ t s', Inv X pins σ H s' → Q (.int kvs.length t) s') : wpAny (model X.prog X.w) A (call (.builtin "len") [.ref a]) Q E s := by
  obtain ⟨z, hd, vs, rel, dd⟩ := dk_rd I.hok e
  refine call_len_dict hd dd (by rw [← rel.length]; rw [sizeLine_eq] at z; omega) ?_
  rw [← rel.length]
  exact h _ _ (I.tok _)
end


/-! ### readings and rules -/
/-- the element of a subscription, not a slice -/
def NoSl (i : Expr) : Prop := ∀ ov iv, subscripted i false ov iv = operate [ov, iv] (getItem ov iv)
theorem subD_of {prog : Program} {w : World} {A : Around} {E : Value → Shared → Prop} {s : Shared} {env : Env} {value slice : Expr} {pos : Pos} {T id : String} {Q : Value → Shared → Prop}
    (hl : typeLookup (.type T) "__getitem__" = pure (some (.builtin id))) (hs : NoSl slice)
    (h : wpAny (model prog w) A (eval value env) (fun o s₁ => wpAny (model prog w) A (eval slice env) (fun i s₂ => s₂.TypeIs o T ∧ wpAny (model prog w) A (getItem o i) Q E s₂) E s₁) E s) :
    wpAny (model prog w) A (eval (.Subscript value slice pos) env) Q E s := by
  refine Subscript_ (wpAny_mono h (fun o s₁ h₁ => wpAny_mono h₁ (fun i s₂ h₂ => ?_) fun _ _ x => x) fun _ _ x => x)
  obtain ⟨hT, h₂⟩ := h₂
  unfold subscriptTail
  refine wpAny_bind ?_
  rw [getitemInPython_of_ne hT.not_modules]
  refine wpAny_bind (wpAny_specialOf hT hl ?_)
  have fin : wpAny (model prog w) A (subscripted slice false o i) (fun r s₃ => wpAny (model prog w) A (letTemporaryGo value o r >>= fun _ => pure r) Q E s₃) E s₂ := by
    rw [hs o i]
    exact wpAny_operating (wpAny_mono h₂ (fun r s₃ h₃ => wpAny_bind (wpAny_letTemporaryGo (wpAny_pure h₃))) fun _ _ x => x)
  first
    | exact wpAny_pure (wpAny_bind fin)
    | exact wpAny_bind (wpAny_pure (wpAny_bind fin))
    | exact wpAny_bind fin

theorem dict_typeIs {X : Cx} {pins : List (Addr × Obj)} {σ : St} {H : Hp} {s : Shared} {a : Addr} {y : V} {o : Option V} (I : Inv X pins σ H s) (g : DGet H a y o) : s.TypeIs (.ref a) "dict" := by
  rcases g with ⟨kvs, k, e, _, _⟩ | ⟨kvs, k, b, e, _, _, _⟩
  · obtain ⟨_, _, vs, _, dd⟩ := dk_rd I.hok e
    exact dd.typeIs
  · obtain ⟨_, _, xs, _, dd⟩ := dt_rd I.hok e
    exact dd.typeIs
/-- d[y] -/
def tDGet (td ty : TE) : TE := fun σ H Q => td σ H fun x H1 => ty σ H1 fun y H2 => ∃ a v, x = .ref a ∧ DGet H2 a y (some v) ∧ Q v H2
/-- y in d, y not in d -/
def tDIn (ty td : TE) : TE := fun σ H Q => ty σ H fun y H1 => td σ H1 fun x H2 => ∃ a o, x = .ref a ∧ DGet H2 a y o ∧ Q (.bl o.isSome) H2
def tDNotIn (ty td : TE) : TE := fun σ H Q => ty σ H fun y H1 => td σ H1 fun x H2 => ∃ a o, x = .ref a ∧ DGet H2 a y o ∧ Q (.bl (!o.isSome)) H2
/-- d[y] = v -/
def sDPut (td ty tv : TE) : TS := fun D σ H => tv σ H fun v H1 => td σ H1 fun x H2 => ty σ H2 fun y H3 => ∃ a H4, x = .ref a ∧ DPut H3 a y v H4 ∧ D.nx σ H4
section
variable {X : Cx} {o i e value : Expr} {pos pos' tpos : Pos} {td ty tv : TE}
theorem pe_dget (hu : X.A.units + 1 < cLine) (ho : PE X o td) (hi : PE X i ty) (hs : NoSl i) : PE X (.Subscript o i pos) (tDGet td ty) := by
  intro pins s σ H Q I h
  refine subD_of PySem.F.slot_dict_getitem.lookup hs (thn (ho pins s σ H _ I h) fun u s1 ⟨x, H1, I1, rx, q1⟩ => thn (hi pins s1 σ H1 _ I1 q1) fun iv s2 ⟨y, H2, I2, ry, a, v, ex, g, q2⟩ => ?_)
  subst ex
  obtain rfl : u = Value.ref a := rx
  exact ⟨dict_typeIs I2 g, d_getItem hu I2 g ry fun w' s3 I3 rw' => ⟨v, H2, I3, rw', q2⟩⟩
theorem pc_din (hu : X.A.units + 1 < cLine) (hi : PE X i ty) (ho : PE X o td) : PC X .In i o (tDIn ty td) := by
  intro pins s σ H Q I h
  refine thn (hi pins s σ H _ I h) fun iv s1 ⟨y, H1, I1, ry, q1⟩ => thn (ho pins s1 σ H1 _ I1 q1) fun u s2 ⟨x, H2, I2, rx, a, ov, ex, g, q2⟩ => ?_
  subst ex
  obtain rfl : u = Value.ref a := rx
  exact d_in hu I2 g ry fun s3 I3 => ⟨.bl ov.isSome, H2, I3, rfl, q2⟩
theorem pc_dnotin (hu : X.A.units + 1 < cLine) (hi : PE X i ty) (ho : PE X o td) : PC X .NotIn i o (tDNotIn ty td) := by
  intro pins s σ H Q I h
  refine thn (hi pins s σ H _ I h) fun iv s1 ⟨y, H1, I1, ry, q1⟩ => thn (ho pins s1 σ H1 _ I1 q1) fun u s2 ⟨x, H2, I2, rx, a, ov, ex, g, q2⟩ => ?_
  subst ex
  obtain rfl : u = Value.ref a := rx
  exact d_notIn hu I2 g ry fun s3 I3 => ⟨.bl (!ov.isSome), H2, I3, rfl, q2⟩
theorem ps_dput (hu : X.A.units + 1 < cLine) (ho : PE X o td) (hi : PE X i ty) (hv : PE X value tv) (hs : swapsWith value (some (.Subscript o i pos')) pos.line X.env = pure false) :
    PS X (.Assign [.Subscript o i pos'] value pos) (sDPut td ty tv) := by
  intro pins s σ H D I h
  refine wpAny_Assign_Subscript (thn (hv pins s σ H _ I h) fun r s1 ⟨v, H1, I1, rv, q1⟩ => thn (ho pins s1 σ H1 _ I1 q1) fun u s2 ⟨x, H2, I2, rx, q2⟩ => thn (hi pins s2 σ H2 _ I2 q2) fun iv s3 ⟨y, H3, I3, ry, a, H4, ex, g, q3⟩ => ?_) hs
  subst ex
  obtain rfl : u = Value.ref a := rx
  exact d_setItem hu I3 g ry rv fun s4 I4 => ⟨σ, H4, I4, q3⟩
end


/-! ### displays -/
theorem dk_empty {P : Program} {w : World} {H : Hp} (h : Heap) (hb : sysModules < h.objs.size) : ObjOk P w H (h.push { cls := .type "dict", data := .dict #[] }) h.objs.size (.dK []) :=
  ⟨Nat.zero_le _, beq_eq_false_iff_ne.mpr (Ne.symm (Nat.ne_of_lt hb)), [], .nil, Heap.DictOf.new h⟩
/-- {}, to be a dict of the kind that is wanted -/
def tDNewK : TE := fun _ H Q => ∀ p, H p = none → Q (.ref p) (upd H p (.dK []))
section
variable {X : Cx} {pos : Pos}
theorem pe_dnewK : PE X (.Dict [] [] pos) tDNewK := fun pins s σ H Q I h =>
  wpAny_Dict_empty ⟨.ref s.heap.objs.size, _, I.laid (a := s.heap.objs.size) (o := .dK []) (t' := s.toks) (fun _ _ q => Heap.get?_push_of_some _ q) (Nat.le_refl _) (dk_empty s.heap I.big), rfl, h _ (I.hok.fresh (Nat.le_refl _))⟩
end

def mergeK (kvs more : List (Key × V)) : List (Key × V) := more.foldl (fun acc kv => putK acc kv.1 kv.2) kvs
theorem KV.merge : ∀ {more : List (Key × V)} {rs : List (Key × Value)} {kvs : List (Key × V)} {vs : List (Key × Value)}, KV more rs → KV kvs vs → KV (mergeK kvs more) (merged vs rs) := by
  intro more rs kvs vs r
  unfold KV at r
  induction r generalizing kvs vs with
  | nil => intro q; exact q
  | @cons p q ps qs h t ih =>
    intro r0
    have e : KV (putK kvs p.1 p.2) (stored vs q.1 q.2) := by
      have := r0.put p.1 h.2
      rw [← h.1]; exact this
    exact ih e
/-! ### methods -/
/-- a method call o.m(e) of a built-in, with one argument: what must be seen of the text -/
structure M1 (X : Cx) (o : Expr) (m : Str) (apos : Pos) (e : Expr) (cpos : Pos) : Prop where
  base : attributeBase o m X.env (eval o X.env) = eval o X.env
  few : ((backTo cpos (starEach [e] X.env)).all (fun x => !x.1) && (backToKw cpos (keywordEach [] X.env)).all (fun x => x.1.isSome)
    && decide (([e] : List Expr).length + ([] : List Keyword).length + (if ([] : List Keyword).isEmpty then 0 else 1) < 30)) = true
  line : (apos.endLine == cpos.line) = true
  trees : backTo cpos (starEach [e] X.env) = [(false, eval e X.env)]
structure M2 (X : Cx) (o : Expr) (m : Str) (apos : Pos) (e f : Expr) (cpos : Pos) : Prop where
  base : attributeBase o m X.env (eval o X.env) = eval o X.env
  few : ((backTo cpos (starEach [e, f] X.env)).all (fun x => !x.1) && (backToKw cpos (keywordEach [] X.env)).all (fun x => x.1.isSome)
    && decide (([e, f] : List Expr).length + ([] : List Keyword).length + (if ([] : List Keyword).isEmpty then 0 else 1) < 30)) = true
  line : (apos.endLine == cpos.line) = true
  trees : backTo cpos (starEach [e, f] X.env) = [(false, eval e X.env), (false, eval f X.env)]

/-- a is a dict, whatever its keys -/
def IsD (H : Hp) (a : Addr) : Prop := (∃ kvs, Rd H a (.dK kvs)) ∨ ∃ kvs, Rd H a (.dT kvs)
theorem isD_at {X : Cx} {pins : List (Addr × Obj)} {σ : St} {H : Hp} {s : Shared} {a : Addr} (I : Inv X pins σ H s) (d : IsD H a) :
    s.TypeIs (.ref a) "dict" ∧ (∀ b, Value.ref a = .ref b → ∃ ob, s.heap.get? b = some ob ∧ ob.dict = none) ∧ (a == sysModules) = false := by
  rcases d with ⟨kvs, e⟩ | ⟨kvs, e⟩
  · obtain ⟨_, hd, vs, _, dd⟩ := dk_rd I.hok e
    refine ⟨dd.typeIs, fun b q => ?_, hd⟩
    cases q
    obtain ⟨ob, _, _, h1, h2, _⟩ := dd
    exact ⟨ob, h1, h2.2.1⟩
  · obtain ⟨_, hd, xs, _, dd⟩ := dt_rd I.hok e
    refine ⟨dd.typeIs, fun b q => ?_, hd⟩
    cases q
    obtain ⟨ob, _, _, h1, h2, _⟩ := dd
    exact ⟨ob, h1, h2.2.1⟩

section
variable {X : Cx} {pins : List (Addr × Obj)} {σ : St} {H : Hp} {s : Shared} {a : Addr} {y d : V} {u r : Value} {o : Option V} {A : Around} {E : Value → Shared → Prop}
end

/-- d.pop(k): there; d.pop(k, x): there or not -/
def tDPop1 (td ty : TE) : TE := fun σ H Q => td σ H fun x H1 => ∃ a, x = .ref a ∧ IsD H1 a ∧ ty σ H1 fun y H2 => ∃ kvs k v, H2 a = some (.dK kvs) ∧ y = kV k ∧ valV kvs k = some v ∧ Q v (upd H2 a (.dK (dropK kvs k)))
section
variable {X : Cx} {o e f : Expr} {apos cpos : Pos} {td ty tx : TE}
theorem pe_dpop1 (ho : PE X o td) (he : PE X e ty) (m : M1 X o "pop" apos e cpos) : PE X (.Call (.Attribute o "pop" apos) [e] [] cpos) (tDPop1 td ty) := by
  intro pins s σ H Q I h
  refine wpAny_Call_method m.base m.few m.line PySem.F.plainAttrs_dict PySem.F.slot_dict_pop PySem.F.type_dict_pop (thn (ho pins s σ H _ I h) fun u s1 ⟨x, H1, I1, rx, a, ex, d, q1⟩ => ?_)
  subst ex
  obtain rfl : u = Value.ref a := rx
  obtain ⟨t1, t2, _⟩ := isD_at I1 d
  refine ⟨t1, t2, ?_⟩
  rw [m.trees]
  refine Calls.callWith_builtin rfl (Calls.evalArgs_plain (Calls.spliced_cons (thn (he pins s1 σ H1 _ I1 q1) fun iv s2 ⟨y, H2, I2, ry, kvs, k, v, ea, ey, l, q2⟩ => Calls.spliced_nil ?_)))
  subst ey
  exact d_pop I2 ea ry l (.inl rfl) fun w' s3 I3 rw' => ⟨v, _, I3, rw', q2⟩
end

/-! ### dict(d): a copy -/
section
variable {X : Cx} {pins : List (Addr × Obj)} {σ : St} {H : Hp} {s : Shared} {a : Addr} {kvs : List (Key × V)} {A : Around} {E : Value → Shared → Prop}
end


section
variable {X : Cx} {pins : List (Addr × Obj)} {σ : St} {H : Hp} {s : Shared} {a : Addr} {y : V} {u : Value} {A : Around} {E : Value → Shared → Prop}
end
end L2

namespace Att
open PySem PySem.W PySem.Calls PyProof.Rows

/-! ### the script -/
theorem ints_of_wellAll {P : Params} {h : Heap} : ∀ (ns : List Int) (vs : List Value), WellAll P h vs (ns.map WData.int) → IntsAre vs ns := by
  intro ns
  induction ns with
  | nil =>
    intro vs w
    rw [List.map_nil] at w
    cases w
    exact .nil
  | cons n ns ih =>
    intro vs w
    rw [List.map_cons] at w
    cases w with
    | cons a b =>
      cases a
      exact .cons _ _ (ih _ b)

theorem script_of {l : OpenLaw} {n : Nat} (hn : l.most = some n) {P : Params} {h : Heap} {args : List WData} {vals : List Value}
    (hpre : l.row.toRowW.claim.pre args = true) (hwl : WellAll P h vals args) :
    ∃ a vs ns, vals = [Value.ref a] ∧ args = [WData.list (ns.map WData.int)] ∧ h.get? a = some { cls := .type "list", data := .seq vs.toArray } ∧ IntsAre vs ns ∧ ns.length ≤ n := by
  have hsh : WShape.hasAll [] args [.list .int] = true := (pre_splitW hpre).1
  have hc : l.pre.holds [] { args := args } = true := (pre_splitW hpre).2
  obtain ⟨d, r, rfl, h1, h2⟩ := hasAllW_cons hsh
  obtain rfl := hasAllW_nil h2
  obtain ⟨xs, rfl, h3⟩ := hasW_list h1
  obtain ⟨ns, rfl⟩ := items_int h3
  have hlen : ns.length ≤ n := by
    unfold OpenLaw.pre at hc
    have h4 : (WTm.not (.lt (.lit (.int (n : Int))) (.len (.arg 0)))).holds [] { args := [.list (ns.map .int)] } = true := by
      have h4 := (holds_andW hc).1
      rw [hn] at h4
      exact h4
    have h5 := condW_of h4 (w_not (w_lt w_lit (w_len_list (w_arg rfl))))
    rw [List.length_map] at h5
    refine Nat.le_of_not_lt fun q => ?_
    have q' : (n : Int) < ((ns.length : Nat) : Int) := by omega
    first
      | (rw [decide_eq_true q'] at h5; exact absurd h5 (by decide))
      | (simp at h5; omega)
  cases hwl with
  | cons w1 w2 =>
    cases w2
    cases w1 with
    | list ho hall => exact ⟨_, _, ns, rfl, rfl, ho, ints_of_wellAll ns _ hall, hlen⟩

theorem post_true (l : OpenLaw) (args : List WData) : l.row.toRowW.claim.post args (.bool true) args = true :=
  postW_of (r := l.row.toRowW) (X := (true == true))
    (show WShape.has [] (.bool true) .bool = true by first | rfl | decide | simp [WShape.has, WShape.arms, WShape.armsAll])
    (show (WTm.eq .res (.lit (.bool true))).value [] { args := args, res := some (.bool true), after := args } = some (.bool (true == true)) from w_eq_bool (w_res rfl) w_lit) rfl

/-! ### the attachment: holds_open's last premise (the goal 'hc' behind k_head) from a wpAny of the law's body -/
/-- the same from a codeAny of the CALL (for a layer whose function contracts speak of calls) -/
theorem attach_call {l : OpenLaw} {n : Nat} {q : Program} {loose : List Str} {XP : (Str → Option Value) → Heap → Prop} {YP : World → Heap → Prop} {d : DefRec}
    (hn : l.most = some n) (hdf : d.params.defaults = [])
    (call : ∀ (w : World) (s₀ s₁ : Shared) (mg mb : Str → Option Value) (fa : Addr) (o : Obj) (pm cd doc : Value) (a : Addr) (vs : List Value) (ns : List Int),
      Ground q loose [] XP w s₀ mg mb s₁.heap → YP w s₁.heap →
      s₁.heap.get? fa = some o → o.data = .func (docDef d.name d.params d.body d.scope pm cd doc) → s₁.heap.CodeRec cd d.name → mg d.name = some (.ref fa) →
      s₁.heap.get? a = some { cls := .type "list", data := .seq vs.toArray } → IntsAre vs ns → ns.length ≤ n → s₁.gens = #[] →
      codeAny (model l.prog w) callerA (.call (.ref fa) ⟨[.ref a], []⟩) (fun r s' => r = .ok (.ret (.bool true)) ∧ OldK s₁.heap s'.heap ∧ s'.os = s₁.os ∧ AllBare s'.gens) s₁) :
    WalkO q loose XP YP l.row.toRowW d [] (fun f vs => PySem.call f vs) := by
  intro w s₀ s₁ mg mb G Y fa o pm cd doc dV kV ho hd hcd hD hmg hg args vals as hpre hlay hrd hwl hlo
  obtain rfl : dV = .none := Dflts.none hD hdf
  obtain rfl : kV = .none := Dflts.noKw hD
  obtain ⟨a, vs, ns, rfl, rfl, hobj, hints, hlen⟩ := script_of hn hpre hwl
  refine enter_call (codeAny_mono (call w s₀ s₁ mg mb fa o pm cd doc a vs ns G Y ho (fd_plain hd) hcd hmg hobj hints hlen hg) fun r s' hq => ?_)
  obtain ⟨rfl, h2, h3, h4⟩ := hq
  exact ⟨.inl ⟨.bool true, .bool true, [], rfl, fun _ => rfl, .bool true, post_true l _, fun _ => ⟨List.Pairwise.nil, fun _ hm => (nomatch hm)⟩⟩, h2, h3, h4⟩

/-! ### rules over ANY heap (no ledger) from facts about the written part K: the library's own take a ledger (News) for what they write -/
section
variable {prog : Program} {w : World} {A : Around} {E : Value → Shared → Prop} {s : Shared} {K : Frag}

/-! the whole heap as the ledger: makes every rule that writes through a ledger a rule over any heap -/
def ledger (h : Heap) (L d : Addr) : List (Addr × Obj) := (List.range h.objs.size).filterMap fun a => if a = L ∨ a = d then none else (h.get? a).map fun o => (a, o)
end
end Att

namespace L2
open PySem PySem.Spec PyProof.Rows

theorem vals_ints : ∀ {vs : List Value} {ns : List Int}, IntsAre vs ns → Vals (ns.map V.int) vs
  | _, _, .nil => .nil
  | _, _, .cons n t h => .cons ⟨t, rfl⟩ (vals_ints h)

/-- nothing is tracked but the script, known to the object (or it is an object of the module) -/
def Only (H : Hp) : Prop := ∀ b, H b = none ∨ ∃ o xs, H b = some (.frz o (.lst xs))

/-- THE HEAD: the law's promise, at the heap behind the top. F, the promise of the law's def, may use that base is part of the heap (so K.In base, base.Ns mainGlobals mg stand in Mod) -/
theorem law_call {P : Program} {w : World} {K : PySem.W.Frag} {mg mb : Str → Option Value} {CX : CXT} {k : Nat} {fa a : Addr} {fd : FuncData} {x : Str} {sp : Sp} {s₁ : Shared} {vs : List Value} {ns : List Int}
    (KX : K.In s₁.heap) (hns : s₁.heap.Ns mainGlobals mg) (hb : s₁.heap.Ns builtinsNs mb) (hbb : ∀ x : Str, x ≠ "__name__" → mb x = bootBuiltins x) (hlim : s₁.heap.NoLimit) (hg : s₁.gens = #[])
    (ha : s₁.heap.get? a = some { cls := .type "list", data := .seq vs.toArray }) (hi : IntsAre vs ns) (hl : ns.length ≤ sizeLine) (hr : Room k callerA)
    (F : ∀ base : Heap, K.In base → base.Ns mainGlobals mg → FnOk P w K mg base CX k fa fd [x] sp) (hbind : ∀ (s : Shared) (u : Value), BindsTo s fd ⟨[u], []⟩ [(x, u)])
    (hsp : ∀ H : Hp, Only H → SqL K H a (ns.map V.int) → sp [.ref a] H (fun v _ => v = .bl true) fun _ _ _ => False)
    (hCX : ∀ H e s', CX [] H s₁ (fun _ _ _ => False) e s' → False) :
    codeAny (model P w) callerA (.call (.ref fa) ⟨[.ref a], []⟩) (fun r s' => r = .ok (.ret (.bool true)) ∧ OldK s₁.heap s'.heap ∧ s'.os = s₁.os ∧ AllBare s'.gens) s₁ := by
  have rv := vals_ints hi
  have lenV := hi.length
  -- from an abstract heap in which nothing but the script may be tracked
  have core : ∀ H : Hp, Only H → SqL K H a (ns.map V.int) → HOk P w H s₁.heap → (∀ b, H b ≠ none → b = a) → (H a ≠ none → K.lookup a = none) →
      codeAny (model P w) callerA (.call (.ref fa) ⟨[.ref a], []⟩) (fun r s' => r = .ok (.ret (.bool true)) ∧ OldK s₁.heap s'.heap ∧ s'.os = s₁.os ∧ AllBare s'.gens) s₁ := by
    intro H hO hS hok hA hK
    have base_of : ∀ {b : Addr} {o : Obj}, s₁.heap.get? b = some o → H b = none → (hidT s₁.heap H).get? b = some o := fun e n => hidT_get e n
    have noA : ∀ {b : Addr} {o : Obj} {es : Array DictEntry} {ep : Nat}, s₁.heap.get? b = some o → o.data = .dict es ep → H b = none := fun {b o es ep} e d => by
      cases q : H b with
      | none => rfl
      | some u =>
        have e' : b = a := hA b (by rw [q]; simp)
        subst e'
        rw [ha] at e; cases e
        have d' : Data.seq vs.toArray _ = Data.dict es ep := d
        cases d'
    have nsK : ∀ {b : Addr} {m : Str → Option Value}, s₁.heap.Ns b m → (hidT s₁.heap H).Ns b m := fun {b m} ⟨o, es, ep, e, d, r⟩ => ⟨o, es, ep, base_of e (noA e d), d, r⟩
    have hKb : K.In (hidT s₁.heap H) := fun b o e => base_of (KX b o e) (by
      cases q : H b with
      | none => rfl
      | some u =>
        have e' : b = a := hA b (by rw [q]; simp)
        subst e'
        rw [hK (by rw [q]; simp)] at e; cases e)
    have hM : Mod K mg (hidT s₁.heap H) := ⟨hKb, nsK hns, ⟨mb, nsK hb, hbb⟩, let ⟨mc, h1, h2⟩ := hlim; ⟨mc, nsK h1, h2⟩⟩
    have e0 : Env0 P w K mg (hidT s₁.heap H) callerA [] s₁ H := ⟨rfl, hM, fun b o e => of_hidT e, Nat.le_of_eq (hidT_size _ _), trivial, fun b hb => absurd (show b ∈ ([] : List Addr) from hb) (by simp), hok, .of_eq hg⟩
    refine codeAny_mono ((F _ hKb (nsK hns)).run callerA [] s₁ H ⟨[.ref a], []⟩ [.ref a] [.ref a] _ _ hr e0 (hbind s₁ (.ref a)) (.cons rfl .nil) (hsp H hO hS)) fun r s' h => ?_
    cases r with
    | error e => exact (hCX H e s' h).elim
    | ok fl =>
      cases fl with
      | next => exact False.elim h
      | brk => exact False.elim h
      | cont => exact False.elim h
      | ret u =>
        obtain ⟨v, H', os, bare, un, hok', r', q⟩ := h
        have q' : v = .bl true := q
        subst q'
        obtain rfl : u = Value.bool true := r'
        refine ⟨rfl, OldK.of_keep fun b o e => ?_, os, bare⟩
        cases q : H b with
        | none => exact un.keep b o e q (by intro z; exact absurd (show b ∈ ([] : List Addr) from z) (by simp)) (by simp)
        | some u =>
          rcases hO b with z | ⟨ob, xs, z⟩
          · rw [q] at z; cases z
          · have z2 := un.frzs b ob _ z
            obtain ⟨e1, _⟩ := hok b _ z
            obtain ⟨e2, _⟩ := hok' b _ z2
            rw [e] at e1; cases e1
            exact e2
  cases hk : K.lookup a with
  | some o =>
    -- the script is one of the module's own objects
    have e := KX a o hk
    rw [ha] at e
    cases e
    refine core (fun _ => none) (fun _ => .inl rfl) (.inr ⟨_, vs.toArray, _, hk, rfl, rfl, rfl, by rw [List.size_toArray, lenV]; exact hl, by simpa using rv⟩) (fun b u z => by have z' : (none : Option HO) = some u := z; cases z') (fun b z => absurd rfl z) fun z => absurd rfl z
  | none =>
    refine core (fun b => if b = a then some (.frz { cls := .type "list", data := .seq vs.toArray } (.lst (ns.map V.int))) else none) (fun b => ?_) (.inl (.inr ⟨{ cls := .type "list", data := .seq vs.toArray }, if_pos rfl⟩)) (fun b u z => ?_) (fun b z => ?_) fun _ => hk
    · by_cases hb : b = a
      · exact .inr ⟨_, _, if_pos hb⟩
      · exact .inl (if_neg hb)
    · by_cases hb : b = a
      · have z' := (if_pos hb).symm.trans z
        cases z'
        subst hb
        exact ⟨ha, by rw [List.length_map]; exact hl, vs, _, rv, ha⟩
      · have z' := (if_neg hb).symm.trans z
        cases z'
    · by_cases hb : b = a
      · exact hb
      · exact absurd (if_neg hb) z
end L2

namespace L2
open PySem PySem.Spec PyProof.Rows

abbrev KOf {K : PySem.W.Frag} {h : Heap} (_ : K.In h) : PySem.W.Frag := K

/-- the goal that k_head leaves (case hc), from the law's promise. F gives the function object fd (K's own) once, then the promise over every base -/
theorem walk_of {l : PySem.W.OpenLaw} {n k : Nat} {q : Program} {loose : List Str} {XP : (Str → Option Value) → Heap → Prop} {YP : World → Heap → Prop} {d : DefRec} {K : Params → PySem.W.Frag} {CX : World → CXT} {sp : World → Sp} {x : Str}
    (hn : l.most = some n) (hn2 : n ≤ sizeLine) (hdf : d.params.defaults = []) (hr : Room k callerA)
    (hY : ∀ (w : World) (h : Heap), YP w h → (K w.params).In h)
    (F : ∀ (w : World) (mg : Str → Option Value) (fa : Addr) (h : Heap), (K w.params).In h → h.Ns mainGlobals mg → mg d.name = some (.ref fa) →
      ∃ fd : FuncData, (∀ (s : Shared) (u : Value), BindsTo s fd ⟨[u], []⟩ [(x, u)]) ∧
        ∀ base : Heap, (K w.params).In base → base.Ns mainGlobals mg → FnOk l.prog w (K w.params) mg base (CX w) k fa fd [x] (sp w))
    (hsp : ∀ (w : World) (H : Hp) (a : Addr) (ns : List Int), ns.length ≤ n → Only H → SqL (K w.params) H a (ns.map V.int) → sp w [.ref a] H (fun v _ => v = .bl true) fun _ _ _ => False)
    (hCX : ∀ (w : World) (H : Hp) (s : Shared) (e : Value) (s' : Shared), CX w [] H s (fun _ _ _ => False) e s' → False) :
    PySem.W.WalkO q loose XP YP l.row.toRowW d [] (fun f vs => PySem.call f vs) := by
  refine Att.attach_call hn hdf fun w s₀ s₁ mg mb fa o pm cd doc a vs ns G Y ho hd hcd hmg hobj hints hlen hg => ?_
  have KX := hY w _ Y
  obtain ⟨fd, hb, hF⟩ := F w mg fa _ KX G.T.g hmg
  exact law_call KX G.T.g G.T.b G.T.builtins G.T.nolimit hg hobj hints (Nat.le_trans hlen hn2) hr hF hb (fun H hO hS => hsp w H a ns hlen hO hS) fun H e s' => hCX w H s₁ e s'
end L2

/- THE LAST THEOREM (shape; LID, My.* are yours):
   My.Adr: a structure of the addresses that your layer names (classes, functions); My.Txt K t: a structure (Prop) of the equations over K;
   My.txt_mk : {K} {implicit addresses ..} (e1 : nsIn K mainGlobals "law" = some (some (.ref f))) (e2 : K.lookup f = some ⟨oc, od, .func (fnOf "law" "law" params body scope dV kV doc pm an cdv ct), sl⟩) (e3 : codeIn K cdv "law" = true) .. : ∃ t, My.Txt K t

set_option maxRecDepth 100000 in
set_option maxHeartbeats 0 in
theorem PySem.Challenge.cw_LID_holds : PySem.Challenge.rw_LID.Holds := by
  w_on; o_law; k_head; (case hw => w_witness2)
  k_fill
  refine L2.walk_of (l := PySem.Challenge.rw_LID) (n := 63) (k := 40) (x := "script") (CX := fun w => ..) (sp := fun _ => My.sp_law) rfl (by decide) rfl ⟨rfl, by decide, by decide⟩ (fun w h Y => PySem.W.kIn_of Y) ?F ?S ?C
  case F =>
    intro w mg fa h KX G hmg
    have T : ∃ t, My.Txt (L2.KOf KX) t := by
      dsimp only [L2.KOf]                          -- K must stand as «<heap const> w.params» for k_is
      refine' My.txt_mk ?e1 ?e2 ?e3 ..
      (case e1 => PySem.W.k_is)                    -- in the order: a name -> its address -> its object -> its parts
      (case e2 => PySem.W.k_is)
      ..
    obtain ⟨t, T⟩ := T
    have e0 := hmg.symm.trans (PySem.W.mg_of KX G T.law)
    cases e0                                       -- fa is the law's own address
    exact ⟨_, fun s u => .of_eq rfl, fun base kb nb => My.law_fn T kb nb⟩     -- if «.of_eq rfl» comes too early: refine' ⟨_, ?b, fun base kb nb => My.law_fn T kb nb⟩; exact fun s u => .of_eq rfl
  case S => exact fun w H a ns hl hO hS => ..
  case C => exact ..
(the tactic k_is has no namespace: write k_is) -/

/-! SHORT WORDS over the layer: a def of the text, its body, what a loop and a test want. -/
namespace L2
open PySem PySem.Spec PyProof.Rows

/-! ### the text by places -/
/-- the j-th statement of a class's body -/
def inClass (s : Stmt) (j : Nat) : Stmt := match s with
  | .ClassDef _ _ _ body _ _ _ _ _ _ _ => body.getD j (.Pass ⟨0, 0, 0, 0⟩)
  | _ => .Pass ⟨0, 0, 0, 0⟩
def defArgs (s : Stmt) : Arguments := match s with
  | .FunctionDef _ a _ _ _ _ _ _ _ _ => a
  | _ => { posonlyargs := [], args := [], vararg := none, kwonlyargs := [], kw_defaults := [], kwarg := none, defaults := [] }
def defBody (s : Stmt) : List Stmt := match s with
  | .FunctionDef _ _ b _ _ _ _ _ _ _ => b
  | _ => []
def defScope (s : Stmt) : Scope := match s with
  | .FunctionDef _ _ _ _ _ _ sc _ _ _ => sc
  | _ => { kind := .function, names := [], isGenerator := false, isCoroutine := false }

/-! ### no exception leaves a def -/
abbrev CX0 : CXT := fun _ _ _ _ _ _ => False
abbrev E0 : XK := fun _ _ _ => False
/-! ### a def (or method) of the text as it stands behind the top -/
structure Fun (K : PySem.W.Frag) (x qual : Str) (st : Stmt) (f : Addr) (fd : FuncData) : Prop where
  ex : ∃ (oc : Value) (od : Option Addr) (kV doc pm : Value) (an : Option Addr) (cdv ct : Value) (osl : Array (Option Value)),
    fd = PySem.W.fnOf x qual (defArgs st) (defBody st) (defScope st) .none kV doc pm an cdv ct ∧ K.lookup f = some ⟨oc, od, .func fd, osl⟩ ∧ PySem.W.codeIn K cdv qual = true
  kp : PySem.W.keepIn K (.ref f) = true
section
variable {P : Program} {w : World} {K : PySem.W.Frag} {mg : Str → Option Value} {base : Heap}
/-- THE RULE for a def: its body as a term of rules, and the reading of that term -/
theorem Fun.ok {x qual : Str} {st : Stmt} {f : Addr} {fd : FuncData} {N ps : List Str} {k : Nat} {sp : Sp} (F : Fun K x qual st f fd) (S : FnScope N ps (defScope st)) (len : ∀ vs H Q E, sp vs H Q E → vs.length = ps.length)
    (hbody : ∀ (cdv : Value) (A : Around) (outer : List Env) (s : Shared) (H : Hp) (vs : List V) (Q : VK) (E : XK), Room k (A.deeper (envOfC qual (defScope st) s.heap.objs.size f cdv)) → sp vs H Q E →
      ∃ t, PSs (cxOf CX0 P w K mg base N qual (defScope st) f cdv A outer s H E).nox (defBody st) t ∧ t { nx := fun _ H' => Q .non H', rt := Q } (start N vs) H) : FnOk P w K mg base CX0 (k + 1) f fd ps sp := by
  obtain ⟨oc, od, kV, doc, pm, an, cdv, ct, osl, rfl, lk, hcd⟩ := F.ex
  refine fn_of lk hcd S len fun A outer s H vs Q E hr hsp => ?_
  obtain ⟨t, h, q⟩ := hbody cdv A outer s H vs Q E hr hsp
  exact ⟨t, h.nox, q⟩
/-- how its arguments bind (no defaults): h is «fun _ _ _ _ _ _ us hl => match us, hl with | [_, _], _ => rfl», one _ a parameter -/
theorem Fun.binds {x qual : Str} {st : Stmt} {f : Addr} {fd : FuncData} {ps : List Str} (F : Fun K x qual st f fd)
    (h : ∀ (kV doc pm : Value) (an : Option Addr) (cdv ct : Value) (us : List Value), us.length = ps.length → bindArgs (PySem.W.fnOf x qual (defArgs st) (defBody st) (defScope st) .none kV doc pm an cdv ct) ⟨us, []⟩ = pure (ps.zip us)) : Binds K fd ps [] := by
  obtain ⟨oc, od, kV, doc, pm, an, cdv, ct, osl, rfl, lk, hcd⟩ := F.ex
  exact .all (h kV doc pm an cdv ct)
theorem fun_mk {x qual : Str} {st : Stmt} {f : Addr} {oc : Value} {od an : Option Addr} {osl : Array (Option Value)} {kV doc pm cdv ct : Value} (l : K.lookup f = some ⟨oc, od, .func (PySem.W.fnOf x qual (defArgs st) (defBody st) (defScope st) .none kV doc pm an cdv ct), osl⟩)
    (c : PySem.W.codeIn K cdv qual = true) (k : PySem.W.keepIn K (.ref f) = true) : Fun K x qual st f (PySem.W.fnOf x qual (defArgs st) (defBody st) (defScope st) .none kV doc pm an cdv ct) := ⟨⟨oc, od, kV, doc, pm, an, cdv, ct, osl, rfl, l, c⟩, k⟩
end
theorem hu_of {A : Around} {k : Nat} (hr : Room k A) : A.units + 1 < cLine := Nat.lt_of_le_of_lt (Nat.add_le_add_left (by decide : 1 ≤ 64) _) hr.units
/-! ### expressions in short: the name that stands in the i-th slot -/
section
variable {X : Cx}
theorem pv (i : Nat) {x : Str} {pos : Pos} (hN : X.N[i]? = some x := by rfl) (hv : Vis X.env.scope x := by first | exact Or.inl rfl | exact Or.inr (Or.inl rfl) | exact Or.inr (Or.inr rfl)) (hd : (x == ("__debug__" : Str)) = false := by decide)
    (hcd : (x == ("__classdict__" : Str)) = false := by decide) : PE X (.Name x pos) (tVar i) := pe_var hN hv hd hcd
end

/-! ### tests -/
theorem iteF {A B : Prop} (h : B) : if false = true then A else B := by
  rw [if_neg Bool.false_ne_true]
  exact h
theorem iteT {A B : Prop} (h : A) : if true = true then A else B := by
  rw [if_pos rfl]
  exact h
/-! ### heaps -/
/-- all that was tracked is as it was -/
def Same (H H' : Hp) : Prop := ∀ b o, H b = some o → H' b = some o
theorem Same.refl (H : Hp) : Same H H := fun _ _ h => h
theorem Same.trans {H H1 H2 : Hp} (a : Same H H1) (b : Same H1 H2) : Same H H2 := fun c o h => b c o (a c o h)
theorem Same.free {H H' : Hp} (e : Same H H') {l : Addr} (h : H' l = Option.none) : H l = Option.none := by
  cases q : H l with
  | none => rfl
  | some o =>
    rw [e l o q] at h
    cases h
theorem Same.seq {K : PySem.W.Frag} {H H' : Hp} {a : Addr} {xs : List V} (e : Same H H') (h : SqL K H a xs) : SqL K H' a xs := by
  rcases h with (h | ⟨o, h⟩) | h
  · exact .inl (.inl (e _ _ h))
  · exact .inl (.inr ⟨o, e _ _ h⟩)
  · exact .inr h

section
variable {X : Cx}
/-- len of a dict -/
theorem call_lenD : CallR X (.builtin "len") (fun xs H Q => ∃ a kvs, xs = [V.ref a] ∧ H a = some (.dK kvs) ∧ Q (.int kvs.length) H) := by
  intro pins s σ H xs us Q I r h
  obtain ⟨a, kvs, rfl, ha, q⟩ := h
  obtain ⟨u, rfl, ru⟩ := vals1 r
  cases ru
  exact d_len I (.inl ha) fun t s' I' => ⟨.int kvs.length, H, I', ⟨t, rfl⟩, q⟩
end
/-! ### a dict's pairs: keys that differ -/
section
variable {κ : Type} [DecidableEq κ]
theorem valV_not {kvs : List (κ × V)} {k : κ} (h : valV kvs k = none) : ¬ k ∈ kvs.map (·.1) := by
  intro m
  obtain ⟨p, hp, e⟩ := List.mem_map.mp m
  have q : (kvs.any fun kv => decide (kv.1 = k)) = true := List.any_eq_true.mpr ⟨p, hp, decide_eq_true e⟩
  rw [valV_any, h] at q
  exact absurd q (by simp)
theorem valV_in {kvs : List (κ × V)} {k : κ} {v : V} (h : valV kvs k = some v) : k ∈ kvs.map (·.1) := by
  have q : (kvs.any fun kv => decide (kv.1 = k)) = true := by
    rw [valV_any, h]
    all_goals rfl
  obtain ⟨p, hp, e⟩ := List.any_eq_true.mp q
  exact List.mem_map.mpr ⟨p, hp, of_decide_eq_true e⟩
theorem nd_snoc : ∀ {l : List κ} {k : κ}, l.Nodup → ¬ k ∈ l → (l ++ [k]).Nodup
  | [], k, _, _ => by simp
  | a :: r, k, h, hk => by
    obtain ⟨h1, h2⟩ := List.nodup_cons.mp h
    show (a :: (r ++ [k])).Nodup
    refine List.nodup_cons.mpr ⟨fun m => ?_, nd_snoc h2 fun m => hk (List.mem_cons.mpr (Or.inr m))⟩
    rcases List.mem_append.mp m with q | q
    · exact h1 q
    · exact hk (List.mem_cons.mpr (Or.inl (List.mem_singleton.mp q).symm))
theorem nd_putK {kvs : List (κ × V)} {k : κ} (v : V) (hn : (kvs.map (·.1)).Nodup) (h : valV kvs k = none) : ((putK kvs k v).map (·.1)).Nodup := by
  rw [putK_new v h, List.map_append]
  exact nd_snoc hn (valV_not h)
theorem dropK_pos {p : κ × V} {r : List (κ × V)} {k : κ} (e : p.1 = k) : dropK (p :: r) k = dropK r k := by
  unfold dropK
  rw [List.filter_cons, if_neg (by simp [e])]
theorem dropK_neg {p : κ × V} {r : List (κ × V)} {k : κ} (e : ¬ p.1 = k) : dropK (p :: r) k = p :: dropK r k := by
  unfold dropK
  rw [List.filter_cons, if_pos (by simp [e])]
theorem dropK_mem {kvs : List (κ × V)} {k : κ} {p : κ × V} (h : p ∈ dropK kvs k) : p ∈ kvs := (List.mem_filter.mp h).1
theorem nd_dropK : ∀ {kvs : List (κ × V)} {k : κ}, (kvs.map (·.1)).Nodup → ((dropK kvs k).map (·.1)).Nodup
  | [], _, _ => List.nodup_nil
  | p :: r, k, h => by
    have h : (p.1 :: r.map (·.1)).Nodup := h
    obtain ⟨h1, h2⟩ := List.nodup_cons.mp h
    by_cases e : p.1 = k
    · rw [dropK_pos e]
      exact nd_dropK h2
    · rw [dropK_neg e]
      show (p.1 :: (dropK r k).map (·.1)).Nodup
      refine List.nodup_cons.mpr ⟨fun m => h1 ?_, nd_dropK h2⟩
      obtain ⟨q, hq, eq⟩ := List.mem_map.mp m
      exact List.mem_map.mpr ⟨q, dropK_mem hq, eq⟩
end
end L2


set_option Elab.async false
set_option linter.all false
set_option maxRecDepth 100000
set_option maxHeartbeats 4000000
namespace L2
open PySem PySem.Spec PyProof.Rows

/-! ### what is tracked stands in the heap; untracked objects may be hidden -/
section
variable {P : Program} {w : World} {H H' : Hp} {h h' : Heap} {a : Addr} {o : HO}
theorem ObjOk.there (x : ObjOk P w H h a o) : ∃ ob, h.get? a = some ob := by
  cases o with
  | lst xs => obtain ⟨_, _, _, _, e⟩ := x; exact ⟨_, e⟩
  | tup xs => obtain ⟨_, _, _, ob, e, _⟩ := x; exact ⟨ob, e⟩
  | dK kvs => obtain ⟨_, _, _, _, ob, _, _, e, _⟩ := x; exact ⟨ob, e⟩
  | dT kvs => obtain ⟨_, _, _, _, ob, _, _, e, _⟩ := x; exact ⟨ob, e⟩
  | set S n => obtain ⟨ob, _, _, _, e, _⟩ := x; exact ⟨ob, e⟩
  | ins C dx fs => obtain ⟨_, _, _, e, _⟩ := x; exact ⟨_, e⟩
  | own y => exact x
  | xd fs => obtain ⟨_, ⟨ob, _, _, e, _⟩, _⟩ := x; exact ⟨ob, e⟩
  | rng lo hi => obtain ⟨_, _, _, e⟩ := x; exact ⟨_, e⟩
  | frz ob u => obtain ⟨e, _⟩ := x; exact ⟨_, e⟩
  | tbl ps => exact ⟨_, (show h.get? a = some _ from x)⟩
  | met f y => exact ⟨_, (show h.get? a = some _ from x)⟩
  | ext φ => obtain ⟨_, e, _⟩ := x; exact e
theorem HOk.none_of (x : HOk P w H h) (e : h.get? a = none) : H a = none := by
  cases q : H a with
  | none => rfl
  | some u =>
    obtain ⟨ob, z⟩ := (x a u q).there
    rw [e] at z; cases z
theorem HOk.hide (x : HOk P w H h) {fs : List Addr} (hf : ∀ b ∈ fs, H b = none) : HOk P w H (PySem.W.hideAll h fs) := fun a o e =>
  (x a o e).stay (fun b u hb q => PySem.W.hideAll_get _ q fun hm => by
    rcases hb with rfl | hb
    · rw [hf _ hm] at e; cases e
    · rw [hf _ hm] at hb; cases hb) (fun _ q => q) fun _ _ q => q
end

/-! ### an exception of an own class in flight -/
structure Flown (P : Program) (w : World) (outer : List Env) (H : Hp) (s : Shared) (e C : Addr) (H' : Hp) (s' : Shared) : Prop where
  os : s'.os = s.os
  bare : AllBare s'.gens
  fly : ∃ (B : Heap) (t : Value), Heap.FlyingW B outer e (.ref C) t s'.heap ∧ (∀ b o, s.heap.get? b = some o → H b = none → b ∉ frs outer → B.get? b = some o) ∧
    (∀ b o, s.heap.get? b = some o → b ∉ frs outer → ∃ o', B.get? b = some o') ∧ HOk P w H' B
  slot : ∀ b o, s.heap.get? b = some o → H b = none → b ∈ frs outer → ∃ sl, s'.heap.get? b = some { o with slots := sl }
  free : ∀ b o, s.heap.get? b = some o → H b = none → H' b = none
  tups : ∀ b xs, H b = some (.tup xs) → H' b = some (.tup xs)
  frzs : ∀ b o u, H b = some (.frz o u) → H' b = some (.frz o u)
  tbls : ∀ b ps, H b = some (.tbl ps) → ∃ more, H' b = some (.tbl (ps ++ more))

section
variable {P : Program} {w : World} {outer : List Env} {H H' : Hp} {s s' : Shared} {e C : Addr}
theorem Flown.hok (F : Flown P w outer H s e C H' s') : HOk P w H' s'.heap := by
  obtain ⟨B, t, f, _, _, k⟩ := F.fly
  exact k.kept f.1
theorem Flown.un (F : Flown P w outer H s e C H' s') : Un (frs outer) [] H H' s.heap s'.heap := by
  obtain ⟨B, t, f, k1, k2, k⟩ := F.fly
  refine ⟨fun b o q n hb _ => f.1 b o (k1 b o q n hb), fun b o q n hb _ => F.slot b o q n hb, fun b o q n _ => F.free b o q n, fun b o q _ => ?_, F.tups, F.frzs, F.tbls⟩
  by_cases hb : b ∈ frs outer
  · obtain ⟨_, ob, ho, _⟩ := f.2.2.1.mem hb
    exact ⟨ob, ho⟩
  · obtain ⟨o', z⟩ := k2 b o q hb
    exact ⟨o', f.1 _ _ z⟩
/-- it goes on within the frame: the record turns, all else is up to slots -/
theorem Flown.on (F : Flown P w outer H s e C H' s') : ∃ (B : Heap) (t : Value), Heap.FlyingW B outer e (.ref C) t s'.heap ∧ H' e = none ∧
    ∀ h'' tk, Heap.FlyingW B outer e (.ref C) t h'' → s'.heap.UpToSlots h'' → Flown P w outer H s e C H' { s' with heap := h'', toks := tk } := by
  obtain ⟨B, t, f, k1, k2, k⟩ := F.fly
  refine ⟨B, t, f, k.none_of f.2.1, fun h'' tk f2 u => ⟨F.os, F.bare, ⟨B, t, f2, k1, k2, k⟩, fun b o q n hb => ?_, F.free, F.tups, F.frzs, F.tbls⟩⟩
  obtain ⟨sl, z⟩ := F.slot b o q n hb
  obtain ⟨_, ob, ho, hd⟩ := f.2.2.1.mem hb
  rw [z] at ho
  cases ho
  obtain ⟨sl2, z2⟩ := u b _ z hd
  exact ⟨sl2, z2⟩
end

section
variable {X : Cx} {pins : List (Addr × Obj)} {σ : St} {H H' : Hp} {s s' : Shared} {e C : Addr} {E : Value → Shared → Prop}
/-- a def's own context: its frame runs on top of the callers' -/
structure Top1 (X : Cx) : Prop where
  st : X.stack = X.env :: X.outer
  fr : X.env.frame = some X.env.locals
  ex : X.ex = []
theorem Top1.frs (T : Top1 X) : L2.frs X.stack = X.env.locals :: X.fs := by
  rw [T.st]
  unfold L2.frs Cx.fs L2.frs
  rw [List.filterMap_cons, T.fr]
theorem Inv.ne0 (I : Inv X pins σ H s) {b : Addr} {o : Obj} (q : X.s₀.heap.get? b = some o) : b ≠ X.env.locals := Nat.ne_of_lt (Nat.lt_of_lt_of_le (Heap.lt_size q) I.ok.above)
theorem Top1.not (T : Top1 X) (I : Inv X pins σ H s) {b : Addr} {o : Obj} (q : X.s₀.heap.get? b = some o) (hb : b ∉ X.fs) : b ∉ L2.frs X.stack := by
  rw [T.frs]
  intro z
  rcases List.mem_cons.mp z with z | z
  · exact I.ne0 q z
  · exact hb z
/-- raised in a callee, it leaves this frame -/
theorem Flown.leave (T : Top1 X) (I : Inv X pins σ H s) (F : Flown X.prog X.w X.stack H s e C H' s') :
    wpAny (model X.prog X.w) X.A (leaving X.env (.ref e)) (fun _ s'' => Flown X.prog X.w X.outer X.H₀ X.s₀ e C H' s'') E s' := by
  obtain ⟨B, t, f, k1, k2, k⟩ := F.fly
  have fr : X.A.frames = some (X.env :: X.outer) := I.ok.frames.trans (by rw [T.st])
  rw [T.st] at f
  have nex : ∀ b, b ∉ X.ex := fun b => by rw [T.ex]; simp
  refine wpAny_leaves_onW fr T.fr f fun h'' f2 u => ?_
  refine ⟨F.os.trans I.os, F.bare, ⟨B, t, f2, fun b o q n hb => ?_, fun b o q hb => ?_, k⟩, fun b o q n hb => ?_, fun b o q n => ?_, fun b xs q => F.tups b xs (I.base.tups b xs q), fun b o xs q => F.frzs b o xs (I.base.frzs b o xs q), fun b ps q => ?_⟩
  · exact k1 b o (I.base.keep b o q n hb (nex b)) (I.base.free b o q n (nex b)) (T.not I q hb)
  · obtain ⟨o', z⟩ := I.base.there b o q (nex b)
    exact k2 b o' z (T.not I q hb)
  · obtain ⟨sl, z⟩ := I.base.slot b o q n hb (nex b)
    have hb2 : b ∈ L2.frs X.stack := by rw [T.frs]; exact List.mem_cons_of_mem _ hb
    obtain ⟨sl2, z2⟩ := F.slot b _ z (I.base.free b o q n (nex b)) hb2
    obtain ⟨_, ob, ho, hd⟩ := f.2.2.1.mem (show b ∈ (X.env :: X.outer).filterMap (·.frame) by have := hb2; rw [T.st] at this; exact this)
    rw [z2] at ho
    cases ho
    obtain ⟨sl3, z3⟩ := u b _ z2 hd
    exact ⟨sl3, z3⟩
  · obtain ⟨o', z⟩ := I.base.there b o q (nex b)
    exact F.free b o' z (I.base.free b o q n (nex b))
  · obtain ⟨m1, e1⟩ := I.base.tbls b ps q
    obtain ⟨m2, e2⟩ := F.tbls b _ e1
    exact ⟨m1 ++ m2, by rw [e2, Array.append_assoc]⟩
/-- raised here, it leaves this frame -/
theorem Flown.made (T : Top1 X) (I : Inv X pins σ H s) {h' : Heap} {args : List Value} {tk : Nat} (hx : Heap.MadeExcOf s.heap h' e (.ref C) args) :
    wpAny (model X.prog X.w) X.A (leaving X.env (.ref e)) (fun _ s'' => Flown X.prog X.w X.outer X.H₀ X.s₀ e C H s'') E { s with heap := h', toks := tk } := by
  have fr : X.A.frames = some (X.env :: X.outer) := I.ok.frames.trans (by rw [T.st])
  have nex : ∀ b, b ∉ X.ex := fun b => by rw [T.ex]; simp
  have hst := I.stack
  have hin : ∀ env ∈ X.stack, ∀ b, env.frame = some b → b ∈ L2.frs X.stack := fun env he b hb => List.mem_filterMap.mpr ⟨env, he, hb⟩
  have hfr : s.heap.FunFrames (PySem.W.hideAll s.heap (L2.frs X.stack)) X.stack := PySem.W.funFrames_hide hst hin
  have kp : ∀ {b : Addr} {o : Obj}, s.heap.get? b = some o → b ∉ L2.frs X.stack → (PySem.W.hideAll s.heap (L2.frs X.stack)).get? b = some o := fun q n => PySem.W.hideAll_get _ q n
  have hok : HOk X.prog X.w H (PySem.W.hideAll s.heap (L2.frs X.stack)) := I.hok.hide I.stkFree
  have hmem : ∀ b ∈ X.fs, ∃ o, s.heap.get? b = some o ∧ ∀ vs, o.data ≠ .fields vs := fun b hb => by
    have hb2 : b ∈ L2.frs X.stack := by
      rw [T.frs]
      exact List.mem_cons_of_mem _ hb
    obtain ⟨_, o, ho, hd⟩ := hst.mem (show b ∈ X.stack.filterMap (·.frame) from hb2)
    exact ⟨o, ho, hd⟩
  have hfr' : s.heap.FunFrames (PySem.W.hideAll s.heap (L2.frs X.stack)) (X.env :: X.outer) := by
    have z := PySem.W.funFrames_hide hst hin
    rw [T.st] at z ⊢
    exact z
  refine wpAny_leaves_madeW (s := { s with heap := h', toks := tk }) fr T.fr (base := PySem.W.hideAll s.heap (L2.frs X.stack)) (fun b o q => PySem.W.of_hideAll _ q) hfr' hx fun h'' t f tup nt u => ?_
  refine ⟨I.os, I.bare, ⟨_, _, f, fun b o q n hb => kp (I.base.keep b o q n hb (nex b)) (T.not I q hb), fun b o q hb => ?_, hok⟩, fun b o q n hb => ?_, fun b o q n => I.base.free b o q n (nex b), I.base.tups, I.base.frzs, I.base.tbls⟩
  · obtain ⟨o', z⟩ := I.base.there b o q (nex b)
    exact ⟨o', kp z (T.not I q hb)⟩
  · obtain ⟨sl, z⟩ := I.base.slot b o q n hb (nex b)
    obtain ⟨ob, ho, hd⟩ := hmem b hb
    rw [z] at ho
    cases ho
    obtain ⟨sl2, z2⟩ := u b _ (hx.keeps _ _ z) hd
    exact ⟨sl2, z2⟩
end

/-! ### how an exception lies behind a call -/
def CXE (P : Program) (w : World) : CXT := fun outer H s E ev s' => ∃ (e C : Addr) (H' : Hp), ev = .ref e ∧ Flown P w outer H s e C H' s' ∧ E (.ref C) none H'
theorem pass0X {P : Program} {w : World} {X : Cx} : Passes (CXE P w) X E0 := fun _ _ _ _ _ _ _ ⟨_, _, _, _, _, h⟩ => h.elim
section
variable {P : Program} {w : World} {K : PySem.W.Frag} {mg : Str → Option Value} {base : Heap} {N : List Str} {qual : Str} {scope : Scope} {f : Addr} {cd : Value} {A : Around} {outer : List Env} {s : Shared} {H : Hp} {E : XK}
abbrev cxX (P : Program) (w : World) (K : PySem.W.Frag) (mg : Str → Option Value) (base : Heap) (N : List Str) (qual : Str) (scope : Scope) (f : Addr) (cd : Value) (A : Around) (outer : List Env) (s : Shared) (H : Hp) (E : XK) : Cx :=
  cxOf (CXE P w) P w K mg base N qual scope f cd A outer s H E
theorem top1 : Top1 (cxX P w K mg base N qual scope f cd A outer s H E) := ⟨rfl, rfl, rfl⟩
/-- what a callee raises goes on to the caller -/
theorem passX : Passes (CXE P w) (cxX P w K mg base N qual scope f cd A outer s H E) E := by
  rintro pins σ H1 s1 ev s' I ⟨e, C, H', rfl, F, q⟩
  show wpAny _ _ _ _ _ _
  exact wpAny_mono (Flown.leave (E := fun _ _ => False) top1 I F) (fun _ s'' F2 => ⟨e, C, H', rfl, F2, q⟩) fun _ _ z => z.elim
theorem raiseX {pins : List (Addr × Obj)} {σ : St} {H1 : Hp} {s1 : Shared} {h' : Heap} {e C : Addr} {args : List Value} {tk : Nat} (I : Inv (cxX P w K mg base N qual scope f cd A outer s H E) pins σ H1 s1) (hx : Heap.MadeExcOf s1.heap h' e (.ref C) args) (q : E (.ref C) none H1) :
    (cxX P w K mg base N qual scope f cd A outer s H E).xe (.ref e) { s1 with heap := h', toks := tk } := by
  show wpAny _ _ _ _ _ _
  exact wpAny_mono (Flown.made (E := fun _ _ => False) top1 I hx) (fun _ s'' F2 => ⟨e, C, H1, rfl, F2, q⟩) fun _ _ z => z.elim
/-- THE RULE for a def that may raise -/
theorem Fun.okX {x : Str} {st : Stmt} {fd : FuncData} {ps : List Str} {k : Nat} {sp : Sp} (F : Fun K x qual st f fd) (S : FnScope N ps (defScope st)) (len : ∀ vs H Q E, sp vs H Q E → vs.length = ps.length)
    (hbody : ∀ (cdv : Value) (A : Around) (outer : List Env) (s : Shared) (H : Hp) (vs : List V) (Q : VK) (E : XK), Room k (A.deeper (envOfC qual (defScope st) s.heap.objs.size f cdv)) → sp vs H Q E →
      ∃ t, PSs (cxX P w K mg base N qual (defScope st) f cdv A outer s H E) (defBody st) t ∧ t { nx := fun _ H' => Q .non H', rt := Q } (start N vs) H) : FnOk P w K mg base (CXE P w) (k + 1) f fd ps sp := by
  obtain ⟨oc, od, kV, doc, pm, an, cdv, ct, osl, rfl, lk, hcd⟩ := F.ex
  exact fn_of lk hcd S len fun A outer s H vs Q E hr hsp => hbody cdv A outer s H vs Q E hr hsp
/-- .. that never raises -/
theorem Fun.ok0 {x : Str} {st : Stmt} {fd : FuncData} {ps : List Str} {k : Nat} {sp : Sp} (F : Fun K x qual st f fd) (S : FnScope N ps (defScope st)) (len : ∀ vs H Q E, sp vs H Q E → vs.length = ps.length)
    (hbody : ∀ (cdv : Value) (A : Around) (outer : List Env) (s : Shared) (H : Hp) (vs : List V) (Q : VK) (E : XK), Room k (A.deeper (envOfC qual (defScope st) s.heap.objs.size f cdv)) → sp vs H Q E →
      ∃ t, PSs (cxX P w K mg base N qual (defScope st) f cdv A outer s H E).nox (defBody st) t ∧ t { nx := fun _ H' => Q .non H', rt := Q } (start N vs) H) : FnOk P w K mg base (CXE P w) (k + 1) f fd ps sp :=
  F.okX S len fun cdv A outer s H vs Q E hr h => by
    obtain ⟨t, z, q⟩ := hbody cdv A outer s H vs Q E hr h
    exact ⟨t, z.nox, q⟩
end
theorem PS.nox {X : Cx} {st : Stmt} {t : TS} (h : PS X.nox st t) : PS X st t := fun pins s σ H D I hw =>
  wpAny_mono (h pins s σ H D (I.wish _) hw) (fun f s' q => q.unwish) fun _ _ z => z.elim
end L2

set_option Elab.async false
set_option linter.all false
set_option maxRecDepth 100000
set_option maxHeartbeats 4000000
namespace L2
open PySem PySem.Spec PyProof.Rows

/-! ### raise X(..), X an own class under ValueError -/
abbrev bmVE : List Value := [.type "ValueError", .type "Exception", .type "BaseException", .type "object"]
def strKeysB (es : Array DictEntry) : Bool := es.toList.all fun e => match e.key with | .str _ _ => true | _ => false
theorem strKeys_of {es : Array DictEntry} (h : strKeysB es = true) : StrKeys es := fun e he => by
  have q := List.all_eq_true.mp h e (by simpa using he)
  cases hk : e.key with
  | str n t => exact ⟨n, t, rfl⟩
  | _ => rw [hk] at q; cases q
/-- a namespace of the written part -/
theorem ns_of_K {K : PySem.W.Frag} {N : Addr} {c : Value} {d : Option Addr} {es : Array DictEntry} {n : Nat} {sl : Array (Option Value)} (l : K.lookup N = some ⟨c, d, .dict es n, sl⟩) (h : strKeysB es = true) (hp : Heap) (X : K.In hp) : hp.Ns N (nsFind es) :=
  ⟨_, es, n, X _ _ l, rfl, strKeys_of h, fun _ => rfl⟩
structure ExcC (K : PySem.W.Frag) (C : Addr) : Prop where
  cls : ∃ (nm q : Str) (N : Addr) (bs bm : List Value) (hdct : Bool) (sn : List Str) (sub : List Value) (ab : Bool) (col : Option Bool) (dd : Option Addr) (k0 k1 k2 k3 k5 : Option Value) (mN : Str → Option Value),
    K.lookup C = some (excClassObj nm q C N bs bm hdct sn sub ab col dd k0 k1 k2 k3 k5 "ValueError.__new__") ∧ (∀ h, K.In h → h.Ns N mN) ∧ mN "__init__" = none ∧ ∀ h, K.In h → OwnTail h bmVE bm
section
variable {P : Program} {w : World} {K : PySem.W.Frag} {mg : Str → Option Value} {base : Heap} {N : List Str} {qual : Str} {scope : Scope} {f : Addr} {cd : Value} {A : Around} {outer : List Env} {s₀ : Shared} {H₀ : Hp} {E : XK}
  {x : Str} {C : Addr} {np cpos pos : Pos} {e : Expr} {te : TE}
theorem ps_raise1 (hC : ExcC K C) (hm : mg x = some (.ref C)) (hg : Gl (cxX P w K mg base N qual scope f cd A outer s₀ H₀ E) x) (he : PE (cxX P w K mg base N qual scope f cd A outer s₀ H₀ E) e te)
    (hd : (x == ("__debug__" : Str)) = false := by decide) (hst : starEach [e] (cxX P w K mg base N qual scope f cd A outer s₀ H₀ E).env = [(false, eval e (cxX P w K mg base N qual scope f cd A outer s₀ H₀ E).env)] := by rfl) :
    PS (cxX P w K mg base N qual scope f cd A outer s₀ H₀ E) (.Raise (some (.Call (.Name x np) [e] [] cpos)) none pos) (fun D σ H => te σ H fun _ H1 => E (.ref C) none H1) := by
  intro pins s σ H D I h
  obtain ⟨nm, q, Nn, bs, bm, hdct, sn, sub, ab, col, dd, k0, k1, k2, k3, k5, mN, lC, hN, hni, T⟩ := hC.cls
  have hh : (cxX P w K mg base N qual scope f cd A outer s₀ H₀ E).A.handled = none := I.ok.hd rfl
  have hpl : (backTo cpos (starEach [e] (cxX P w K mg base N qual scope f cd A outer s₀ H₀ E).env)).any (·.1) = false := by rw [hst]; rfl
  refine wpAny_Raise_call_subT (C := C) (nm := nm) (q := q) (N := Nn) (bs := bs) (bm := bm) (hdct := hdct) (sn := sn) (sub := sub) (ab := ab) (col := col) (dd := dd) (k0 := k0) (k1 := k1) (k2 := k2) (k3 := k3) (k5 := k5)
    PySem.F.excBase_ValueError (mN := mN) ((T _ I.kIn).hasType PySem.F.excBase_ValueError.hasBase) hh hpl hni (ld_glob I hg hm ⟨rfl, ?_⟩ hd)
  have hpa := pa_cons he (pa_nil (X := cxX P w K mg base N qual scope f cd A outer s₀ H₀ E)) hst cpos pins s σ H (fun vs H1 => match vs with | [_] => E (.ref C) none H1 | _ => False) I h
  rw [hst] at hpa ⊢
  refine Calls.evalArgs_plain (wpAny_mono hpa (fun us s2 z => ?_) fun _ _ y => y)
  obtain ⟨vs, H1, I1, r, q1⟩ := z
  match vs, q1, r with
  | [v], q1, r =>
    obtain ⟨u, rfl, _⟩ := vals1 r
    exact ⟨rfl, by show 1 ≤ sizeLine; decide, I1.kIn _ _ lC, hN _ I1.kIn, T _ I1.kIn, fun h' ev hx => raiseX (tk := s2.toks) I1 hx q1⟩
end

/-! ### what a call raises, from this very state -/
def PassesAt (CX : CXT) (X : Cx) (pins : List (Addr × Obj)) (σ : St) (E : XK) : Prop := ∀ (H : Hp) (s : Shared) (e : Value) (s' : Shared), Inv X pins σ H s → CX X.stack H s E e s' → X.xe e s'
def PEat (X : Cx) (pins : List (Addr × Obj)) (σ : St) (e : Expr) (t : TE) : Prop := ∀ (s : Shared) (H : Hp) (Q : VK), Inv X pins σ H s → t σ H Q → wpAny (model X.prog X.w) X.A (eval e X.env) (EP X pins σ Q) X.xe s
section
variable {X : Cx} {CX : CXT} {k : Nat} {f C : Addr} {fd : FuncData} {ps : List Str} {sp : Sp} {dvs : List V} {ds : List Value} {E : XK} {x m : Str} {p pos apos : Pos} {e o : Expr} {es : List Expr} {ta : TE} {t : TA} {pins : List (Addr × Obj)} {σ : St}
theorem run_fnAt {H : Hp} {s : Shared} {Q : VK} {us : List Value} {vs : List V} (F : FnOk X.prog X.w X.K X.mg X.base CX k f fd ps sp) (hr : Room k X.A) (hb : Binds X.K fd ps ds) (hd : Vals dvs ds) (hx : PassesAt CX X pins σ E)
    (I : Inv X pins σ H s) (r : Vals vs us) (h : sp (vs ++ dvs) H Q E) : wpAny (model X.prog X.w) X.A (call (.ref f) us) (EP X pins σ Q) X.xe s := by
  have r2 : Vals (vs ++ dvs) (us ++ ds) := r.append hd
  have hl : (us ++ ds).length = ps.length := by rw [← r2.length]; exact F.len _ _ _ _ h
  refine wpAny_call (codeAny_mono (F.run X.A X.stack s H ⟨us, []⟩ (us ++ ds) (vs ++ dvs) Q E hr I.env0 (hb s us I.kIn hl) r2 h) fun r s' hq => ?_)
  cases r with
  | error e => exact hx H s e s' I hq
  | ok fl =>
    cases fl with
    | ret u => exact I.after hq
    | next => exact False.elim hq
    | brk => exact False.elim hq
    | cont => exact False.elim hq
end

/-! ### try: e, except C as n: suite -/
abbrev Cx.marked (X : Cx) (e : Addr) : Cx := { X with A := X.A.mark (some (.ref e)), calm := false, xe := fun _ _ => False }
section
variable {X : Cx} {pins : List (Addr × Obj)} {σ : St} {H : Hp} {s : Shared} {e : Addr}
theorem Cx.Ok.marked (ok : X.Ok) (e : Addr) : (X.marked e).Ok :=
  ⟨ok.mod, ok.kind, ok.glob, ok.blt, ok.above, ok.inj, ok.has, ok.cab, (fun z => nomatch z), ok.frames, ok.stk, ok.exf, ok.bs, ok.bsz, ok.noex, ok.exfs, ok.funs, ok.frf⟩
theorem Inv.marked (I : Inv X pins σ H s) (e : Addr) : Inv (X.marked e) pins σ H s := ⟨I.ok.marked e, I.os, I.bare, I.base, I.loc, I.cell, I.free, I.freeC, I.pin, I.hok, I.len⟩
theorem Inv.unmarked (ok : X.Ok) (I : Inv (X.marked e) pins σ H s) : Inv X pins σ H s := ⟨ok, I.os, I.bare, I.base, I.loc, I.cell, I.free, I.freeC, I.pin, I.hok, I.len⟩
theorem SP.unmarked (ok : X.Ok) {D : Ends} {f : Flow} {s' : Shared} (h : SP (X.marked e) pins D f s') : SP X pins D f s' := by
  cases f with
  | next => obtain ⟨σ', H', I, q⟩ := h; exact ⟨σ', H', I.unmarked ok, q⟩
  | brk => obtain ⟨σ', H', I, q⟩ := h; exact ⟨σ', H', I.unmarked ok, q⟩
  | cont => obtain ⟨σ', H', I, q⟩ := h; exact ⟨σ', H', I.unmarked ok, q⟩
  | ret u => obtain ⟨v, σ', H', I, r, q⟩ := h; exact ⟨v, σ', H', I.unmarked ok, r, q⟩
/-- behind the flight: the state as the handler finds it -/
theorem Flown.inv {H' : Hp} {s' : Shared} {C : Addr} (I : Inv X pins σ H s) (F : Flown X.prog X.w X.stack H s e C H' s') : Inv X pins σ H' s' :=
  I.call' F.os F.un F.hok F.bare fun _ z => nomatch z
end
/-- the exception that was caught -/
def excO (e C : Addr) : HO := .ext fun h => ∃ (o : Obj) (vs : Array Value), h.get? e = some o ∧ o.cls = .ref C ∧ o.data = .fields vs
abbrev TH := Addr → Ends → St → Hp → Prop
def PH (X : Cx) (h₀ : ExceptHandler) (th : TH) : Prop :=
  ∀ (pins : List (Addr × Obj)) (D : Ends) (σ : St) (H0 : Hp) (s0 : Shared) (e C : Addr) (H : Hp) (s : Shared), Inv X pins σ H0 s0 → Flown X.prog X.w X.stack H0 s0 e C H s → th C D σ H →
    wpAny (model X.prog X.w) X.A (handleBy (.ref e) X.env [h₀]) (SP X pins D) X.xe s
theorem ps_try {X : Cx} {e : Expr} {p1 pos : Pos} {mk : XK → TE} {h₀ : ExceptHandler} {th : TH} (T : Top1 X)
    (he : ∀ (pins : List (Addr × Obj)) (σ : St) (E1 : Value → Shared → Prop) (E' : XK), PassesAt (CXE X.prog X.w) (X.wish E1) pins σ E' → PEat (X.wish E1) pins σ e (mk E')) (hh : PH X h₀ th)
    (hs : swapsWith e none p1.line X.env = pure false := by rfl) :
    PS X (.Try [.Expr e p1] [h₀] [] [] pos) (fun D σ H => mk (fun c _ H' => ∃ C, c = .ref C ∧ th C D σ H') σ H fun _ H1 => D.nx σ H1) := by
  intro pins s σ H D I h
  refine wpAny_Try_except ?_
  have fr : X.A.frames = some (X.env :: X.outer) := I.ok.frames.trans (by rw [T.st])
  have pa : PassesAt (CXE X.prog X.w) (X.wish fun ev s₁ => wpAny (model X.prog X.w) X.A (noteFrame ev X.env) (fun _ s₂ => wpAny (model X.prog X.w) X.A (setFlight ev none) (fun _ s₃ => wpAny (model X.prog X.w) X.A (handleBy ev X.env [h₀]) (SP X pins D) X.xe s₃) X.xe s₂) X.xe s₁) pins σ
      (fun c _ H' => ∃ C, c = .ref C ∧ th C D σ H') := by
    rintro H1 s1 ev s' I1 ⟨e1, C, H', rfl, F, C', hc, q⟩
    cases hc
    have I1' : Inv X pins σ H1 s1 := I1.unwish
    obtain ⟨B, t, f, he1, on⟩ := F.on
    have f' := f
    have st : (X.wish fun ev s₁ => wpAny (model X.prog X.w) X.A (noteFrame ev X.env) (fun _ s₂ => wpAny (model X.prog X.w) X.A (setFlight ev none) (fun _ s₃ => wpAny (model X.prog X.w) X.A (handleBy ev X.env [h₀]) (SP X pins D) X.xe s₃) X.xe s₂) X.xe s₁).stack = X.env :: X.outer := T.st
    rw [st] at f'
    show wpAny _ _ _ _ _ _
    refine wpAny_looks_onW fr T.fr f' fun h₄ held u4 => ?_
    refine wpAny_landsW held fun h₅ f5 u5 => ?_
    have f5' : Heap.FlyingW B X.stack e1 (.ref C) t h₅ := by rw [T.st]; exact f5
    exact hh pins D σ H1 s1 e1 C H' _ I1' (on h₅ _ f5' (u4.trans u5)) q
  have hb := he pins σ _ _ pa s H (fun _ H1 => D.nx σ H1) (I.wish _) h
  refine wpAny_execs_cons (wpAny_Expr_any (thn hb fun v s1 ⟨x, H1, I1, r1, q1⟩ => ?_) I.quiet hs)
  exact wpAny_execs_nil (wpAny_execs_nil ⟨σ, H1, I1.unwish, q1⟩)
section
variable {X : Cx} {pins : List (Addr × Obj)} {σ : St} {H H0 : Hp} {s s0 : Shared} {e C : Addr}
/-- the exception is new to the body -/
theorem Flown.new (I0 : Inv X pins σ H0 s0) (F : Flown X.prog X.w X.stack H0 s0 e C H s) : s0.heap.get? e = none := by
  cases q : s0.heap.get? e with
  | none => rfl
  | some o =>
    obtain ⟨B, t, f, k1, k2, k⟩ := F.fly
    by_cases hb : e ∈ frs X.stack
    · obtain ⟨_, ob, ho, hd⟩ := f.2.2.1.mem hb
      obtain ⟨oe, vs, h1, _, h3, _⟩ := f.first
      rw [h1] at ho
      cases ho
      exact absurd h3 (hd vs)
    · obtain ⟨o', z⟩ := k2 e o q hb
      rw [f.2.1] at z
      cases z
/-- an object that is new to the body is tracked from here on -/
theorem Inv.track {o : HO} (I : Inv X pins σ H s) (hn : H e = none) (h0 : X.s₀.heap.get? e = none) (hL : e ≠ X.env.locals) (hc : ∀ x c, X.env.cells.lookup x = some c → c ≠ e) (hp : ∀ p ∈ X.pn ++ pins, p.1 ≠ e)
    (new : ObjOk X.prog X.w (upd H e o) s.heap e o) : Inv X pins σ (upd H e o) s := by
  have ne : ∀ b ob, X.s₀.heap.get? b = some ob → b ≠ e := fun b ob q z => by rw [z, h0] at q; cases q
  refine ⟨I.ok, I.os, I.bare, ⟨I.base.keep, I.base.slot, fun b ob q n hx => by rw [upd_ne (ne b ob q)]; exact I.base.free b ob q n hx, I.base.there, fun b xs q => ?_, fun b ob u q => ?_, fun b ps q => ?_⟩, I.loc, I.cell, by rw [upd_ne hL.symm]; exact I.free,
    fun x c q => by rw [upd_ne (hc x c q)]; exact I.freeC x c q, fun p hpp => ?_, fun b u q => ?_, I.len⟩
  · have z := I.base.tups b xs q
    rw [upd_ne (ne_of_none z hn)]; exact z
  · have z := I.base.frzs b ob u q
    rw [upd_ne (ne_of_none z hn)]; exact z
  · obtain ⟨m, z⟩ := I.base.tbls b ps q
    exact ⟨m, by rw [upd_ne (ne_of_none z hn)]; exact z⟩
  · obtain ⟨h1, h2, h3⟩ := I.pin p hpp
    exact ⟨h1, by rw [upd_ne (hp p hpp)]; exact h2, h3⟩
  · by_cases hb : b = e
    · subst hb
      rw [upd_same] at q
      cases q
      exact new
    · rw [upd_ne hb] at q
      exact (I.hok b u q).stay (fun _ _ _ z => z) (fun c z => by rw [upd_ne (ne_of_none z hn)]; exact z) fun c xs z => by rw [upd_ne (ne_of_none z hn)]; exact z
/-- the frame's own object alone has changed: nothing is known of the names -/
theorem Inv.forget {h' : Heap} {m' : Str → Option Value} {t : Nat} (I : Inv X pins σ H s) (hn : h'.Ns X.env.locals m') (hs : Heap.SameBut X.env.locals s.heap h') : Inv X pins (List.replicate X.N.length none) H { s with heap := h', toks := t } := by
  obtain ⟨m, ⟨oL, _, _, hoL, _⟩, _⟩ := id I.loc
  refine ⟨I.ok, I.os, I.bare, ⟨fun b o e n hb hx => ?_, fun b o e n hb hx => ?_, I.base.free, fun b o e hx => ?_, I.base.tups, I.base.frzs, I.base.tbls⟩, ⟨_, hn, fun j y v' e1 e2 e3 => ?_⟩, fun y c e => ?_, I.free, I.freeC, fun p hp => ?_, fun b ob e => ?_, by simp⟩
  · exact (hs.2 b (Nat.ne_of_lt (Nat.lt_of_lt_of_le (Heap.lt_size e) I.ok.above))).trans (I.base.keep b o e n hb hx)
  · obtain ⟨sl, e1⟩ := I.base.slot b o e n hb hx
    exact ⟨sl, (hs.2 b (Nat.ne_of_lt (Nat.lt_of_lt_of_le (Heap.lt_size e) I.ok.above))).trans e1⟩
  · obtain ⟨o', e1⟩ := I.base.there b o e hx
    exact ⟨o', (hs.2 b (Nat.ne_of_lt (Nat.lt_of_lt_of_le (Heap.lt_size e) I.ok.above))).trans e1⟩
  · rw [List.getElem?_replicate] at e2
    split at e2 <;> simp at e2
  · obtain ⟨w', z⟩ := I.cell y c e
    exact ⟨w', z.sameBut hs (I.cne y c e)⟩
  · obtain ⟨e, n, ne, nf, d⟩ := I.pin p hp
    exact ⟨(hs.2 p.1 ne).trans e, n, ne, nf, d⟩
  · refine (I.hok b ob e).stay (fun c w' hc q => (hs.2 c ?_).trans q) (fun _ q => q) fun _ _ q => q
    rintro rfl
    rcases hc with z | z
    · rw [← z, I.free] at e; cases e
    · rw [I.free] at z; cases z
end
/-- the class that the clause names takes it -/
structure Takes (K : PySem.W.Frag) (C D : Addr) : Prop where
  m : PySem.W.exmOne K (.ref C) (.ref D) = some true
/-- except X as n: the suite ends in a return -/
theorem ph_as {X : Cx} {x n : Str} {np hpos : Pos} {b₀ : Stmt} {suite : List Stmt} {i : Nat} {D0 : Addr} {ts : TS} (T : Top1 X) (hg : Gl X x) (hm : X.mg x = some (.ref D0)) (hN : X.N.Nodup) (hi : X.N[i]? = some n) (hl : X.env.scope.names.lookup n = some .local)
    (hs : ∀ e, PSs (X.marked e) (b₀ :: suite) ts) (hd : (x == ("__debug__" : Str)) = false := by decide) :
    PH X (.ExceptHandler (some (.Name x np)) (some n) (b₀ :: suite) hpos) (fun C D σ H => Takes X.K C D0 ∧ ∀ e, H e = none → ts { nx := fun _ _ => False, rt := D.rt } (σ.set i (some (.ref e))) (upd H e (excO e C))) := by
  rintro pins D σ H0 s0 e C H s I0 F ⟨tk, q⟩
  have fr : X.A.frames = some (X.env :: X.outer) := I0.ok.frames.trans (by rw [T.st])
  have I : Inv X pins σ H s := F.inv I0
  have Im := I.marked e
  obtain ⟨B, t, f, he1, on⟩ := F.on
  obtain ⟨oe, hoe, hce⟩ := f.there
  have LT : PySem.W.Looks (model X.prog X.w) s.heap (typeOf (.ref e)) (.ref C) := by
    rw [← hce]
    exact (PySem.W.Looks.ld hoe).andThen .now
  have nev : ∀ {α : Type} {t : Sem α} {Q : α → Shared → Prop} {A : Around} {E : Value → Shared → Prop} {s : Shared}, wpAny (model X.prog X.w) A t Q (fun _ _ => False) s → wpAny (model X.prog X.w) A t Q E s := fun h => wpAny_mono h (fun _ _ x => x) fun _ _ z => z.elim
  refine wpAny_handleBy_cons (codeAny_handlers_test (nev (ld_glob Im hg hm ?_ hd))) (by intro z; cases z)
  refine nev ((PySem.W.exm_one I.kIn LT tk.m).here ?_)
  show codeAny _ _ _ _ _
  refine codeAny_handlers_suite_as (nev (lands_againW f fun h₆ f6 u6 => ?_))
  have F6 := on h₆ s.toks f6 u6
  have I6 : Inv X pins σ H { s with heap := h₆ } := F6.inv I0
  obtain ⟨o6, vs6, g1, g2, g3, g4⟩ := f6.first
  have new := F.new I0
  have n0 : X.s₀.heap.get? e = none := by
    cases z : X.s₀.heap.get? e with
    | none => rfl
    | some ob =>
      obtain ⟨o', z2⟩ := I0.base.there e ob z (by rw [T.ex]; simp)
      rw [new] at z2; cases z2
  have nL : e ≠ X.env.locals := fun z => by
    obtain ⟨m, ⟨oL, _, _, hoL, _⟩, _⟩ := id I0.loc
    rw [← z, new] at hoL; cases hoL
  have nC : ∀ y c, X.env.cells.lookup y = some c → c ≠ e := fun y c hc z => by
    obtain ⟨v, o, ho, _⟩ := I0.cell y c hc
    rw [z, new] at ho; cases ho
  have nP : ∀ p ∈ X.pn ++ pins, p.1 ≠ e := fun p hp z => by
    have := (I0.pin p hp).1
    rw [z, new] at this; cases this
  have I7 : Inv X pins σ (upd H e (excO e C)) { s with heap := h₆ } := I6.track he1 n0 nL nC nP
    ⟨⟨o6, vs6, g1, g2, g3⟩, ⟨o6, g1⟩, fun h1 h2 ⟨o, vs, z1, z2, z3⟩ k => ⟨o, vs, k _ z1, z2, z3⟩⟩
  refine nev (store_ok (v := V.ref e) I7 hN hi (.inl hl) rfl (fun s8 I8 => ?_) (.inr hl))
  have hsu := hs e pins s8 _ _ _ (I8.marked e) (q e he1)
  refine wpAny_mono hsu (fun fl s9 z => ?_) fun _ _ z => z.elim
  cases fl with
  | next => obtain ⟨_, _, _, z⟩ := z; exact z.elim
  | brk => obtain ⟨_, _, _, z⟩ := z; exact z.elim
  | cont => obtain ⟨_, _, _, z⟩ := z; exact z.elim
  | ret u =>
    obtain ⟨v, σ9, H9, I9, r9, q9⟩ := z
    have I9 := I9.unmarked I0.ok
    obtain ⟨m9, hm9, _⟩ := id I9.loc
    refine nev (wpAny_nameGoes hl hm9 (by rw [I0.ok.kind]; rfl) fun h' m' hn' hs' => ?_)
    exact ⟨v, _, H9, I9.forget hn' hs', r9, q9⟩
end L2

set_option Elab.async false
set_option linter.all false
set_option maxRecDepth 100000
set_option maxHeartbeats 4000000
namespace L2
open PySem PySem.Spec PyProof.Rows
/-! ### isinstance of a caught exception -/
structure ExcK (K : PySem.W.Frag) (C : Addr) : Prop where
  ga : PySem.W.findIn K (.ref C) "__getattribute__" = some (some (.builtin "BaseException.__getattribute__"))
  gt : PySem.W.findIn K (.ref C) "__getattr__" = some none
  cl : PySem.W.findIn K (.ref C) "__class__" = some (some (.builtin "object.__class__"))
  be : PySem.W.subIn K (.ref C) (.type "BaseException") = some true
  ob : PySem.W.mroIn K C (.type "object") = some true
  isc : (PySem.W.clsIn K C).isSome = true
section
variable {prog : Program} {w : World} {A : Around} {E : Value → Shared → Prop} {s : Shared} {K : PySem.W.Frag} {e C : Addr} {o : Obj}
theorem exc_ty (hx : s.heap.get? e = some o) (hc : o.cls = .ref C) {M : Model} : PySem.W.Looks M s.heap (typeOf (.ref e)) (.ref C) := by
  rw [← hc]
  exact (PySem.W.Looks.ld hx).andThen .now
end
end L2
namespace PySem.W
open PySem PySem.Calls PySem.Spec PyProof.Rows L2 Builtin Builtin.ObjectAttr Builtin.Getset_descriptor
section
variable {prog : Program} {w : World} {A : Around} {E : Value → Shared → Prop} {s : Shared} {K : Frag} {e C : Addr} {o : Obj}
theorem exc_get {R : Result → Shared → Prop} {tp : Value} (XK : ExcK K C) (X : K.In s.heap) (hx : s.heap.get? e = some o) (hc : o.cls = .ref C) (hq : R (.ok (.ret (.ref C))) s) :
    codeAny (model prog w) A (.call (.builtin "getset_descriptor.__get__") ⟨[.builtin "object.__class__", .ref e, tp], []⟩) R s := by
  have L0 := exc_ty (M := model prog w) hx hc
  have L1 := looks_mroIn (M := model prog w) X XK.ob
  obtain ⟨hh, g, dr, t, os⟩ := s
  refine codeAny_call_builtin KF.slot_gs.plain KF.entry_gs (KF.slot_gs.check _ _ _ _ _ _ _ _ KF.type_class (KF.args_gs _ _ _) ?_)
  unfold Builtin.«getset_descriptor.__get__» descrGet
  rw [dga_obj]
  refine wpAny_bind (wpAny_pure ?_)
  unfold descrGetter descrCheckInstance descrNameAndClass isInstance
  simp only [KF.owner_class]
  repeat lk
  refine ⟨Code.quiet_builtin _ (by decide +kernel), codeAny_builtin KF.entry_class ?_⟩
  unfold Builtin.«object.__class__» shownTypeOf
  repeat lk
  exact hq
theorem exc_entry {tk : Tok} {Q : Fin → Shared → Prop} (XK : ExcK K C) (X : K.In s.heap) (hx : s.heap.get? e = some o) (hc : o.cls = .ref C) (hq : Q (.done (.ret (.ref C))) s) :
    wpAny (model prog w) A (Builtin.«object.__getattribute__» ⟨[.ref e, .str "__class__" tk], []⟩) Q E s := by
  have L0 := exc_ty (M := model prog w) hx hc
  have L3 := looks_findIn (M := model prog w) X XK.cl
  obtain ⟨hh, g, d, t, os⟩ := s
  have hT5 : (⟨hh, g, d, t, os⟩ : Shared).TypeIs (.builtin "object.__class__") "getset_descriptor" := PySem.F.typeOf_object_class
  have f5 := PySem.F.typeOf_object_class
  have f6 := PySem.F.slot_gs_get.lookup
  have f7 := PySem.F.slot_gs_set.lookup
  repeat (any_goals (first | assumption | with_reducible refine Looks.at L0 ?_ | with_reducible refine Looks.at L3 ?_ | wp_step))
  refine exc_get (s := ⟨hh, g, d, t, os⟩) XK X hx hc ?_
  repeat (any_goals (first | assumption | wp_step))
theorem exc_check {nameV : Value} {Q : Unit → Shared → Prop} (XK : ExcK K C) (X : K.In s.heap) (hx : s.heap.get? e = some o) (hc : o.cls = .ref C) (hq : Q () s) : wpAny (model prog w) A (checkBuiltinCall "BaseException.__getattribute__" ⟨[.ref e, nameV], []⟩) Q E s := by
  have hk : builtinKind "BaseException.__getattribute__" = some .slot := by decide +kernel
  have hsplit : splitId "BaseException.__getattribute__" = some ("BaseException", "__getattribute__") := by decide +kernel
  have ha := PySem.F.args_bexc_ga (.ref e) nameV
  have L0 := exc_ty (M := model prog w) hx hc
  have L4 := looks_subIn (M := model prog w) X XK.be
  obtain ⟨hh, g, d, t, os⟩ := s
  simp only [checkBuiltinCall, hk, hsplit]
  refine wpAny_bind ?_
  unfold isInstance
  repeat (first | with_reducible refine Looks.at L0 ?_ | with_reducible refine Looks.at L4 ?_ | wp_step)
  exact hq
theorem exc_class {Q : Option Value → Shared → Prop} (XK : ExcK K C) (X : K.In s.heap) (hx : s.heap.get? e = some o) (hc : o.cls = .ref C) (hq : Q (some (.ref C)) { s with toks := s.toks + 1 }) :
    wpAny (model prog w) A (getAttr? (.ref e) "__class__") Q E s := by
  have L1 := looks_findIn (M := model prog w) X XK.ga
  have L2 := looks_findIn (M := model prog w) X XK.gt
  have LT := exc_ty (M := model prog w) hx hc
  obtain ⟨h, g, d, t, os⟩ := s
  have f3 := PySem.F.excAttr_ValueError.ga.bind (.ref e)
  have hx2 : (Value.builtin "BaseException.__getattribute__" == Value.builtin "object.__getattribute__") = false := by decide +kernel
  have hx1 : (onTheHeap (Value.ref C) && Value.builtin "BaseException.__getattribute__" == Value.builtin "object.__getattribute__") = false := by rw [hx2]; rfl
  unfold getAttr? getAttrBy? getAttrBy
  refine wpAny_bind (wpAny_mkText (wpAny_bind (wpAny_attempt (wpAny_holding (wpAny_bind (LT.at (wpAny_bind (L1.at ?_))))))))
  dsimp only
  rw [hx1, if_neg Bool.false_ne_true]
  unfold getAttrByItsOwn
  repeat (any_goals (first | assumption | with_reducible refine Looks.at L2 ?_ | wp_step))
  refine codeAny_call_builtin PySem.F.excAttr_ValueError.ga.plain PySem.F.entry_bexc_ga (exc_check (s := ⟨h, g, d, t + 1, os⟩) XK X hx hc (exc_entry (s := ⟨h, g, d, t + 1, os⟩) XK X hx hc ?_))
  repeat (any_goals (first | assumption | wp_step))
theorem kitx_exc (XK : ExcK K C) : KitX K (.ref e) (.ref C) (fun h => ∃ o, h.get? e = some o ∧ o.cls = .ref C) where
  ty := fun M h X ⟨o, h1, h2⟩ => by
    rw [← h2]
    exact (Looks.ld h1).andThen .now
  it := fun M h X _ => by
    obtain ⟨cd, hcd⟩ := Option.isSome_iff_exists.mp XK.isc
    unfold clsIn at hcd
    split at hcd
    · rename_i c' d' cd' sl' ho
      intro A' Q' E' s' k q
      unfold isType loadHead
      exact wpAny_bind (wpAny_loadPart (k _ _ (X _ _ ho)) (wpAny_pure q))
    · cases hcd
  ne := fun h tp dd its n sl X htp => by
    obtain ⟨cd, hcd⟩ := Option.isSome_iff_exists.mp XK.isc
    refine Bool.eq_false_iff.mpr fun q => ?_
    have e : C = tp := Value.ref.inj (beq_iff_eq.mp q)
    subst e
    unfold clsIn at hcd
    split at hcd
    · rename_i c' d' cd' sl' ho
      have z := (X _ _ ho).symm.trans htp
      cases z
    · cases hcd
  ca := fun X ⟨o, h1, h2⟩ k => exc_class XK X h1 h2 k
end
end PySem.W
namespace L2
open PySem PySem.Spec PyProof.Rows
/-- the type of a value, an exception's class too -/
inductive TyE (K : PySem.W.Frag) (H : Hp) : V → Value → Prop where
  | ty {x : V} {t : Value} (h : TyOf K H x t) : TyE K H x t
  | exc {e C : Addr} (h : H e = some (excO e C)) (k : ExcK K C) : TyE K H (.ref e) (.ref C)
section
variable {X : Cx}
theorem exc_at {pins : List (Addr × Obj)} {σ : St} {H : Hp} {s : Shared} {e C : Addr} (I : Inv X pins σ H s) (h : H e = some (excO e C)) : ∃ o, s.heap.get? e = some o ∧ o.cls = .ref C := by
  obtain ⟨⟨o, vs, h1, h2, _⟩, _⟩ := (show ObjOk X.prog X.w H s.heap e (excO e C) from I.hok e _ h)
  exact ⟨o, h1, h2⟩
/-- isinstance(x, c) -/
theorem call_isi : CallR X (.builtin "isinstance") (fun xs H Q => ∃ x c t cv b, xs = [x, c] ∧ TyE X.K H x t ∧ (c = .ref cv ∧ PySem.W.kitOne X.K t (.ref cv) = some b) ∧ Q (.bl b) H) := by
  intro pins s σ H xs us Q I r h
  obtain ⟨x, c, t, cv, b, rfl, ty, ⟨rfl, e⟩, q⟩ := h
  obtain ⟨u, w', rfl, ru, rw'⟩ := vals2 r
  obtain rfl : w' = Value.ref cv := rw'
  cases ty with
  | ty h => exact isinst_ok I ru h e fun tk => ⟨.bl b, H, I.tok _, rfl, q⟩
  | exc h k =>
    obtain rfl := (show u = Value.ref _ from ru)
    exact PySem.W.kia_one (PySem.W.kitx_exc k) I.kIn (exc_at I h) e (fun z => nomatch z) fun tk => ⟨.bl b, H, I.tok _, rfl, q⟩
theorem call_isiT : CallR X (.builtin "isinstance") (fun xs H Q => ∃ x n t b, xs = [x, .ty n] ∧ TyE X.K H x t ∧ PySem.W.kitOne X.K t (.type n) = some b ∧ Q (.bl b) H) := by
  intro pins s σ H xs us Q I r h
  obtain ⟨x, n, t, b, rfl, ty, e, q⟩ := h
  obtain ⟨u, w', rfl, ru, rw'⟩ := vals2 r
  obtain rfl : w' = Value.type n := rw'
  cases ty with
  | ty h => exact isinst_ok I ru h e fun tk => ⟨.bl b, H, I.tok _, rfl, q⟩
  | exc h k =>
    obtain rfl := (show u = Value.ref _ from ru)
    exact PySem.W.kia_one (PySem.W.kitx_exc k) I.kIn (exc_at I h) e (fun z => nomatch z) fun tk => ⟨.bl b, H, I.tok _, rfl, q⟩
/-- isinstance(e, (C1, ..)) of a caught exception -/
theorem call_isiX : CallR X (.builtin "isinstance") (fun xs H Q => ∃ (e C p : Addr) (cs : List Addr) (b : Bool), xs = [.ref e, .ref p] ∧ H e = some (excO e C) ∧ ExcK X.K C ∧ H p = some (.tup (cs.map V.ref)) ∧ PySem.W.kitAny X.K (.ref C) (cs.map Value.ref) = some b ∧ Q (.bl b) H) := by
  intro pins s σ H xs us Q I r h
  obtain ⟨e, C, p, cs, b, rfl, he, k, hp, ek, q⟩ := h
  obtain ⟨u, w', rfl, ru, rw'⟩ := vals2 r
  obtain rfl := (show u = Value.ref e from ru)
  obtain rfl := (show w' = Value.ref p from rw')
  obtain ⟨its, hv, ⟨ob, h1, h2, n, h3⟩, hsz⟩ := I.tuple (SqT.of hp)
  have ei : its = cs.map Value.ref := by
    clear h1 h2 h3 hp ek hsz
    induction cs generalizing its with
    | nil => cases hv; rfl
    | cons c cs ih =>
      cases hv with
      | cons r1 r2 =>
        obtain rfl := (show _ = Value.ref c from r1)
        rw [List.map_cons, ih _ r2]
  subst ei
  obtain ⟨oc, od, dat, osl⟩ := ob
  dsimp only at h2 h3
  subst h2 h3
  exact PySem.W.kia_tup (PySem.W.kitx_exc k) I.kIn (exc_at I he) h1 ek (fun z => nomatch z) fun tk => ⟨.bl b, H, I.tok _, rfl, q⟩
end
end L2

set_option Elab.async false
set_option linter.all false
set_option maxRecDepth 100000
set_option maxHeartbeats 4000000
namespace PySem.W
open PySem PyProof.Rows
theorem ns_none_ofK {K : Frag} {N : Addr} {c : Value} {d : Option Addr} {es : Array DictEntry} {n : Nat} {sl : Array (Option Value)} {x : Str} (l : K.lookup N = some ⟨c, d, .dict es n, sl⟩) (e : nsIn K N x = some none) : nsFind es x = none := by
  unfold nsIn at e
  rw [l] at e
  dsimp only at e
  split at e
  · cases e
  · rename_i he
    unfold nsFind findBy
    rw [← Array.find?_toList, he]
    rfl
end PySem.W
namespace L2
open PySem PySem.Spec PyProof.Rows
/-! ### ints of sixty figures -/
def CMulB (i j : Int) : Prop := (-(2 ^ 250) < i ∧ i < 2 ^ 250) ∧ (-(2 ^ 250) < j ∧ j < 2 ^ 250)
def CDivB (_ j : Int) : Prop := 0 < j ∧ j < 2 ^ 250
theorem CMulB.ok {i j : Int} (h : CMulB i j) : IntMulOk i j := by
  have key : ∀ {i : Int}, -(2 ^ 250) < i → i < 2 ^ 250 → Builtin.Int.intBits i ≤ 2 ^ 20 := fun {i} h1 h2 =>
    Nat.le_trans (PyProof.Rows.intBits_le (k := 250) (by omega)) (by decide)
  exact IntMulOk.of_bits (key h.1.1 h.1.2) (key h.2.1 h.2.2)
section
variable {X : Cx}
theorem op_mulB : OpR X (binaryOp .Mult) (rI CMulB fun i j => .int (i * j)) := opI fun _ _ _ _ _ _ _ hc q => mul_int q hc.ok
theorem op_fdivB : OpR X (binaryOp .FloorDiv) (rI CDivB fun i j => .int (i / j)) := opI fun i j _ _ _ _ _ hc q => by
  have h1 : (0 : Int) < j := hc.1
  have h2 : j < 2 ^ 250 := hc.2
  refine floordiv_int (by omega) (by rw [Int.fdiv_eq_ediv_of_nonneg i (by omega)]; exact q) (.inl (PyProof.noPylong_of_log2 ?_))
  have h3 : j.natAbs.log2 < 250 := (Nat.log2_lt (by omega)).mpr (by omega)
  omega
theorem pe_powc {i j v : Int} {k1 k2 p1 p2 pos} (hv : i ^ j.toNat = v) (hc : 0 ≤ j ∧ j ≤ 1000000 ∧ i.natAbs < 2 ^ 64) : PE X (.BinOp (.Constant (.int i) k1 p1) .Pow (.Constant (.int j) k2 p2) pos) (tC (.int v)) := by
  intro pins s σ H Q I h
  have := pe_op (X := X) (pos := pos) op_pow (pe_int (i := i) (j := k1) (pos := p1)) (pe_int (i := j) (j := k2) (pos := p2)) pins s σ H Q I
  refine this ⟨i, j, rfl, rfl, hc, ?_⟩
  show Q (.int (i ^ j.toNat)) H
  rw [hv]; exact h
end
/-! ### the readings, a step a rule -/
section
variable {K : PySem.W.Frag} {i j : Nat} {σ σ' : St} {H H' : Hp} {Q : VK} {B : Bool → Hp → Prop} {v x y : V} {ta tb tc te : TE} {t u : TT} {ts us : TS} {r : R2} {D : Ends} {C : Int → Int → Prop} {g : Int → Int → V} {a b : Int} {ar : TA} {L : List V → Hp → Prop}
theorem rd_start {N : List Str} {vs : List V} (h : start N vs = σ) (q : ts D σ H) : ts D (start N vs) H := by rw [h]; exact q
theorem rd_var (h : σ[i]? = some (some v)) (q : Q v H) : tVar i σ H Q := ⟨v, h, q⟩
theorem rd_c (q : Q v H) : tC v σ H Q := q
theorem rd_op (h : ta σ H fun x H1 => tb σ H1 fun y H2 => r x y H2 Q) : tOp r ta tb σ H Q := h
theorem rd_un {r : V → Hp → VK → Prop} (h : ta σ H fun x H1 => r x H1 Q) : tUn r ta σ H Q := h
theorem rd_U {g : Int → V} (q : Q (g a) H) : rU g (.int a) H Q := ⟨a, rfl, q⟩
theorem rd_I0 (q : Q (g a b) H) : rI0 g (.int a) (.int b) H Q := ⟨a, b, rfl, rfl, q⟩
theorem rd_I (c : C a b) (q : Q (g a b) H) : rI C g (.int a) (.int b) H Q := ⟨a, b, rfl, rfl, c, q⟩
theorem dec_intP : decide (V.int a = V.int b) = decide (a = b) := by simp
theorem rd_eqI (q : Q (.bl (decide (a = b))) H) : rEq (.int a) (.int b) H Q := ⟨rfl, by rw [dec_intP]; exact q⟩
theorem rd_test (h : te σ H fun x H' => ∃ k, x = .bl k ∧ B k H') : tTest te σ H B := h
theorem rd_tB (h : te σ H fun x H' => ∃ k, x = .bl k ∧ B k H') : tB te σ H B := h
theorem rd_k {b : Bool} {B : Bool → Prop} (q : B b) : ∃ k, V.bl b = .bl k ∧ B k := ⟨b, rfl, q⟩
theorem rd_and (h : t σ H fun c H1 => if c = true then u σ H1 B else B false H1) : tAnd t u σ H B := h
theorem rd_or (h : t σ H fun c H1 => if c = true then B true H1 else u σ H1 B) : tOr t u σ H B := h
theorem rd_not (h : t σ H fun c H1 => B (!c) H1) : tNot t σ H B := h
theorem rd_andV (h : ta σ H fun x H1 => ∃ c, x = .bl c ∧ if c = true then tb σ H1 Q else Q (.bl false) H1) : tAndV ta tb σ H Q := h
theorem rd_notV (h : ta σ H fun x H1 => ∃ c, x = .bl c ∧ Q (.bl (!c)) H1) : tNotV ta σ H Q := h
theorem rd_seq (h : ts { D with nx := us D } σ H) : tSeq ts us D σ H := h
theorem rd_next (h : D.nx σ H) : tNext D σ H := h
theorem rd_asg {g : TG} (h : te σ H fun x H1 => g x σ H1 D.nx) : tAsg te g D σ H := h
theorem rd_set {R : St → Hp → Prop} (e : σ.set i (some v) = σ') (h : R σ' H) : gName i v σ H R := by
  unfold gName; rw [e]; exact h
theorem rd_drop (h : te σ H fun _ H1 => D.nx σ H1) : tDrop te D σ H := h
theorem rd_ret (h : te σ H D.rt) : tRet te D σ H := h
theorem rd_ifS (h : t σ H fun b H1 => if b = true then ts D σ H1 else us D σ H1) : tIfS t ts us D σ H := h
theorem rd_nil (h : L [] H) : tNil σ H L := h
theorem rd_cons (h : ta σ H fun x H1 => ar σ H1 fun xs H2 => L (x :: xs) H2) : tCons ta ar σ H L := h
theorem rd_call {sp : Sp} {dvs : List V} {E : XK} (h : ar σ H fun vs H1 => sp (vs ++ dvs) H1 Q E) : tCall sp dvs E ar σ H Q := h
theorem rd_cb {r : List V → Hp → VK → Prop} (h : ar σ H fun vs H1 => r vs H1 Q) : tCB r ar σ H Q := h
theorem rd_lst (h : ar σ H fun xs H1 => xs.length ≤ sizeLine ∧ ∀ p, H1 p = none → Q (.ref p) (upd H1 p (.lst xs))) : tLst ar σ H Q := h
theorem rd_tup (h : ar σ H fun xs H1 => xs.length ≤ sizeLine ∧ ∀ p, H1 p = none → Q (.ref p) (upd H1 p (.tup xs))) : tTup ar σ H Q := h
end
theorem rd_iteP {p : Prop} [Decidable p] {A B : Prop} (h : p) (q : A) : if decide p = true then A else B := by rw [decide_eq_true h]; exact iteT q
theorem rd_iteN {p : Prop} [Decidable p] {A B : Prop} (h : ¬ p) (q : B) : if decide p = true then A else B := by rw [decide_eq_false h]; exact iteF q
theorem rd_ite {p : Prop} [Decidable p] {A B : Prop} (h1 : p → A) (h2 : ¬ p → B) : if decide p = true then A else B := by
  by_cases h : p
  · exact rd_iteP h (h1 h)
  · exact rd_iteN h (h2 h)
theorem rd_iteTn {A B : Prop} (h : B) : if (!true) = true then A else B := iteF h
theorem rd_iteFn {A B : Prop} (h : A) : if (!false) = true then A else B := iteT h
theorem bt_len : bootBuiltins "len" = some (.builtin "len") := by decide +kernel
theorem bt_max : bootBuiltins "max" = some (.builtin "max") := by decide +kernel
theorem bt_min : bootBuiltins "min" = some (.builtin "min") := by decide +kernel
theorem bt_isinstance : bootBuiltins "isinstance" = some (.builtin "isinstance") := by decide +kernel
theorem bt_int : bootBuiltins "int" = some (.type "int") := by decide +kernel
theorem bt_bool : bootBuiltins "bool" = some (.type "bool") := by decide +kernel
theorem bt_enumerate : bootBuiltins "enumerate" = some (.type "enumerate") := by decide +kernel
theorem bt_ValueError : bootBuiltins "ValueError" = some (.type "ValueError") := by decide +kernel
/-- an own class under ValueError that has no method of its own -/
theorem excC_of {K : PySem.W.Frag} {C : Addr} (q : PySem.W.excIn K C bmVE "ValueError.__new__" = true) : ExcC K C := by
  unfold PySem.W.excIn at q
  split at q
  · rename_i dd cd sl ho
    split at q
    · rename_i C' bm k0 k1 k2 k3 n k5 hm hs
      simp only [Bool.and_eq_true, beq_iff_eq, Bool.not_eq_true'] at q
      obtain ⟨⟨⟨⟨⟨rfl, rfl⟩, hdel⟩, ht⟩, hok⟩, hni⟩ := q
      obtain ⟨nm, bs, mro, ns, qn, hd, sn, sub, ab, col, del⟩ := cd
      dsimp only at hm hdel hok hni
      subst hm hdel
      have hsl : sl = #[k0, k1, k2, k3, some (.builtin "ValueError.__new__"), k5] := by
        obtain ⟨l⟩ := sl
        simp only at hs
        rw [hs]
      subst hsl
      obtain ⟨es, n', c, d, s2, lN, sk⟩ : ∃ es n' c d s2, K.lookup ns = some ⟨c, d, .dict es n', s2⟩ ∧ strKeysB es = true := by
        unfold PySem.W.nsOkIn at hok
        split at hok
        · rename_i c d es n' s2 ho2
          refine ⟨es, n', c, d, s2, ho2, ?_⟩
          unfold strKeysB
          rw [List.all_eq_true]
          intro e he
          have := Array.all_eq_true'.mp hok e (by simpa using he)
          exact this
        · cases hok
      exact ⟨nm, qn, ns, bs, bm, hd, sn, sub, ab, col, dd, k0, k1, k2, k3, k5, nsFind es, ho, fun h X => ns_of_K lN sk h X, PySem.W.ns_none_ofK lN hni, fun h X => PySem.W.tail_of_in X ht⟩
    · cases q
  · cases q
/-! ### a join: what holds behind a statement, said once -/
def tSeqJ (t u : TS) : TS := fun D σ H => ∃ J : St → Hp → Prop, t { D with nx := J } σ H ∧ ∀ σ' H', J σ' H' → u D σ' H'
theorem pss_join {X : Cx} {st : Stmt} {rest : List Stmt} {t u : TS} (h1 : PS X st t) (h2 : PSs X rest u) : PSs X (st :: rest) (tSeqJ t u) := by
  intro pins s σ H D I h
  obtain ⟨J, a, b⟩ := h
  refine wpAny_execs_cons (thn (h1 pins s σ H _ I a) fun f s1 q => ?_)
  cases f with
  | next =>
    obtain ⟨σ', H', I', q'⟩ := q
    exact h2 pins s1 σ' H' D I' (b σ' H' q')
  | brk => exact q
  | cont => exact q
  | ret u => exact q
theorem rd_join {σ : St} {H : Hp} {D : Ends} {ts us : TS} (J : St → Hp → Prop) (h1 : ts { D with nx := J } σ H) (h2 : ∀ σ' H', J σ' H' → us D σ' H') : tSeqJ ts us D σ H := ⟨J, h1, h2⟩
/-! ### isinstance, the part K named -/
section
variable {X : Cx} (K : PySem.W.Frag)
theorem call_isiK (e : X.K = K := by rfl) : CallR X (.builtin "isinstance") (fun xs H Q => ∃ x c t cv b, xs = [x, c] ∧ TyE K H x t ∧ (c = .ref cv ∧ PySem.W.kitOne K t (.ref cv) = some b) ∧ Q (.bl b) H) := by
  subst e; exact call_isi
theorem call_isiTK (e : X.K = K := by rfl) : CallR X (.builtin "isinstance") (fun xs H Q => ∃ x n t b, xs = [x, .ty n] ∧ TyE K H x t ∧ PySem.W.kitOne K t (.type n) = some b ∧ Q (.bl b) H) := by
  subst e; exact call_isiT
theorem call_isiXK (e : X.K = K := by rfl) : CallR X (.builtin "isinstance") (fun xs H Q => ∃ (e C p : Addr) (cs : List Addr) (b : Bool), xs = [.ref e, .ref p] ∧ H e = some (excO e C) ∧ ExcK K C ∧ H p = some (.tup (cs.map V.ref)) ∧ PySem.W.kitAny K (.ref C) (cs.map Value.ref) = some b ∧ Q (.bl b) H) := by
  subst e; exact call_isiX
end
/-! ### the usual handler: which refusal it is -/
theorem same_new {H : Hp} {p : Addr} (h : H p = none) (o : HO) : Same H (upd H p o) := fun b u q => by rw [upd_ne (ne_of_none q h)]; exact q
abbrev rIsiX (K : PySem.W.Frag) : List V → Hp → VK → Prop := fun xs H Q => ∃ (e C p : Addr) (cs : List Addr) (b : Bool), xs = [.ref e, .ref p] ∧ H e = some (excO e C) ∧ ExcK K C ∧ H p = some (.tup (cs.map V.ref)) ∧ PySem.W.kitAny K (.ref C) (cs.map Value.ref) = some b ∧ Q (.bl b) H
abbrev rIsi (K : PySem.W.Frag) : List V → Hp → VK → Prop := fun xs H Q => ∃ x c t cv b, xs = [x, c] ∧ TyE K H x t ∧ (c = .ref cv ∧ PySem.W.kitOne K t (.ref cv) = some b) ∧ Q (.bl b) H
abbrev rIsiT (K : PySem.W.Frag) : List V → Hp → VK → Prop := fun xs H Q => ∃ x n t b, xs = [x, .ty n] ∧ TyE K H x t ∧ PySem.W.kitOne K t (.type n) = some b ∧ Q (.bl b) H
theorem rd_caught {K : PySem.W.Frag} {C e c1 c2 c3 c4 : Addr} {i j : Nat} {σ : St} {H : Hp} {D : Ends} (hk : ExcK K C) (ka : PySem.W.kitAny K (.ref C) ([c1, c2, c3, c4].map Value.ref) = some false) (ks : PySem.W.kitOne K (.ref C) (.ref C) = some true)
    (kv : PySem.W.kitOne K (.ref C) (.type "ValueError") = some true) (he : H e = none) (hi : i < σ.length) (hj : j < σ.length) (hij : i ≠ j) (q : ∀ H', Same H H' → D.rt (.bl true) H') :
    tSeq (tAsg (tCB (rIsiX K) (tCons (tVar i) (tCons (tTup (tCons (tC (V.ref c1)) (tCons (tC (V.ref c2)) (tCons (tC (V.ref c3)) (tCons (tC (V.ref c4)) tNil))))) tNil))) (gName j))
      (tRet (tAndV (tCB (rIsi K) (tCons (tVar i) (tCons (tC (V.ref C)) tNil))) (tAndV (tCB (rIsiT K) (tCons (tVar i) (tCons (tC (V.ty "ValueError")) tNil))) (tNotV (tVar j))))) D (σ.set i (some (V.ref e))) (upd H e (excO e C)) := by
  have g1 : (σ.set i (some (V.ref e)))[i]? = some (some (V.ref e)) := List.getElem?_set_self hi
  have g2 : ((σ.set i (some (V.ref e))).set j (some (V.bl false)))[i]? = some (some (V.ref e)) := by rw [List.getElem?_set_ne (Ne.symm hij)]; exact g1
  have g3 : ((σ.set i (some (V.ref e))).set j (some (V.bl false)))[j]? = some (some (V.bl false)) := List.getElem?_set_self (by rw [List.length_set]; exact hj)
  refine ⟨_, g1, (by show 4 ≤ sizeLine; decide), fun p hp => ?_⟩
  have ne : e ≠ p := ne_of_none (H := upd H e (excO e C)) upd_same hp
  have s1 : Same H (upd (upd H e (excO e C)) p (.tup [V.ref c1, V.ref c2, V.ref c3, V.ref c4])) := (same_new he _).trans (same_new hp _)
  have he2 : (upd (upd H e (excO e C)) p (.tup [V.ref c1, V.ref c2, V.ref c3, V.ref c4])) e = some (excO e C) := by rw [upd_ne ne]; exact upd_same
  refine ⟨e, C, p, [c1, c2, c3, c4], false, rfl, he2, hk, upd_same, ka, ?_⟩
  refine ⟨_, g2, _, _, _, C, true, rfl, .exc he2 hk, ⟨rfl, ks⟩, true, rfl, iteT ?_⟩
  refine ⟨_, g2, _, _, _, true, rfl, .exc he2 hk, kv, true, rfl, iteT ?_⟩
  exact ⟨_, g3, false, rfl, q _ s1⟩
/-! ### rules with the part K named -/
section
variable {X : Cx} (K : PySem.W.Frag)
theorem ix_listK (e : X.K = K := by rfl) : IxR X (rIxL K) := by subst e; exact ix_list
theorem ix_tupK (e : X.K = K := by rfl) : IxR X (rIxT K) := by subst e; exact ix_tup
theorem sl_listK (e : X.K = K := by rfl) : SlR X (rSlL K) := by subst e; exact sl_list
def rLen (K : PySem.W.Frag) : List V → Hp → VK → Prop := fun xs H Q => ∃ p ys, xs = [.ref p] ∧ (SqL K H p ys ∨ SqT K H p ys) ∧ Q (.int ys.length) H
theorem call_lenK (e : X.K = K := by rfl) : CallR X (.builtin "len") (rLen K) := by subst e; exact call_len_seq
theorem op_ltTK (hu : X.A.units < cLine) (e : X.K = K := by rfl) : OpR X (compareOp .Lt) (rLtT K) := by subst e; exact op_ltT hu
theorem pe_fldK {e : Expr} {f : Str} {pos : Pos} {ta : TE} (he : PE X e ta) (hb : attributeBase e f X.env (eval e X.env) = eval e X.env) (eK : X.K = K := by rfl) : PE X (.Attribute e f pos) (tFld K ta f) := by subst eK; exact pe_fld he hb
theorem ps_fldK {o value : Expr} {f : Str} {pos pos' : Pos} {ta tv : TE} (ha : PE X o ta) (hv : PE X value tv) (hs : swapsWith value (some (.Attribute o f pos')) pos.line X.env = pure false) (eK : X.K = K := by rfl) : PS X (.Assign [.Attribute o f pos'] value pos) (sFld K ta tv f) := by subst eK; exact ps_fld ha hv hs
theorem pi_listK {tg l : Expr} {tl : TE} (hl : PE X l tl) (eK : X.K = K := by rfl) : PI X tg l (iList K tl) := by subst eK; exact pi_list hl
end
section
variable {K : PySem.W.Frag} {H : Hp} {Q : VK} {p : Addr} {ys : List V}
theorem rd_lenL (h : SqL K H p ys) (q : Q (.int ys.length) H) : rLen K [.ref p] H Q := ⟨p, ys, rfl, .inl h, q⟩
theorem rd_ixL {i : Int} {v : V} (h : SqL K H p ys) (e : atI ys i = some v) (q : Q v H) : rIxL K (.ref p) (.int i) H Q := ⟨p, ys, i, v, rfl, rfl, h, e, q⟩
theorem rd_ixT {i : Int} {v : V} (h : SqT K H p ys) (e : atI ys i = some v) (q : Q v H) : rIxT K (.ref p) (.int i) H Q := ⟨p, ys, i, v, rfl, rfl, h, e, q⟩
end
end L2

set_option maxRecDepth 100000
set_option maxHeartbeats 4000000
set_option linter.all false
set_option autoImplicit false
namespace Tim
open PySem PyProof.Rows
/-- how two keys are held against each other -/
structure Cmp (M : Model) (A : Around) (E : Value → Shared → Prop) (s : Shared) where
  α : Type
  blt : α → α → Bool
  key : Keyed → α
  good : Keyed → Prop
  kd : SortKind
  irr : ∀ a, blt a a = false
  tr : ∀ a b c, blt a b = true → blt b c = true → blt a c = true
  ntr : ∀ a b c, blt a b = false → blt b c = false → blt a c = false
  lt : ∀ (st : SortSt) (x y : Keyed) (Q : Option Bool → SortSt → Prop), kindOf st = kd → good x → good y → Q (some (blt (key x) (key y))) st → wpS M A E s (lt' x y) Q st
section
variable {M : Model} {A : Around} {E : Value → Shared → Prop} {s : Shared} (C : Cmp M A E s)
/-- x stands no later than y -/
def Cmp.le (x y : Keyed) : Prop := C.blt (C.key y) (C.key x) = false
theorem Cmp.le_refl (x : Keyed) : C.le x x := C.irr _
theorem Cmp.le_trans {x y z : Keyed} (h : C.le x y) (g : C.le y z) : C.le x z := C.ntr _ _ _ g h
theorem Cmp.le_of_lt {x y : Keyed} (h : C.blt (C.key x) (C.key y) = true) : C.le x y := by
  unfold Cmp.le
  cases e : C.blt (C.key y) (C.key x) with
  | false => rfl
  | true =>
    have := C.tr _ _ _ h e
    rw [C.irr] at this; cases this
def Cmp.bey (left : Bool) (k x : Keyed) : Bool := if left = true then C.blt (C.key x) (C.key k) else !C.blt (C.key k) (C.key x)
variable {C}
/-- where a bound of the search stands -/
structure Srch (C : Cmp M A E s) (left : Bool) (k : Keyed) (arr : Array Keyed) (base n : Nat) : Prop where
  gk : C.good k
  ga : ∀ (i : Nat) x, arr[i]? = some x → C.good x
  hb : base + n ≤ arr.size
  mono : ∀ (i j : Nat) x y, i ≤ j → j < n → arr[base + i]? = some x → arr[base + j]? = some y → C.bey left k y = true → C.bey left k x = true
def Bey (C : Cmp M A E s) (left : Bool) (k : Keyed) (arr : Array Keyed) (base i : Nat) (b : Bool) : Prop := ∃ x, arr[base + i]? = some x ∧ C.bey left k x = b
theorem Srch.get {left : Bool} {k : Keyed} {arr : Array Keyed} {base n : Nat} (S : Srch C left k arr base n) {i : Nat} (hi : i < n) : ∃ x, arr[base + i]? = some x ∧ C.good x := by
  have h : base + i < arr.size := by have := S.hb; omega
  exact ⟨arr[base + i], Array.getElem?_eq_getElem h, S.ga _ _ (Array.getElem?_eq_getElem h)⟩
theorem Srch.up {left : Bool} {k : Keyed} {arr : Array Keyed} {base n : Nat} (S : Srch C left k arr base n) {i j : Nat} (hij : i ≤ j) (hj : j < n) (h : Bey C left k arr base j true) : Bey C left k arr base i true := by
  obtain ⟨y, hy, b⟩ := h
  obtain ⟨x, hx, _⟩ := S.get (i := i) (by omega)
  exact ⟨x, hx, S.mono i j x y hij hj hx hy b⟩
/-- what the search tells -/
structure Cut (C : Cmp M A E s) (left : Bool) (k : Keyed) (arr : Array Keyed) (base n lo hi : Nat) : Prop where
  le : lo ≤ hi
  hn : hi ≤ n
  below : ∀ i, i < lo → Bey C left k arr base i true
  above : ∀ i, hi ≤ i → i < n → Bey C left k arr base i false
end
end Tim

set_option maxRecDepth 100000
set_option maxHeartbeats 8000000
set_option linter.all false
set_option autoImplicit false
namespace Tim
open PySem PyProof.Rows
/-- the same but for the gallop's bound -/
def SG (st st' : SortSt) : Prop := ∃ g, st' = SortSt.mk' (kindOf st) (arrOf st) (pendingOf st) g (failedOf st)
theorem SG.refl (st : SortSt) : SG st st := ⟨gallopOf st, rfl⟩
theorem SG.set {st st' : SortSt} (h : SG st st') (g : Nat) : SG st (SortSt.mk' (kindOf st') (arrOf st') (pendingOf st') g (failedOf st')) := by
  obtain ⟨g0, rfl⟩ := h
  exact ⟨g, rfl⟩
theorem SG.kind {st st' : SortSt} (h : SG st st') : kindOf st' = kindOf st := by
  obtain ⟨g0, rfl⟩ := h
  rfl
section
variable {M : Model} {A : Around} {E : Value → Shared → Prop} {s : Shared} {C : Cmp M A E s}
def Srt (C : Cmp M A E s) (a : Array Keyed) : Prop := ∀ (i j : Nat) x y, i ≤ j → a[i]? = some x → a[j]? = some y → C.le x y
structure MH (C : Cmp M A E s) (a b : Array Keyed) : Prop where
  ga : ∀ (i : Nat) x, a[i]? = some x → C.good x
  gb : ∀ (i : Nat) x, b[i]? = some x → C.good x
  sa : Srt C a
  sb : Srt C b
  na : 0 < a.size
  nb : 0 < b.size
  fst : ∀ x y, b[0]? = some x → a[0]? = some y → C.le x y
  lst : ∀ (i : Nat) x y, b[i]? = some x → a[a.size - 1]? = some y → C.le x y
structure ML (C : Cmp M A E s) (a b out : Array Keyed) (ia ib : Nat) : Prop where
  ba : ia ≤ a.size
  bb : ib ≤ b.size
  perm : out.toList.Perm (a.toList.take ia ++ b.toList.take ib)
  srt : out.toList.Pairwise C.le
  lea : ∀ x ∈ out.toList, ∀ (i : Nat) y, ia ≤ i → a[i]? = some y → C.le x y
  leb : ∀ x ∈ out.toList, ∀ (i : Nat) y, ib ≤ i → b[i]? = some y → C.le x y
def Res (C : Cmp M A E s) (a b r : Array Keyed) : Prop := r.toList.Perm (a.toList ++ b.toList) ∧ r.toList.Pairwise C.le
theorem ML.size {a b out : Array Keyed} {ia ib : Nat} (h : ML C a b out ia ib) : out.size = ia + ib := by
  have := h.perm.length_eq
  simp only [Array.length_toList, List.length_append, List.length_take] at this
  have h1 := h.ba
  have h2 := h.bb
  omega
theorem take_add_of (a : Array Keyed) (i k : Nat) : a.toList.take (i + k) = a.toList.take i ++ (a.extract i (i + k)).toList := by
  rw [List.take_add]
  congr 1
  simp [Array.toList_extract, List.extract]
theorem mem_extract {a : Array Keyed} {i j : Nat} {x : Keyed} (h : x ∈ (a.extract i j).toList) : ∃ k, i ≤ k ∧ k < j ∧ a[k]? = some x := by
  obtain ⟨n, hn⟩ := List.mem_iff_getElem?.mp h
  rw [Array.getElem?_toList] at hn
  rw [Array.getElem?_extract] at hn
  split at hn
  · exact ⟨i + n, by omega, by omega, hn⟩
  · cases hn
theorem Srt.extract {a : Array Keyed} (h : Srt C a) (i j : Nat) : (a.extract i j).toList.Pairwise C.le := by
  rw [List.pairwise_iff_getElem]
  intro p q hp hq hpq
  have e1 : (a.extract i j)[p]? = some (a.extract i j).toList[p] := by rw [← Array.getElem?_toList]; exact List.getElem?_eq_getElem hp
  have e2 : (a.extract i j)[q]? = some (a.extract i j).toList[q] := by rw [← Array.getElem?_toList]; exact List.getElem?_eq_getElem hq
  rw [Array.getElem?_extract] at e1 e2
  split at e1
  · split at e2
    · exact h _ _ _ _ (by omega) e1 e2
    · cases e2
  · cases e1
theorem perm_mid2 {l p q r : List Keyed} (h : l.Perm (p ++ q)) : (l ++ r).Perm ((p ++ r) ++ q) := by
  have h1 : (l ++ r).Perm ((p ++ q) ++ r) := h.append_right r
  refine h1.trans ?_
  rw [List.append_assoc, List.append_assoc]
  exact List.Perm.append_left p List.perm_append_comm
theorem take_all_of (a : Array Keyed) {i : Nat} (h : i ≤ a.size) : a.toList.take i ++ (a.extract i).toList = a.toList := by
  have e := take_add_of a i (a.size - i)
  have z : i + (a.size - i) = a.size := by omega
  rw [z] at e
  rw [← e]
  have : a.size = a.toList.length := by simp
  rw [this, List.take_length]
/-- the rest of a behind the rest of b -/
theorem ML.fin {a b out : Array Keyed} {ia ib : Nat} (h : ML C a b out ia ib) (sa : Srt C a) (sb : Srt C b) (g : ∀ (i j : Nat) x y, ib ≤ i → ia ≤ j → b[i]? = some x → a[j]? = some y → C.le x y) : Res C a b (out ++ b.extract ib ++ a.extract ia) := by
  refine ⟨?_, ?_⟩
  · rw [Array.toList_append, Array.toList_append]
    have h1 : (out.toList ++ (b.extract ib).toList ++ (a.extract ia).toList).Perm ((a.toList.take ia ++ b.toList.take ib) ++ (b.extract ib).toList ++ (a.extract ia).toList) := (h.perm.append_right _).append_right _
    refine h1.trans ?_
    rw [List.append_assoc (a.toList.take ia), take_all_of b h.bb]
    refine (perm_mid2 (List.Perm.refl _)).trans ?_
    rw [take_all_of a h.ba]
  · rw [Array.toList_append, Array.toList_append, List.pairwise_append, List.pairwise_append]
    refine ⟨⟨h.srt, sb.extract _ _, fun x hx y hy => ?_⟩, sa.extract _ _, fun x hx y hy => ?_⟩
    · obtain ⟨j, h1, h2, h3⟩ := mem_extract hy
      exact h.leb x hx j y h1 h3
    · obtain ⟨j, h1, h2, h3⟩ := mem_extract hy
      rcases List.mem_append.mp hx with q | q
      · exact h.lea x q j y h1 h3
      · obtain ⟨i, g1, g2, g3⟩ := mem_extract q
        exact g i j x y g1 h1 g3 h3
end
end Tim

set_option maxRecDepth 100000
set_option maxHeartbeats 8000000
set_option linter.all false
set_option autoImplicit false
namespace Tim
open PySem PyProof.Rows
section
variable {M : Model} {A : Around} {E : Value → Shared → Prop} {s : Shared} {C : Cmp M A E s}
/-- between two turns: things of both are left, of a two at the least -/
structure MT (C : Cmp M A E s) (a b out : Array Keyed) (ia ib : Nat) : Prop extends ML C a b out ia ib where
  la : ia + 1 < a.size
  lb : ib < b.size
theorem lt_size {a : Array Keyed} {i : Nat} {x : Keyed} (h : a[i]? = some x) : i < a.size := (Array.getElem?_eq_some_iff.mp h).1
end
end Tim

set_option maxRecDepth 100000
set_option maxHeartbeats 8000000
set_option linter.all false
set_option autoImplicit false
namespace Tim
open PySem PyProof.Rows
section
variable {M : Model} {A : Around} {E : Value → Shared → Prop} {s : Shared} {C : Cmp M A E s}
/-- the merge from behind: out holds what stands behind, turned about -/
structure MR (C : Cmp M A E s) (a b out : Array Keyed) (na nb : Nat) : Prop where
  ba : na ≤ a.size
  bb : nb ≤ b.size
  perm : out.toList.Perm (a.toList.drop na ++ b.toList.drop nb)
  srt : out.toList.Pairwise fun x y => C.le y x
  lea : ∀ x ∈ out.toList, ∀ (i : Nat) y, i < na → a[i]? = some y → C.le y x
  leb : ∀ x ∈ out.toList, ∀ (i : Nat) y, i < nb → b[i]? = some y → C.le y x
theorem MR.size {a b out : Array Keyed} {na nb : Nat} (h : MR C a b out na nb) : out.size + na + nb = a.size + b.size := by
  have := h.perm.length_eq
  simp only [Array.length_toList, List.length_append, List.length_drop] at this
  have h1 := h.ba
  have h2 := h.bb
  omega
theorem drop_cut (a : Array Keyed) {c n : Nat} (h : c ≤ n) : a.toList.drop c = (a.extract c n).toList ++ a.toList.drop n := by
  have e : (a.extract c n).toList = (a.toList.drop c).take (n - c) := by simp [Array.toList_extract, List.extract]
  rw [e]
  have z : a.toList.drop n = (a.toList.drop c).drop (n - c) := by rw [List.drop_drop]; congr 1; omega
  rw [z, List.take_append_drop]
theorem ext_drop (a : Array Keyed) (n : Nat) : (a.extract 0 n).toList ++ a.toList.drop n = a.toList := by
  have := drop_cut a (Nat.zero_le n)
  rw [← this]
  rfl
theorem MR.fin {a b out : Array Keyed} {na nb : Nat} (h : MR C a b out na nb) (sa : Srt C a) (sb : Srt C b) (g : ∀ (i j : Nat) x y, i < na → j < nb → a[i]? = some x → b[j]? = some y → C.le x y) : Res C a b (a.extract 0 na ++ b.extract 0 nb ++ out.reverse) := by
  refine ⟨?_, ?_⟩
  · rw [Array.toList_append, Array.toList_append, Array.toList_reverse]
    refine (List.Perm.append_left _ ((List.reverse_perm _).trans h.perm)).trans ?_
    have e : a.toList ++ b.toList = ((a.extract 0 na).toList ++ a.toList.drop na) ++ ((b.extract 0 nb).toList ++ b.toList.drop nb) := by rw [ext_drop, ext_drop]
    rw [e]
    generalize (a.extract 0 na).toList = p
    generalize (b.extract 0 nb).toList = q
    generalize a.toList.drop na = p'
    generalize b.toList.drop nb = q'
    rw [List.append_assoc, List.append_assoc]
    refine List.Perm.append_left p ?_
    rw [← List.append_assoc, ← List.append_assoc]
    exact List.Perm.append_right q' List.perm_append_comm
  · rw [Array.toList_append, Array.toList_append, Array.toList_reverse, List.pairwise_append, List.pairwise_append, List.pairwise_reverse]
    refine ⟨⟨sa.extract _ _, sb.extract _ _, fun x hx y hy => ?_⟩, h.srt, fun x hx y hy => ?_⟩
    · obtain ⟨i, h1, h2, h3⟩ := mem_extract hx
      obtain ⟨j, g1, g2, g3⟩ := mem_extract hy
      exact g i j x y h2 g2 h3 g3
    · have hy := List.mem_reverse.mp hy
      rcases List.mem_append.mp hx with q | q
      · obtain ⟨i, h1, h2, h3⟩ := mem_extract q
        exact h.lea y hy i x h2 h3
      · obtain ⟨i, h1, h2, h3⟩ := mem_extract q
        exact h.leb y hy i x h2 h3
structure MS (C : Cmp M A E s) (a b out : Array Keyed) (na nb : Nat) : Prop extends MR C a b out na nb where
  la : 0 < na
  lb : 1 < nb
end
end Tim

set_option maxRecDepth 100000
set_option maxHeartbeats 8000000
set_option linter.all false
set_option autoImplicit false
namespace Tim
open PySem PyProof.Rows
/-- m written into arr from place p on -/
def wb (arr m : Array Keyed) (p : Nat) : Array Keyed := List.foldl (fun a x => a.setIfInBounds (p + x.snd) x.fst) arr m.toList.zipIdx
section
variable {M : Model} {A : Around} {E : Value → Shared → Prop} {s : Shared} {C : Cmp M A E s}
structure SS (C : Cmp M A E s) (a₀ : Array Keyed) (st : SortSt) : Prop where
  perm : (arrOf st).toList.Perm a₀.toList
  kind : kindOf st = C.kd
  ok : failedOf st = none
theorem SS.size {a₀ : Array Keyed} {st : SortSt} (h : SS C a₀ st) : (arrOf st).size = a₀.size := by simpa using h.perm.length_eq
theorem SS.good {a₀ : Array Keyed} {st : SortSt} (h : SS C a₀ st) (G : ∀ x ∈ a₀.toList, C.good x) : ∀ (i : Nat) x, (arrOf st)[i]? = some x → C.good x := fun i x hx =>
  G x (h.perm.mem_iff.mp (by rw [← Array.getElem?_toList] at hx; exact List.mem_of_getElem? hx))
/-- in order from lo on, n of them -/
structure Run (C : Cmp M A E s) (arr : Array Keyed) (lo n : Nat) : Prop where
  hi : lo + n ≤ arr.size
  srt : ∀ (i j : Nat) x y, lo ≤ i → i ≤ j → j < lo + n → arr[i]? = some x → arr[j]? = some y → C.le x y
theorem Run.same {arr arr' : Array Keyed} {lo n : Nat} (h : Run C arr lo n) (hs : arr'.size = arr.size) (e : ∀ i, lo ≤ i → i < lo + n → arr'[i]? = arr[i]?) : Run C arr' lo n :=
  ⟨by rw [hs]; exact h.hi, fun i j x y h1 h2 h3 hx hy => h.srt i j x y h1 h2 h3 (by rw [← e i h1 (by omega)]; exact hx) (by rw [← e j (by omega) h3]; exact hy)⟩
/-- runs one behind another, from a to b -/
def Chain (C : Cmp M A E s) (arr : Array Keyed) : List (Nat × Nat × Nat) → Nat → Nat → Prop
  | [], a, b => a = b
  | (p, n, _) :: r, a, b => p = a ∧ 0 < n ∧ Run C arr p n ∧ Chain C arr r (a + n) b
theorem Chain.le {arr : Array Keyed} : ∀ {l : List (Nat × Nat × Nat)} {a b : Nat}, Chain C arr l a b → a + l.length ≤ b
  | [], a, b, h => by have : a = b := h; simp; omega
  | (p, n, q) :: r, a, b, h => by
    obtain ⟨_, h1, _, h2⟩ := h
    have := h2.le
    simp only [List.length_cons]
    omega
theorem Chain.app {arr : Array Keyed} : ∀ {l r : List (Nat × Nat × Nat)} {a b : Nat}, Chain C arr (l ++ r) a b ↔ ∃ c, Chain C arr l a c ∧ Chain C arr r c b
  | [], r, a, b => ⟨fun h => ⟨a, rfl, h⟩, fun ⟨c, h1, h2⟩ => by have : a = c := h1; subst this; exact h2⟩
  | (p, n, q) :: l, r, a, b => by
    constructor
    · rintro ⟨h1, h2, h3, h4⟩
      obtain ⟨c, h5, h6⟩ := Chain.app.mp h4
      exact ⟨c, ⟨h1, h2, h3, h5⟩, h6⟩
    · rintro ⟨c, ⟨h1, h2, h3, h5⟩, h6⟩
      exact ⟨h1, h2, h3, Chain.app.mpr ⟨c, h5, h6⟩⟩
theorem Chain.same {arr arr' : Array Keyed} (hs : arr'.size = arr.size) : ∀ {l : List (Nat × Nat × Nat)} {a b : Nat}, Chain C arr l a b → (∀ i, a ≤ i → i < b → arr'[i]? = arr[i]?) → Chain C arr' l a b
  | [], a, b, h, _ => h
  | (p, n, q) :: r, a, b, h, e => by
    obtain ⟨rfl, h1, h2, h3⟩ := h
    have := h3.le
    exact ⟨rfl, h1, h2.same hs fun i g1 g2 => e i g1 (by omega), h3.same hs fun i g1 g2 => e i (by omega) g2⟩
end
end Tim

set_option maxRecDepth 100000
set_option maxHeartbeats 8000000
set_option linter.all false
set_option autoImplicit false
namespace Tim
open PySem PyProof.Rows
section
variable {M : Model} {A : Around} {E : Value → Shared → Prop} {s : Shared} {C : Cmp M A E s}
/-- the array has changed from lo on alone -/
structure RS (C : Cmp M A E s) (a₀ : Array Keyed) (lo : Nat) (st st' : SortSt) : Prop where
  ss : SS C a₀ st'
  pend : pendingOf st' = pendingOf st
  same : ∀ i, i < lo → (arrOf st')[i]? = (arrOf st)[i]?
theorem RS.refl {a₀ : Array Keyed} {lo : Nat} {st : SortSt} (h : SS C a₀ st) : RS C a₀ lo st st := ⟨h, rfl, fun _ _ => rfl⟩
theorem RS.arr {a₀ : Array Keyed} {lo : Nat} {st st' : SortSt} (h : RS C a₀ lo st st') {xs : Array Keyed} (hp : xs.toList.Perm (arrOf st').toList) (hs : ∀ i, i < lo → xs[i]? = (arrOf st')[i]?) : RS C a₀ lo st (setArr st' xs) :=
  ⟨⟨hp.trans h.ss.perm, h.ss.kind, h.ss.ok⟩, h.pend, fun i hi => (hs i hi).trans (h.same i hi)⟩
/-- falling, or alike -/
structure Fall (C : Cmp M A E s) (arr : Array Keyed) (lo n : Nat) : Prop where
  hi : lo + n ≤ arr.size
  srt : ∀ (i j : Nat) x y, lo ≤ i → i ≤ j → j < lo + n → arr[i]? = some x → arr[j]? = some y → C.le y x
structure Alike (C : Cmp M A E s) (arr : Array Keyed) (p q : Nat) : Prop where
  hi : q ≤ arr.size
  eq : ∀ (i j : Nat) x y, p ≤ i → i < q → p ≤ j → j < q → arr[i]? = some x → arr[j]? = some y → C.le x y
theorem Fall.turn {arr : Array Keyed} {lo n : Nat} (h : Fall C arr lo n) : Run C (mirror arr lo (lo + n) ((lo + n - lo) / 2)) lo n := by
  have hh := h.hi
  refine ⟨by rw [mirror_size]; exact hh, fun i j x y h1 h2 h3 hx hy => ?_⟩
  rw [getElem?_mirror_all hh] at hx hy
  rw [if_pos (by omega)] at hx hy
  exact h.srt _ _ y x (by omega) (by omega) (by omega) hy hx
end
end Tim

set_option maxRecDepth 100000
set_option maxHeartbeats 8000000
set_option linter.all false
set_option autoImplicit false
namespace Tim
open PySem PyProof.Rows
section
variable {M : Model} {A : Around} {E : Value → Shared → Prop} {s : Shared} {C : Cmp M A E s}
theorem Alike.one {arr : Array Keyed} {p : Nat} (h : p + 1 ≤ arr.size) : Alike C arr p (p + 1) := ⟨h, fun i j x y h1 h2 h3 h4 hx hy => by
  have e1 : i = p := by omega
  have e2 : j = p := by omega
  subst e1
  subst e2
  rw [hx] at hy
  cases hy
  exact C.le_refl _⟩
theorem Fall.more {arr : Array Keyed} {lo n : Nat} {x : Keyed} (h : Fall C arr lo n) (hn : 1 ≤ n) (hx : arr[lo + n]? = some x) (hy : ∀ (i : Nat) y, lo ≤ i → i < lo + n → arr[i]? = some y → C.le x y) : Fall C arr lo (n + 1) := by
  have hl := lt_size hx
  refine ⟨by omega, fun i j u v q1 q2 q3 hu hv => ?_⟩
  by_cases cj : j < lo + n
  · exact h.srt i j u v q1 q2 cj hu hv
  · have ej : j = lo + n := by omega
    subst ej
    rw [hx] at hv
    cases hv
    by_cases ci : i = lo + n
    · subst ci
      rw [hx] at hu
      cases hu
      exact C.le_refl _
    · exact hy i u q1 (by omega) hu
structure DS (C : Cmp M A E s) (a₀ : Array Keyed) (lo nrem : Nat) (st st' : SortSt) (n neq : Nat) : Prop where
  rs : RS C a₀ lo st st'
  fl : Fall C (arrOf st') lo n
  hn : n ≤ nrem
  ne : neq + 1 ≤ n
  al : Alike C (arrOf st') (lo + n - (neq + 1)) (lo + n)
end
end Tim

set_option maxRecDepth 100000
set_option maxHeartbeats 8000000
set_option linter.all false
set_option autoImplicit false
namespace Tim
open PySem PyProof.Rows
section
variable {M : Model} {A : Around} {E : Value → Shared → Prop} {s : Shared} {C : Cmp M A E s}
/-- what stands between two steps of the sort: the runs up to lo -/
structure TS (C : Cmp M A E s) (a₀ : Array Keyed) (lo : Nat) (st : SortSt) : Prop where
  ss : SS C a₀ st
  ch : Chain C (arrOf st) (pendingOf st).toList 0 lo
theorem TS.rs {a₀ : Array Keyed} {lo : Nat} {st st' : SortSt} (h : TS C a₀ lo st) (r : RS C a₀ lo st st') : TS C a₀ lo st' :=
  ⟨r.ss, by rw [r.pend]; exact h.ch.same (by rw [r.ss.size, h.ss.size]) fun i _ hi => r.same i hi⟩
theorem TS.push {a₀ : Array Keyed} {lo n : Nat} {st : SortSt} (h : TS C a₀ lo st) (hn : 0 < n) (R : Run C (arrOf st) lo n) : TS C a₀ (lo + n) (SortSt.mk' (kindOf st) (arrOf st) ((pendingOf st).push (lo, n, 0)) (gallopOf st) (failedOf st)) :=
  ⟨⟨h.ss.perm, h.ss.kind, h.ss.ok⟩, by
    show Chain C (arrOf st) ((pendingOf st).push (lo, n, 0)).toList 0 (lo + n)
    rw [Array.toList_push]
    exact Chain.app.mpr ⟨lo, h.ch, rfl, hn, R, rfl⟩⟩
end
end Tim

/-! A binary heap as a list: the form, one swap up, one swap down, and how few places change. No library. -/
namespace Hm
variable {α : Type}
structure Ord (ah : α → α → Prop) : Prop where
  irr : ∀ a, ¬ ah a a
  tr : ∀ a b c, ah a b → ah b c → ah a c
  tri : ∀ a b, ah a b ∨ a = b ∨ ah b a
theorem Ord.asym {ah : α → α → Prop} (O : Ord ah) {a b : α} (h : ah a b) : ¬ ah b a := fun g => O.irr a (O.tr _ _ _ h g)
/-- not ahead, along -/
theorem Ord.ntr {ah : α → α → Prop} (O : Ord ah) {a b c : α} (h : ¬ ah a b) (g : ¬ ah b c) : ¬ ah a c := fun z => by
  rcases O.tri a b with q | q | q
  · exact h q
  · subst q; exact g z
  · exact g (O.tr _ _ _ q z)
/-- the edge from k to the one at half its place is in order -/
def Edge (ah : α → α → Prop) (xs : List α) (k : Nat) : Prop := ∀ a b, xs[k]? = some a → xs[(k - 1) / 2]? = some b → ¬ ah a b
def Form (ah : α → α → Prop) (xs : List α) : Prop := ∀ k, 0 < k → Edge ah xs k
/-- out of order at most on the edge above k -/
structure Up (ah : α → α → Prop) (xs : List α) (k : Nat) : Prop where
  rest : ∀ j, 0 < j → j ≠ k → Edge ah xs j
  over : 0 < k → ∀ j, 0 < j → (j - 1) / 2 = k → ∀ a b, xs[j]? = some a → xs[(k - 1) / 2]? = some b → ¬ ah a b
/-- out of order at most on the edges below k -/
structure Down (ah : α → α → Prop) (xs : List α) (k : Nat) : Prop where
  rest : ∀ j, 0 < j → (j - 1) / 2 ≠ k → Edge ah xs j
  over : 0 < k → ∀ j, 0 < j → (j - 1) / 2 = k → ∀ a b, xs[j]? = some a → xs[(k - 1) / 2]? = some b → ¬ ah a b
/-- out of order at most on the edges at k -/
structure Hole (ah : α → α → Prop) (xs : List α) (k : Nat) : Prop where
  rest : ∀ j, 0 < j → j ≠ k → (j - 1) / 2 ≠ k → Edge ah xs j
  over : 0 < k → ∀ j, 0 < j → (j - 1) / 2 = k → ∀ a b, xs[j]? = some a → xs[(k - 1) / 2]? = some b → ¬ ah a b
theorem Up.form {ah : α → α → Prop} {xs : List α} {k : Nat} (U : Up ah xs k) (h : 0 < k → Edge ah xs k) : Form ah xs := fun j hj => by
  by_cases e : j = k
  · subst e; exact h hj
  · exact U.rest j hj e
theorem Down.form {ah : α → α → Prop} {xs : List α} {k : Nat} (U : Down ah xs k) (h : ∀ j, 0 < j → (j - 1) / 2 = k → Edge ah xs j) : Form ah xs := fun j hj => by
  by_cases e : (j - 1) / 2 = k
  · exact h j hj e
  · exact U.rest j hj e
theorem Hole.down {ah : α → α → Prop} {xs : List α} {k : Nat} (U : Hole ah xs k) (h : 0 < k → Edge ah xs k) : Down ah xs k :=
  ⟨fun j hj hn => by
    by_cases e : j = k
    · subst e; exact h hj
    · exact U.rest j hj e hn, U.over⟩
theorem Hole.up {ah : α → α → Prop} (O : Ord ah) {xs : List α} {k : Nat} (U : Hole ah xs k) {a b : α} (ha : xs[k]? = some a) (hb : xs[(k - 1) / 2]? = some b) (hk : 0 < k) (h : ah a b) : Up ah xs k :=
  ⟨fun j hj hn => by
    by_cases e : (j - 1) / 2 = k
    · intro c d hc hd
      rw [e, ha] at hd; cases hd
      intro z
      exact U.over hk j hj e c b hc hb (O.tr _ _ _ z h)
    · exact U.rest j hj hn e, U.over⟩
theorem Form.up {ah : α → α → Prop} {xs : List α} (F : Form ah xs) (O : Ord ah) (k : Nat) : Up ah xs k :=
  ⟨fun j hj _ => F j hj, fun hk j hj e a b ha hb => by
    cases hc : xs[k]? with
    | none =>
      have h1 : xs.length ≤ k := List.getElem?_eq_none_iff.mp hc
      have h2 : j < xs.length := (List.getElem?_eq_some_iff.mp ha).1
      omega
    | some c => exact O.ntr (F j hj a c ha (by rw [e]; exact hc)) (F k hk c b hc hb)⟩
/-- one more at the end -/
theorem Form.push {ah : α → α → Prop} {xs : List α} (F : Form ah xs) (y : α) : Up ah (xs ++ [y]) xs.length := by
  have old : ∀ {j : Nat}, j < xs.length → (xs ++ [y])[j]? = xs[j]? := fun h => List.getElem?_append_left h
  have lt : ∀ {j : Nat} {a : α}, (xs ++ [y])[j]? = some a → j < xs.length + 1 := fun {j a} h => by
    have := (List.getElem?_eq_some_iff.mp h).1
    simpa using this
  refine ⟨fun j hj hn a b ha hb => ?_, fun hk j hj e a b ha hb => ?_⟩
  · have h1 := lt ha
    rw [old (by omega)] at ha
    rw [old (by omega)] at hb
    exact F j hj a b ha hb
  · have h1 := lt ha
    omega
/-- the last one goes -/
theorem Form.pop {ah : α → α → Prop} {xs : List α} (F : Form ah xs) : Form ah xs.dropLast := fun k hk a b ha hb => by
  have old : ∀ {j : Nat} {c : α}, xs.dropLast[j]? = some c → xs[j]? = some c := fun {j c} h => by
    rw [List.getElem?_dropLast] at h
    split at h
    · exact h
    · cases h
  exact F k hk a b (old ha) (old hb)
/-- another one at place k -/
theorem Form.put {ah : α → α → Prop} {xs : List α} (F : Form ah xs) (O : Ord ah) (k : Nat) (y : α) : Hole ah (xs.set k y) k := by
  have old : ∀ {j : Nat}, j ≠ k → (xs.set k y)[j]? = xs[j]? := fun h => List.getElem?_set_ne (Ne.symm h)
  refine ⟨fun j hj h1 h2 a b ha hb => ?_, fun hk j hj e a b ha hb => ?_⟩
  · rw [old h1] at ha
    rw [old h2] at hb
    exact F j hj a b ha hb
  · rw [old (by omega)] at ha
    rw [old (by omega)] at hb
    exact (F.up O k).over hk j hj e a b ha hb
/-- two places change their things -/
def swap (xs : List α) (i j : Nat) (a b : α) : List α := (xs.set i b).set j a
theorem swap_get {xs : List α} {i j : Nat} {a b : α} (hi : xs[i]? = some a) (hj : xs[j]? = some b) (k : Nat) :
    (swap xs i j a b)[k]? = if k = j then some a else if k = i then some b else xs[k]? := by
  have h1 : i < xs.length := (List.getElem?_eq_some_iff.mp hi).1
  have h2 : j < xs.length := (List.getElem?_eq_some_iff.mp hj).1
  unfold swap
  by_cases e : k = j
  · subst e
    rw [if_pos rfl, List.getElem?_set_self (by simpa using h2)]
  · rw [if_neg e, List.getElem?_set_ne (Ne.symm e)]
    by_cases e2 : k = i
    · subst e2
      rw [if_pos rfl, List.getElem?_set_self h1]
    · rw [if_neg e2, List.getElem?_set_ne (Ne.symm e2)]
/-- one step up -/
theorem Up.step {ah : α → α → Prop} (O : Ord ah) {xs : List α} {k : Nat} (U : Up ah xs k) {a b : α} (hk : 0 < k) (ha : xs[k]? = some a) (hb : xs[(k - 1) / 2]? = some b) (h : ah a b) : Up ah (swap xs k ((k - 1) / 2) a b) ((k - 1) / 2) := by
  have g := swap_get (j := (k - 1) / 2) ha hb
  refine ⟨fun j hj hn c d hc hd => ?_, fun hp j hj e c d hc hd => ?_⟩
  · rw [g] at hc hd
    rw [if_neg hn] at hc
    by_cases e1 : j = k
    · subst e1
      rw [if_pos rfl] at hc; cases hc
      rw [if_pos rfl] at hd; cases hd
      exact O.asym h
    · rw [if_neg e1] at hc
      by_cases e2 : (j - 1) / 2 = (k - 1) / 2
      · rw [if_pos e2] at hd; cases hd
        intro z
        exact U.rest j hj e1 c b hc (by rw [e2]; exact hb) (O.tr _ _ _ z h)
      · rw [if_neg e2] at hd
        by_cases e3 : (j - 1) / 2 = k
        · rw [if_pos e3] at hd; cases hd
          exact U.over hk j hj e3 c b hc hb
        · rw [if_neg e3] at hd
          exact U.rest j hj e1 c d hc hd
  · have q1 : ((k - 1) / 2 - 1) / 2 ≠ (k - 1) / 2 := by omega
    have q2 : ((k - 1) / 2 - 1) / 2 ≠ k := by omega
    have q3 : (k - 1) / 2 ≠ k := by omega
    rw [g, if_neg q1, if_neg q2] at hd
    rw [g, if_neg (by omega)] at hc
    have hpe : ¬ ah b d := U.rest _ hp q3 b d hb hd
    by_cases e1 : j = k
    · rw [if_pos e1] at hc; cases hc
      exact hpe
    · rw [if_neg e1] at hc
      exact O.ntr (U.rest j hj e1 c b hc (by rw [e]; exact hb)) hpe
/-- one step down: c is the child that goes up -/
theorem Down.step {ah : α → α → Prop} (O : Ord ah) {xs : List α} {k c : Nat} (U : Down ah xs k) {a b : α} (hc0 : 0 < c) (hck : (c - 1) / 2 = k) (ha : xs[k]? = some a) (hb : xs[c]? = some b) (h : ah b a)
    (best : ∀ j d, 0 < j → (j - 1) / 2 = k → xs[j]? = some d → ¬ ah d b) : Down ah (swap xs k c a b) c := by
  have g := swap_get (i := k) (j := c) ha hb
  refine ⟨fun j hj hn d e hd he => ?_, fun _ j hj e d f hd hf => ?_⟩
  · rw [g] at hd he
    rw [if_neg hn] at he
    by_cases e1 : j = c
    · rw [if_pos e1] at hd; cases hd
      rw [if_pos (by rw [e1]; exact hck)] at he; cases he
      exact O.asym h
    · rw [if_neg e1] at hd
      by_cases e2 : (j - 1) / 2 = k
      · rw [if_pos e2] at he; cases he
        rw [if_neg (by omega)] at hd
        exact best j d hj e2 hd
      · rw [if_neg e2] at he
        by_cases e3 : j = k
        · rw [if_pos e3] at hd; cases hd
          subst e3
          exact U.over hj c hc0 hck b e hb he
        · rw [if_neg e3] at hd
          exact U.rest j hj e2 d e hd he
  · rw [g, if_neg (by omega), if_neg (by omega)] at hd
    rw [hck, g, if_neg (by omega), if_pos rfl] at hf; cases hf
    exact U.rest j hj (by omega) d b hd (by rw [e]; exact hb)
theorem form_top {ah : α → α → Prop} (O : Ord ah) {xs : List α} (F : Form ah xs) {t : α} (h0 : xs[0]? = some t) : ∀ (k : Nat) (a : α), xs[k]? = some a → ¬ ah a t
  | k, a, h => by
    induction k using Nat.strongRecOn generalizing a with
    | _ k ih =>
      by_cases hk : k = 0
      · subst hk
        rw [h0] at h; cases h
        exact O.irr _
      · have hl : k < xs.length := (List.getElem?_eq_some_iff.mp h).1
        obtain ⟨b, hb⟩ : ∃ b, xs[(k - 1) / 2]? = some b := ⟨_, List.getElem?_eq_getElem (by omega : (k - 1) / 2 < xs.length)⟩
        exact O.ntr (F k (by omega) a b h hb) (ih ((k - 1) / 2) (by omega) b hb)
/-! ### how few places change -/
/-- the places from k up to the top -/
def path : Nat → List Nat
  | 0 => [0]
  | k + 1 => (k + 1) :: path (k / 2)
termination_by k => k
decreasing_by omega
theorem path_zero : path 0 = [0] := by rw [path]
theorem path_pos {k : Nat} (h : 0 < k) : path k = k :: path ((k - 1) / 2) := by
  obtain ⟨j, rfl⟩ : ∃ j, k = j + 1 := ⟨k - 1, by omega⟩
  rw [path]
  rfl
theorem path_self (k : Nat) : k ∈ path k := by
  by_cases h : k = 0
  · subst h; rw [path_zero]; exact List.mem_singleton.mpr rfl
  · rw [path_pos (by omega)]; exact List.mem_cons_self
theorem path_up {k : Nat} (h : 0 < k) {i : Nat} (hi : i ∈ path ((k - 1) / 2)) : i ∈ path k := by
  rw [path_pos h]
  exact List.mem_cons_of_mem _ hi
theorem path_length : ∀ k : Nat, (path k).length = Nat.log2 (k + 1) + 1 := fun k => by
  induction k using Nat.strongRecOn with
  | _ k ih =>
    by_cases h : k = 0
    · subst h; rw [path_zero]; rfl
    · rw [path_pos (by omega), List.length_cons, ih ((k - 1) / 2) (by omega)]
      have e : (k - 1) / 2 + 1 = (k + 1) / 2 := by omega
      rw [e, Nat.log2_def (k + 1), if_pos (by omega)]
/-- how many places that both lists have hold another thing -/
def chg [DecidableEq α] : List α → List α → Nat
  | [], _ => 0
  | _, [] => 0
  | x :: xs, y :: ys => (if x = y then 0 else 1) + chg xs ys
theorem chg_self [DecidableEq α] : ∀ xs : List α, chg xs xs = 0
  | [] => rfl
  | x :: xs => by simp [chg, chg_self xs]
/-- the places of S alone -/
theorem chg_le [DecidableEq α] : ∀ (xs ys : List α) (S : List Nat), (∀ i a b, xs[i]? = some a → ys[i]? = some b → a ≠ b → i ∈ S) → chg xs ys ≤ S.length := by
  have key : ∀ (xs ys : List α) (n : Nat) (S : List Nat), (∀ i a b, xs[i]? = some a → ys[i]? = some b → a ≠ b → n + i ∈ S) → chg xs ys ≤ (S.filter fun i => decide (n ≤ i)).length := by
    intro xs
    induction xs with
    | nil => intro ys n S _; simp [chg]
    | cons x xs ih =>
      intro ys n S h
      cases ys with
      | nil => simp [chg]
      | cons y ys =>
        have h1 := ih ys (n + 1) S fun i a b ha hb hn => by
          have := h (i + 1) a b (by simpa using ha) (by simpa using hb) hn
          rw [show n + 1 + i = n + (i + 1) by omega]
          exact this
        have mono : (S.filter fun i => decide (n + 1 ≤ i)).length ≤ (S.filter fun i => decide (n ≤ i)).length := by
          clear h1 h
          induction S with
          | nil => simp
          | cons s S ih2 =>
            rw [List.filter_cons, List.filter_cons]
            by_cases q : n + 1 ≤ s
            · rw [if_pos (by simpa using q), if_pos (by simp; omega)]
              simpa using ih2
            · rw [if_neg (by simpa using q)]
              split
              · rw [List.length_cons]; omega
              · exact ih2
        unfold chg
        by_cases e : x = y
        · rw [if_pos e]; omega
        · rw [if_neg e]
          have hm : n ∈ S := by
            have := h 0 x y rfl rfl e
            simpa using this
          have strict : (S.filter fun i => decide (n + 1 ≤ i)).length + 1 ≤ (S.filter fun i => decide (n ≤ i)).length := by
            clear h1 h mono
            induction S with
            | nil => cases hm
            | cons s S ih2 =>
              rw [List.filter_cons, List.filter_cons]
              by_cases q : s = n
              · subst q
                rw [if_neg (by simp), if_pos (by simp), List.length_cons]
                have : ∀ T : List Nat, (T.filter fun i => decide (s + 1 ≤ i)).length ≤ (T.filter fun i => decide (s ≤ i)).length := by
                  intro T
                  induction T with
                  | nil => simp
                  | cons t T ih3 =>
                    rw [List.filter_cons, List.filter_cons]
                    by_cases q : s + 1 ≤ t
                    · rw [if_pos (by simpa using q), if_pos (by simp; omega)]
                      simpa using ih3
                    · rw [if_neg (by simpa using q)]
                      split
                      · rw [List.length_cons]; omega
                      · exact ih3
                have := this S
                omega
              · have hm2 : n ∈ S := by
                  rcases List.mem_cons.mp hm with z | z
                  · exact absurd z.symm q
                  · exact z
                have := ih2 hm2
                by_cases q2 : n + 1 ≤ s
                · rw [if_pos (by simpa using q2), if_pos (by simp; omega)]
                  simp only [List.length_cons]
                  omega
                · rw [if_neg (by simpa using q2), if_neg (by simp; omega)]
                  exact this
          omega
  intro xs ys S h
  have := key xs ys 0 S fun i a b ha hb hn => by rw [Nat.zero_add]; exact h i a b ha hb hn
  exact Nat.le_trans this (List.length_filter_le _ _)
theorem chg_path [DecidableEq α] {xs ys : List α} {e n : Nat} (he : e < n) (h : ∀ i a b, xs[i]? = some a → ys[i]? = some b → a ≠ b → i ∈ path e) : chg xs ys ≤ Nat.log2 n + 1 := by
  refine Nat.le_trans (chg_le xs ys (path e) h) ?_
  rw [path_length]
  have : Nat.log2 (e + 1) ≤ Nat.log2 n := by
    by_cases q : n = 0
    · omega
    · have h1 : 2 ^ Nat.log2 (e + 1) ≤ e + 1 := Nat.log2_self_le (by omega)
      rcases Nat.lt_or_ge (Nat.log2 n) (Nat.log2 (e + 1)) with z | z
      · have h2 : n < 2 ^ Nat.log2 (e + 1) := (Nat.log2_lt q).mp z
        omega
      · exact z
  omega
end Hm

set_option Elab.async false
set_option linter.all false
set_option maxRecDepth 100000
set_option maxHeartbeats 4000000
namespace L2
open PySem PySem.Spec PyProof.Rows
/-! ### kinds of data: how a value bears a datum, and == by the datum -/
noncomputable def dcd (p : Prop) : Bool := @decide p (Classical.propDecidable p)
theorem dcd_true {p : Prop} (h : p) : dcd p = true := by unfold dcd; simp [h]
theorem dcd_false {p : Prop} (h : ¬ p) : dcd p = false := by unfold dcd; simp [h]
theorem dcd_iff {p : Prop} : dcd p = true ↔ p := by unfold dcd; simp
theorem dcd_eq {p : Prop} [d : Decidable p] : dcd p = decide p := by
  by_cases h : p
  · rw [dcd_true h, decide_eq_true h]
  · rw [dcd_false h, decide_eq_false h]
theorem dcd_congr {p q : Prop} (h : p ↔ q) : dcd p = dcd q := by
  by_cases z : p
  · rw [dcd_true z, dcd_true (h.mp z)]
  · rw [dcd_false z, dcd_false (fun y => z (h.mpr y))]
structure Kd (D : Type) where
  R : Hp → V → D → Prop
  n : Nat
  fn : ∀ {H : Hp} {x : V} {d e : D}, R H x d → R H x e → d = e
  same : ∀ {H H' : Hp} {x : V} {d : D}, Same H H' → R H x d → R H' x d
  eq : ∀ {X : Cx} {pins : List (Addr × Obj)} {σ : St} {H : Hp} {s : Shared} {x y : V} {d e : D} {u v : Value} {A : Around}, Inv X pins σ H s → R H x d → R H y e → RelV x u → RelV y v → A.units + n < cLine → SeqAt.EqAt A s u v (dcd (d = e))
def kInt : Kd Int where
  R := fun _ x d => x = .int d
  n := 0
  fn := fun h g => by rw [h] at g; exact V.int.inj g
  same := fun _ h => h
  eq := fun {X pins σ H s x y d e u v A} _ h g ru rv _ => by
    subst h g
    obtain ⟨t, rfl⟩ := ru
    obtain ⟨t', rfl⟩ := rv
    have := SeqAt.EqAt.int_int (A := A) (s := s) d t e t'
    rw [show (d == e) = dcd (d = e) by rw [dcd_eq, Bool.beq_eq_decide_eq]] at this
    exact this
theorem in1_units (A : Around) : A.in1.units = A.units + 1 := rfl
/-- two lists of values, item by item -/
theorem Vals.get2 {xs ys : List V} {us vs : List Value} (r : Vals xs us) (q : Vals ys vs) {j : Nat} (h1 : j < us.length) (h2 : j < vs.length) : ∃ (x y : V), xs[j]? = some x ∧ ys[j]? = some y ∧ RelV x us[j] ∧ RelV y vs[j] := by
  have l1 : j < xs.length := by rw [r.length]; exact h1
  have l2 : j < ys.length := by rw [q.length]; exact h2
  obtain ⟨u, e1, r1⟩ := r.get (List.getElem?_eq_getElem l1)
  obtain ⟨v, e2, r2⟩ := q.get (List.getElem?_eq_getElem l2)
  rw [List.getElem?_eq_getElem h1] at e1
  rw [List.getElem?_eq_getElem h2] at e2
  cases e1; cases e2
  exact ⟨_, _, List.getElem?_eq_getElem l1, List.getElem?_eq_getElem l2, r1, r2⟩
end L2
namespace PySem
open L2
theorem Paired.get {α β : Type} {F : α → β → Prop} : ∀ {xs : List α} {ds : List β} {j : Nat} {x : α}, Paired F xs ds → xs[j]? = some x → ∃ d, ds[j]? = some d ∧ F x d
  | _, _, _, _, .nil, e => by simp at e
  | _, _, 0, _, .cons r _, e => by simp at e; subst e; exact ⟨_, rfl, r⟩
  | _, _, j + 1, _, .cons _ t, e => by
    obtain ⟨d, e', r⟩ := Paired.get (j := j) t (by simpa using e)
    exact ⟨d, by simpa using e', r⟩
theorem Paired.get' {α β : Type} {F : α → β → Prop} : ∀ {xs : List α} {ds : List β} {j : Nat} {d : β}, Paired F xs ds → ds[j]? = some d → ∃ x, xs[j]? = some x ∧ F x d
  | _, _, _, _, .nil, e => by simp at e
  | _, _, 0, _, .cons r _, e => by simp at e; subst e; exact ⟨_, rfl, r⟩
  | _, _, j + 1, _, .cons _ t, e => by
    obtain ⟨d, e', r⟩ := Paired.get' (j := j) t (by simpa using e)
    exact ⟨d, by simpa using e', r⟩
theorem Paired.len {α β : Type} {F : α → β → Prop} {xs : List α} {ds : List β} (p : Paired F xs ds) : xs.length = ds.length := Paired.length p
theorem Paired.app {α β : Type} {F : α → β → Prop} : ∀ {xs ys : List α} {ds es : List β}, Paired F xs ds → Paired F ys es → Paired F (xs ++ ys) (ds ++ es)
  | _, _, _, _, .nil, s => s
  | _, _, _, _, .cons r t, s => .cons r (Paired.app t s)
theorem Paired.unf {α β : Type} {F : α → β → Prop} (hf : ∀ a b c, F a b → F a c → b = c) : ∀ {xs : List α} {ds es : List β}, Paired F xs ds → Paired F xs es → ds = es
  | _, _, _, .nil, .nil => rfl
  | _, _, _, .cons r t, .cons r' t' => by rw [hf _ _ _ r r', Paired.unf hf t t']
theorem Paired.map' {α β : Type} {F G : α → β → Prop} (h : ∀ a b, F a b → G a b) {xs : List α} {ds : List β} (p : Paired F xs ds) : Paired G xs ds := Paired.mapP p h
end PySem
namespace L2
open PySem PySem.Spec PyProof.Rows
/-- == of two lists by the items' data -/
theorem all_range {D : Type} {ds es : List D} {e : Nat → Bool} (hl : ds.length = es.length) (he : ∀ j, j < ds.length → (e j = true ↔ ds[j]? = es[j]?)) : (List.range ds.length).all e = dcd (ds = es) := by
  by_cases h : ds = es
  · rw [dcd_true h, List.all_eq_true]
    intro j hj
    rw [he j (List.mem_range.mp hj), h]
  · rw [dcd_false h]
    cases z : (List.range ds.length).all e with
    | false => rfl
    | true =>
      refine absurd (List.ext_getElem? fun j => ?_) h
      by_cases hj : j < ds.length
      · exact (he j hj).mp (List.all_eq_true.mp z j (List.mem_range.mpr hj))
      · rw [List.getElem?_eq_none (by omega), List.getElem?_eq_none (by omega)]
section
variable {X : Cx} {pins : List (Addr × Obj)} {σ : St} {H : Hp} {s : Shared} {A : Around} {D : Type} (k : Kd D) {a b : Addr} {xs ys : List V} {ds es : List D}
/-- the answers of the items -/
theorem items_eq (I : Inv X pins σ H s) (px : Paired (k.R H) xs ds) (py : Paired (k.R H) ys es) {us vs : List Value} (rx : Vals xs us) (ry : Vals ys vs) (hu : A.units + k.n < cLine) :
    ∀ j (h1 : j < us.toArray.size) (h2 : j < vs.toArray.size), SeqAt.EqAt A s us.toArray[j] vs.toArray[j] (dcd (ds[j]? = es[j]?)) := by
  intro j h1 h2
  have h1' : j < us.length := by simpa using h1
  have h2' : j < vs.length := by simpa using h2
  obtain ⟨x, y, ex, ey, r1, r2⟩ := rx.get2 ry h1' h2'
  obtain ⟨d, ed, fd⟩ := px.get ex
  obtain ⟨e, ee, fe⟩ := py.get ey
  have := k.eq I fd fe r1 r2 hu
  rw [ed, ee]
  rw [show dcd (some d = some e) = dcd (d = e) from dcd_congr (by simp)]
  simpa using this
theorem rc_lists (I : Inv X pins σ H s) (ha : H a = some (.lst xs)) (hb : H b = some (.lst ys)) (px : Paired (k.R H) xs ds) (py : Paired (k.R H) ys es) (hu : A.units + (k.n + 1) < cLine) :
    SeqAt.RcAt A s (.ref a) (.ref b) (dcd (ds = es)) ∧ SeqAt.RcNeAt A s (.ref a) (.ref b) (!dcd (ds = es)) := by
  obtain ⟨us, rx, plx, _⟩ := I.list (SqL.of ha)
  obtain ⟨vs, ry, ply, _⟩ := I.list (SqL.of hb)
  have hu0 : A.units < cLine := by omega
  have hu1 : A.in1.units + k.n < cLine := by rw [in1_units]; omega
  have it := items_eq (A := A.in1) k I px py rx ry hu1
  have l1 : us.toArray.size = ds.length := by rw [List.size_toArray, ← rx.length, px.len]
  have l2 : vs.toArray.size = es.length := by rw [List.size_toArray, ← ry.length, py.len]
  by_cases hl : ds.length = es.length
  · have e1 := all_range (e := fun j => dcd (ds[j]? = es[j]?)) hl fun j _ => dcd_iff
    have z1 := SeqAt.RcAt.lists plx.isList ply.isList (by omega) hu0 it
    have z2 := SeqAt.RcNeAt.lists plx.isList ply.isList (by omega) hu0 it
    rw [l1, e1] at z1 z2
    exact ⟨z1, z2⟩
  · have e1 : dcd (ds = es) = false := dcd_false fun z => hl (by rw [z])
    have hs : (us.toArray.size != vs.toArray.size) = true := by rw [l1, l2]; simpa using hl
    rw [e1]
    exact ⟨SeqAt.RcAt.lists_lengths plx.isList ply.isList hs hu0, SeqAt.RcNeAt.lists_lengths plx.isList ply.isList hs hu0⟩
end
def kLst {D : Type} (k : Kd D) : Kd (List D) where
  R := fun H x ds => ∃ a xs, x = .ref a ∧ H a = some (.lst xs) ∧ Paired (k.R H) xs ds
  n := k.n + 1
  fn := fun ⟨a, xs, h1, h2, h3⟩ ⟨b, ys, g1, g2, g3⟩ => by
    subst h1; cases g1; rw [h2] at g2; cases g2
    exact Paired.unf (F := k.R _) (fun _ _ _ p q => k.fn p q) h3 g3
  same := fun s ⟨a, xs, h1, h2, h3⟩ => ⟨a, xs, h1, s _ _ h2, h3.map' fun _ _ q => k.same s q⟩
  eq := fun {X pins σ H s x y d e u v A} I ⟨a, xs, h1, h2, h3⟩ ⟨b, ys, g1, g2, g3⟩ ru rv hu => by
    subst h1 g1
    obtain rfl := (show u = Value.ref a from ru)
    obtain rfl := (show v = Value.ref b from rv)
    by_cases hab : a = b
    · subst hab
      rw [h2] at g2; cases g2
      rw [dcd_true (Paired.unf (F := k.R _) (fun _ _ _ p q => k.fn p q) h3 g3)]
      exact SeqAt.EqAt.same _
    · exact SeqAt.EqAt.of_refs hab (rc_lists k I h2 g2 h3 g3 hu).1
section
variable {X : Cx} {pins : List (Addr × Obj)} {σ : St} {H : Hp} {s : Shared} {A : Around} {D1 D2 : Type} (k1 : Kd D1) (k2 : Kd D2) {a b : Addr} {x1 x2 y1 y2 : V} {d e : D1 × D2}
theorem rc_tup2 (I : Inv X pins σ H s) (ha : H a = some (.tup [x1, x2])) (hb : H b = some (.tup [y1, y2])) (p1 : k1.R H x1 d.1) (p2 : k2.R H x2 d.2) (q1 : k1.R H y1 e.1) (q2 : k2.R H y2 e.2) (hu : A.units + (max k1.n k2.n + 1) < cLine) :
    SeqAt.RcAt A s (.ref a) (.ref b) (dcd (d = e)) ∧ SeqAt.RcNeAt A s (.ref a) (.ref b) (!dcd (d = e)) := by
  obtain ⟨us, rx, plx, _⟩ := I.tuple (SqT.of ha)
  obtain ⟨vs, ry, ply, _⟩ := I.tuple (SqT.of hb)
  obtain ⟨u1, u2, rfl, r1, r2⟩ := vals2 rx
  obtain ⟨v1, v2, rfl, s1, s2⟩ := vals2 ry
  have hu0 : A.units < cLine := by omega
  have e1 := k1.eq (A := A.in1) I p1 q1 r1 s1 (by rw [in1_units]; omega)
  have e2 := k2.eq (A := A.in1) I p2 q2 r2 s2 (by rw [in1_units]; omega)
  have it : ∀ j (h1 : j < [u1, u2].toArray.size) (h2 : j < [v1, v2].toArray.size), SeqAt.EqAt A.in1 s [u1, u2].toArray[j] [v1, v2].toArray[j] (if j = 0 then dcd (d.1 = e.1) else dcd (d.2 = e.2)) := by
    intro j h1 h2
    match j, h1 with
    | 0, _ => exact e1
    | 1, _ => exact e2
    | j + 2, h1 => simp at h1; omega
  have z1 := SeqAt.RcAt.tuples plx ply hu0 it
  have z2 := SeqAt.RcNeAt.tuples plx ply hu0 it
  have ez : ((List.range (min [u1, u2].toArray.size [v1, v2].toArray.size)).all (fun j => if j = 0 then dcd (d.1 = e.1) else dcd (d.2 = e.2)) && [u1, u2].toArray.size == [v1, v2].toArray.size) = dcd (d = e) := by
    have : (List.range (min [u1, u2].toArray.size [v1, v2].toArray.size)) = [0, 1] := rfl
    rw [this]
    obtain ⟨d1, d2⟩ := d
    obtain ⟨f1, f2⟩ := e
    by_cases h1 : d1 = f1 <;> by_cases h2 : d2 = f2
    · rw [dcd_true (show (d1, d2) = (f1, f2) by rw [h1, h2])]; simp [dcd_true h1, dcd_true h2]
    · rw [dcd_false (show ¬ (d1, d2) = (f1, f2) by simp [h2])]; simp [dcd_false h2]
    · rw [dcd_false (show ¬ (d1, d2) = (f1, f2) by simp [h1])]; simp [dcd_false h1]
    · rw [dcd_false (show ¬ (d1, d2) = (f1, f2) by simp [h1])]; simp [dcd_false h1]
  rw [ez] at z1 z2
  exact ⟨z1, z2⟩
end
def kTup {D1 D2 : Type} (k1 : Kd D1) (k2 : Kd D2) : Kd (D1 × D2) where
  R := fun H x d => ∃ a x1 x2, x = .ref a ∧ H a = some (.tup [x1, x2]) ∧ k1.R H x1 d.1 ∧ k2.R H x2 d.2
  n := max k1.n k2.n + 1
  fn := fun {H x d e} ⟨a, x1, x2, h1, h2, h3, h4⟩ ⟨b, y1, y2, g1, g2, g3, g4⟩ => by
    subst h1; cases g1; rw [h2] at g2; cases g2
    exact Prod.ext (k1.fn h3 g3) (k2.fn h4 g4)
  same := fun s ⟨a, x1, x2, h1, h2, h3, h4⟩ => ⟨a, x1, x2, h1, s _ _ h2, k1.same s h3, k2.same s h4⟩
  eq := fun {X pins σ H s x y d e u v A} I ⟨a, x1, x2, h1, h2, h3, h4⟩ ⟨b, y1, y2, g1, g2, g3, g4⟩ ru rv hu => by
    subst h1 g1
    obtain rfl := (show u = Value.ref a from ru)
    obtain rfl := (show v = Value.ref b from rv)
    by_cases hab : a = b
    · subst hab
      rw [h2] at g2; cases g2
      rw [dcd_true (Prod.ext (k1.fn h3 g3) (k2.fn h4 g4))]
      exact SeqAt.EqAt.same _
    · exact SeqAt.EqAt.of_refs hab (rc_tup2 k1 k2 I h2 g2 h3 h4 g3 g4 hu).1
/-- a thing: a tuple of two ints -/
abbrev kPair : Kd (Int × Int) := kTup kInt kInt
theorem kPair_of {H : Hp} {a : Addr} {p : Int × Int} (h : H a = some (.tup [.int p.1, .int p.2])) : kPair.R H (.ref a) p := ⟨a, _, _, rfl, h, rfl, rfl⟩
theorem kPair_at {H : Hp} {x : V} {p : Int × Int} (h : kPair.R H x p) : ∃ a, x = .ref a ∧ H a = some (.tup [.int p.1, .int p.2]) := by
  obtain ⟨a, x1, x2, rfl, h2, h3, h4⟩ := h
  obtain rfl := (show x1 = V.int p.1 from h3)
  obtain rfl := (show x2 = V.int p.2 from h4)
  exact ⟨a, rfl, h2⟩
/-! ### the operators -/
section
variable {X : Cx} {D : Type} [DecidableEq D] (k : Kd D)
def rEqD : R2 := fun x y H Q => ∃ d e, k.R H x d ∧ k.R H y e ∧ Q (.bl (decide (d = e))) H
def rNeD : R2 := fun x y H Q => ∃ d e, k.R H x d ∧ k.R H y e ∧ Q (.bl (!decide (d = e))) H
end
section
variable {X : Cx} {D D1 D2 : Type} [DecidableEq D] [DecidableEq D1] [DecidableEq D2] (k : Kd D) (k1 : Kd D1) (k2 : Kd D2)
theorem op_eqL (hu : X.A.units + (k.n + 1) < cLine) : OpR X (compareOp .Eq) (rEqD (kLst k)) := by
  rintro pins s σ H x y u v Q I ru rv ⟨d, e, ⟨a, xs, rfl, ha, pa⟩, ⟨b, ys, rfl, hb, pb⟩, q⟩
  obtain rfl := (show u = Value.ref a from ru)
  obtain rfl := (show v = Value.ref b from rv)
  exact (rc_lists k I ha hb pa pb hu).1 _ _ _ _ ⟨.bl _, H, I, rfl, by rw [dcd_eq]; exact q⟩
theorem op_neL (hu : X.A.units + (k.n + 1) < cLine) : OpR X (compareOp .NotEq) (rNeD (kLst k)) := by
  rintro pins s σ H x y u v Q I ru rv ⟨d, e, ⟨a, xs, rfl, ha, pa⟩, ⟨b, ys, rfl, hb, pb⟩, q⟩
  obtain rfl := (show u = Value.ref a from ru)
  obtain rfl := (show v = Value.ref b from rv)
  exact (rc_lists k I ha hb pa pb hu).2 _ _ _ _ ⟨.bl _, H, I, rfl, by rw [dcd_eq]; exact q⟩
end
end L2

set_option Elab.async false
set_option linter.all false
set_option maxRecDepth 100000
set_option maxHeartbeats 4000000
namespace L2
open PySem PySem.Spec PyProof.Rows
section
variable {X : Cx} {pins : List (Addr × Obj)} {σ : St} {H : Hp} {s : Shared} {A : Around} {D : Type} (k : Kd D) {a b : Addr} {xs ys : List V} {ds es : List D}
end
section
variable {X : Cx} {D : Type} [DecidableEq D] (k : Kd D)
end
section
variable {X : Cx}
end
end L2

set_option Elab.async false
set_option linter.all false
set_option maxRecDepth 100000
set_option maxHeartbeats 8000000
namespace L2
open PySem PySem.Spec PyProof.Rows PySem.W
/-! ### things in order -/
def pLt (a b : Int × Int) : Bool := decide (a.1 < b.1) || (decide (a.1 = b.1) && decide (a.2 < b.2))
theorem pLt_iff {a b : Int × Int} : pLt a b = true ↔ a.1 < b.1 ∨ (a.1 = b.1 ∧ a.2 < b.2) := by simp [pLt]
theorem pLt_no {a b : Int × Int} : pLt a b = false ↔ b.1 < a.1 ∨ (a.1 = b.1 ∧ b.2 ≤ a.2) := by
  rw [← Bool.not_eq_true, pLt_iff]
  omega
theorem pLt_irr (a : Int × Int) : pLt a a = false := by rw [pLt_no]; omega
theorem pLt_tr {a b c : Int × Int} (h : pLt a b = true) (g : pLt b c = true) : pLt a c = true := by
  rw [pLt_iff] at *; omega
theorem pLt_ntr {a b c : Int × Int} (h : pLt a b = false) (g : pLt b c = false) : pLt a c = false := by
  rw [pLt_no] at *; omega
theorem pLt_tri (a b : Int × Int) : pLt a b = true ∨ a = b ∨ pLt b a = true := by
  rw [pLt_iff, pLt_iff]
  obtain ⟨a1, a2⟩ := a
  obtain ⟨b1, b2⟩ := b
  simp only [Prod.mk.injEq]
  omega
theorem lexLt_pair (a b : Int × Int) : HT.lexLt [a.1, a.2] [b.1, b.2] = pLt a b := by
  unfold HT.lexLt HT.lexLt HT.lexLt pLt
  by_cases h : a.1 = b.1
  · rw [if_pos h]
    by_cases g : a.2 = b.2
    · rw [if_pos g]; simp [h, g]
    · rw [if_neg g]; simp [h]
  · rw [if_neg h]; simp [h]
section
variable {prog : Program} {w : World} {A : Around} {E : Value → Shared → Prop} {s : Shared} (f : Addr → Int × Int)
end
end L2

set_option Elab.async false
set_option linter.all false
set_option maxRecDepth 100000
set_option maxHeartbeats 8000000
namespace HT
open PySem PyProof.Rows
/-! ### t > u of tuples of ints -/
section
open PySem.SeqAt
open PySem.AutoSeq1 (wpAny_loadPart')
open PySem.MeetsSeq PySem.MeetsSeq2 PySem.MeetsSeq3
end
section
variable {prog : Program} {w : World} {A : Around} {E : Value → Shared → Prop} {s : Shared}
end
end HT
namespace L2
open PySem PySem.Spec PyProof.Rows
section
variable {X : Cx}
end
end L2

set_option Elab.async false
set_option linter.all false
set_option maxRecDepth 100000
set_option maxHeartbeats 8000000
namespace PySem
open Sem (wp)
/-! ### the least and the greatest of a list whose items are held against each other by what stands in the heap -/
def KeptIn (h0 : Heap) (wr : List Addr) (S : Addr) (h : Heap) : Prop := ∀ b o, b ∉ wr → b ≠ S → h0.get? b = some o → h.get? b = some o
theorem KeptIn.wr {h0 h h' : Heap} {wr : List Addr} {S : Addr} (k : KeptIn h0 wr S h) (g : ∀ b o, b ∉ wr → h.get? b = some o → h'.get? b = some o) : KeptIn h0 wr S h' := fun b o h1 h2 e => g b o h1 (k b o h1 h2 e)
theorem KeptIn.upd {h0 h : Heap} {wr : List Addr} {S : Addr} (k : KeptIn h0 wr S h) (f : Obj → Obj) : KeptIn h0 wr S (h.update S f) := fun b o h1 h2 e => (Heap.get?_update_other _ _ (Ne.symm h2)).trans (k b o h1 h2 e)
def CmpIn (prog : Program) (w : World) (A : Around) (op : CmpOp) (P : Nat → Value → Prop) (bt : Nat → Nat → Bool) (h0 : Heap) (wr : List Addr) (S : Addr) : Prop :=
  ∀ i j vi vj (s : Shared) (Q : Value → Shared → Prop) (E : Value → Shared → Prop), KeptIn h0 wr S s.heap → P i vi → P j vj → Q (.bool (bt i j)) s → wpAny (model prog w) A (richCompare op vi vj) Q E s
theorem min_go {P : Nat → Value → Prop} {h0 : Heap} {St : Nat → Heap → Prop} {prog : Program} {w : World} {A : Around} {R : Result → Shared → Prop} {I : Addr} {fp wr : List Addr} {n : Nat} (W : Walks prog w A.in1 I fp wr n P St) (bt : Nat → Nat → Bool) (S : Addr) (hSf : S ∉ fp) (hcmp : CmpIn prog w A.in1 .Lt P bt h0 wr S) :
    ∀ (k j : Nat) (s : Shared) (vb : Value) (c : Nat), n - (j + 1) = k → j + 1 ≤ n → St (j + 1) s.heap → P (argBest bt j) vb → KeptIn h0 wr S s.heap →
    s.heap.get? S = some { cls := .type "list", dict := none, data := .seq #[vb, vb] c, slots := #[] } →
    (∀ v h' tk, P (argBest bt (n - 1)) v → KeptIn h0 wr S h' → R (.ok (.ret v)) { s with heap := h', toks := tk }) → codeAny (model prog w) A (.builtin "min.loop" ⟨[.ref I, .none, .ref S], []⟩) R s := by
  have hSw : S ∉ wr := fun h => hSf (W.sub _ h)
  have hname : (toString "min" ++ toString ".loop" : String) = "min.loop" := by decide
  intro k
  induction k with
  | zero =>
    intro j s vb c hk hj hst hPb hkp hS hR
    have hin : j + 1 = n := by omega
    refine codeAny_builtin F.entry_min_loop ?_
    rw [Around.under_plainId F.plain_min_loop _]
    show wpAny _ A.in1 (seqItems? (.ref S) >>= _) _ _ s
    refine wpAny_bind (wpAny_seqItems hS rfl ?_)
    show wpAny _ A.in1 (tryCatch (pyNext (.ref I)) _ >>= _) _ _ s
    refine wpAny_bind (wpAny_tryCatch (W.done s _ _ (hin ▸ hst) fun h' tk hk' => ?_))
    have hS' := hk' S _ hSw hS
    show wpAny _ A.in1 (updateSeq S (fun _ => #[]) >>= _) _ _ _
    refine wpAny_bind (wpAny_updateSeq hS' rfl (wpAny_bind (wpAny_letGo (wpAny_pure ?_))))
    exact hR vb _ tk (by rw [← hin]; exact hPb) ((hkp.wr hk').upd _)
  | succ k ih =>
    intro j s vb c hk hj hst hPb hkp hS hR
    have hlt : j + 1 < n := by omega
    refine codeAny_builtin F.entry_min_loop ?_
    rw [Around.under_plainId F.plain_min_loop _]
    show wpAny _ A.in1 (seqItems? (.ref S) >>= _) _ _ s
    refine wpAny_bind (wpAny_seqItems hS rfl ?_)
    show wpAny _ A.in1 (tryCatch (pyNext (.ref I)) _ >>= _) _ _ s
    refine wpAny_bind (wpAny_tryCatch (W.item (j + 1) s _ _ hlt hst fun v h' tk hP hst' hk' => ?_))
    have hS' := hk' S _ hSw hS
    have hkp' := hkp.wr hk'
    show wpAny _ A.in1 (tryCatch (holding [v, v] (richCompare .Lt v vb >>= _)) _ >>= _) _ _ _
    refine wpAny_bind (wpAny_tryCatch (wpAny_holding (wpAny_bind (hcmp (j + 1) (argBest bt j) v vb _ _ _ hkp' hP hPb ?_))))
    refine wpAny_bind (wpAny_holding (wpAny_truthy_bool (wpAny_bind (wpAny_letGo (wpAny_pure ?_)))))
    cases hb : bt (j + 1) (argBest bt j) with
    | true =>
      simp only [if_true]
      refine wpAny_bind (wpAny_updateSeq hS' rfl (wpAny_bind (wpAny_letGo ?_)))
      rw [hname]
      refine wpAny_pure ⟨plainId_quiet F.plain_min_loop _, ih (j + 1) _ v _ (by omega) hlt (W.frame _ _ _ hst' fun b hbf o e => ?_) (by simp only [argBest, hb, if_true]; exact hP) (hkp'.upd _) (Heap.get?_update_self _ hS' rfl) hR⟩
      exact (Heap.get?_update_other _ _ (fun h : S = b => hSf (by rw [h]; exact hbf))).trans e
    | false =>
      simp only [Bool.false_eq_true, if_false]
      refine wpAny_bind (wpAny_letGo ?_)
      rw [hname]
      exact wpAny_pure ⟨plainId_quiet F.plain_min_loop _, ih (j + 1) _ vb c (by omega) hlt hst' (by simp only [argBest, hb, Bool.false_eq_true, if_false]; exact hPb) hkp' hS' hR⟩
theorem call_min_in {prog : Program} {w : World} {A : Around} {E : Value → Shared → Prop} {s : Shared} {x : Value} {Q : Value → Shared → Prop}
    (h : wpAny (model prog w) A.in1 (pyIter x) (fun it s₂ => ∃ I fp wr n P St bt, it = .ref I ∧ Walks prog w A.in1 I fp wr n P St ∧ St 0 s₂.heap ∧ (∀ b ∈ fp, b < s₂.heap.objs.size) ∧ 0 < n ∧ CmpIn prog w A.in1 .Lt P bt s₂.heap wr s₂.heap.objs.size ∧
      ∀ v h' tk, P (argBest bt (n - 1)) v → KeptIn s₂.heap wr s₂.heap.objs.size h' → Q v { s₂ with heap := h', toks := tk }) E s) :
    wpAny (model prog w) A (call (.builtin "min") [x]) Q E s := by
  have hname : (toString "min" ++ toString ".loop" : String) = "min.loop" := by decide
  refine call_function_tree F.kind_min F.plain_min F.entry_min (F.args_min1 _) ?_
  show wpAny _ A.in1 (Builtin.Builtins.bindParams "min" ["key", "default"] 0 ⟨[], []⟩ >>= _) _ _ s
  refine wpAny_bind (wpAny_of_eq (show Builtin.Builtins.bindParams "min" ["key", "default"] 0 ⟨[], []⟩ = pure [none, none] from rfl) (wpAny_bind (wpAny_pure ?_)))
  refine wpAny_bind (wpAny_mono h (fun it s₂ h₂ => ?_) fun _ _ e => e)
  obtain ⟨I, fp, wr, n, P, St, bt, rfl, W, hst, hfp, hn, hcmp, hQ⟩ := h₂
  refine wpAny_bind (wpAny_newObj_type ?_)
  have hSf : s₂.heap.objs.size ∉ fp := fun hm => Nat.lt_irrefl _ (hfp _ hm)
  have hSw : s₂.heap.objs.size ∉ wr := fun h => hSf (W.sub _ h)
  rw [hname]
  refine wpAny_pure ⟨plainId_quiet F.plain_min_loop _, codeAny_builtin F.entry_min_loop ?_⟩
  rw [Around.under_plainId F.plain_min_loop _]
  have hS0 : (s₂.heap.push { cls := .type "list", data := .seq ([] : List Value).toArray }).get? s₂.heap.objs.size = some { cls := .type "list", dict := none, data := .seq #[] 0, slots := #[] } := Heap.get?_push_size _ rfl
  have kp0 : KeptIn s₂.heap wr s₂.heap.objs.size (s₂.heap.push { cls := .type "list", data := .seq ([] : List Value).toArray }) := fun b o _ _ e => Heap.get?_push_of_some _ e
  show wpAny _ A.in1 (seqItems? (.ref s₂.heap.objs.size) >>= _) _ _ _
  refine wpAny_bind (wpAny_seqItems hS0 rfl ?_)
  show wpAny _ A.in1 (tryCatch (pyNext (.ref I)) _ >>= _) _ _ _
  refine wpAny_bind (wpAny_tryCatch (W.item 0 _ _ _ hn (W.frame _ _ _ hst fun b _ o e => Heap.get?_push_of_some _ e) fun v h' tk hP hst' hk' => ?_))
  have hS' := hk' _ _ hSw hS0
  show wpAny _ A.in1 (updateSeq s₂.heap.objs.size (fun _ => #[v, v]) >>= _) _ _ _
  refine wpAny_bind (wpAny_updateSeq hS' rfl ?_)
  rw [hname]
  refine wpAny_pure ⟨plainId_quiet F.plain_min_loop _, min_go W bt s₂.heap.objs.size hSf hcmp _ 0 _ v _ rfl hn (W.frame _ _ _ hst' fun b hbf o e => ?_) hP ((kp0.wr hk').upd _) (Heap.get?_update_self _ hS' rfl) fun v' h'' tk'' hP' hk'' => hQ v' h'' tk'' hP' hk''⟩
  exact (Heap.get?_update_other _ _ (fun h : s₂.heap.objs.size = b => hSf (by rw [h]; exact hbf))).trans e
end PySem
namespace L2
open PySem PySem.Spec PyProof.Rows
/-- no item up to k is better than the best one -/
theorem best_of {bt : Int × Int → Int × Int → Bool} (irr : ∀ a, bt a a = false) (ntr : ∀ a b c, bt a b = false → bt b c = false → bt a c = false) (asym : ∀ a b, bt a b = true → bt b a = false) (f : Nat → Int × Int) : ∀ k j, j ≤ k → bt (f j) (f (argBest (fun i j => bt (f i) (f j)) k)) = false
  | 0, j, h => by
    have : j = 0 := by omega
    subst this
    exact irr _
  | k + 1, j, h => by
    unfold argBest
    by_cases hb : bt (f (k + 1)) (f (argBest (fun i j => bt (f i) (f j)) k)) = true
    · rw [if_pos hb]
      by_cases hj : j = k + 1
      · subst hj; exact irr _
      · exact ntr _ _ _ (best_of irr ntr asym f k j (by omega)) (asym _ _ hb)
    · rw [if_neg hb]
      by_cases hj : j = k + 1
      · subst hj; simpa using hb
      · exact best_of irr ntr asym f k j (by omega)
theorem pLt_asym (a b : Int × Int) (h : pLt a b = true) : pLt b a = false := by rw [pLt_iff] at h; rw [pLt_no]; omega
end L2

set_option Elab.async false
set_option linter.all false
set_option maxRecDepth 100000
set_option maxHeartbeats 8000000
namespace L2
open PySem PySem.Spec PyProof.Rows
/-! ### a list comprehension, one for, at most one if, its target a name -/
/-- what must hold of the written scopes -/
structure CmpSc (X : Cx) (scope : Scope) (x : Str) (N : List Str) (cap : List Str) (src : List Nat) : Prop where
  kind : scope.kind = .function
  cell : ∀ y ∈ scope.names, y.2 ≠ .cell
  names : ∀ y ∈ scope.names, y.2 = .local → scope.names.lookup y.1 = some .local
  nolf : ∀ y ∈ scope.names, y.2 = .local → (y.1, NameKind.free) ∉ scope.names
  tgt : scope.names.lookup x = some .local
  free : ∀ y ∈ scope.names, y.2 = .free → X.env.scope.names.lookup y.1 = some .cell
  eN : N = x :: cap
  lsrc : src.length = cap.length
  capt : ∀ (j : Nat) y i, cap[j]? = some y → src[j]? = some i → X.N[i]? = some y ∧ (y, NameKind.free) ∈ scope.names
section
variable {X : Cx} {pins : List (Addr × Obj)} {σ : St} {H : Hp} {s : Shared} {scope : Scope} {x : Str} {N cap : List Str} {src : List Nat} {C : Addr} {fp : List Addr}
end
/-! ### the form one uses: over a list that the block leaves as it is -/
end L2

set_option Elab.async false
set_option linter.all false
set_option maxRecDepth 100000
set_option maxHeartbeats 8000000
namespace L2
open PySem PySem.Spec PyProof.Rows
/-! ### enumerate(xs), zip(xs, ys), walked by a tuple of names -/
section
variable {X : Cx} {pins : List (Addr × Obj)} {σ : St} {H : Hp} {s : Shared} {h' : Heap}
/-- records of ours have turned, one object is new and tracked -/
theorem Inv.turnedNew {ch : List Addr} {T : Addr} {o : HO} {t' : Nat} (I : Inv X pins σ H s) (hch : ∀ b ∈ ch, FpOk X pins H b) (k : ∀ b u, b ∉ ch → s.heap.get? b = some u → h'.get? b = some u) (hT : s.heap.objs.size ≤ T) (hTc : T ∉ ch)
    (new : ObjOk X.prog X.w (upd H T o) h' T o) : Inv X pins σ (upd H T o) { s with heap := h', toks := t' } := by
  have fT : H T = none := I.hok.fresh hT
  have neT : ∀ b u, s.heap.get? b = some u → b ≠ T := fun b u e => Nat.ne_of_lt (Nat.lt_of_lt_of_le (Heap.lt_size e) hT)
  have nch : ∀ b u, H b = some u → b ∉ ch := fun b u e hb => by
    have := (hch b hb).1
    rw [e] at this; cases this
  refine I.step (g' := s.gens) (d' := s.drawn) (ch := ch) (fun b hb => ⟨(hch b hb).2.2.2.1, (hch b hb).2.1, (hch b hb).2.2.2.2.1, (hch b hb).2.2.2.2.2⟩) (fun b o _ _ hc e _ => k b o hc e) (fun b o _ _ hc e _ => ⟨o.slots, k b o hc e⟩)
    (fun b u hc e n => by rw [upd_ne (neT b u e)]; exact n) (fun b o hc e => ⟨o, k b o hc e⟩) (fun b xs e => by rw [upd_ne (ne_of_none e fT)]; exact e) (fun b u z e => by rw [upd_ne (ne_of_none e fT)]; exact e)
    (fun b ps e => ⟨#[], by rw [upd_ne (ne_of_none e fT), e]; simp⟩) (fun m hm => ?_) (fun b u e => ?_) I.bare
  · obtain ⟨oL, es, ep, ho, r⟩ := hm
    exact ⟨oL, es, ep, k _ oL (fun z => (hch _ z).2.1 rfl) ho, r⟩
  · by_cases hb : b = T
    · subst hb
      rw [upd_same] at e; cases e
      exact new
    · rw [upd_ne hb] at e
      refine (I.hok b u e).stay (fun c v hc q => k c v ?_ q) (fun c z => by rw [upd_ne (ne_of_none z fT)]; exact z) fun c xs z => by rw [upd_ne (ne_of_none z fT)]; exact z
      rcases hc with z | z
      · rw [z]; exact nch b u e
      · exact nch c _ z
end
/-- (0, x0), (1, x1), ..: each a new tuple -/
def Ite (K : PySem.W.Frag) (a : Addr) : It :=
  ⟨fun i H => ∃ xs x, SqL K H a xs ∧ xs[i]? = some x, fun i H x H' => ∃ t y, H t = none ∧ x = .ref t ∧ H' = upd H t (.tup [.int (i : Nat), y]) ∧ ∀ xs, SqL K H a xs → xs[i]? = some y, fun i H => ∃ xs, SqL K H a xs ∧ xs.length ≤ i⟩
theorem turn_enum {P : Program} {w : World} {K : PySem.W.Frag} {elts : List Expr} {k : Nat} {pos : Pos} (a e it : Addr) (hei : e ≠ it) : Turn P w K (.Tuple elts k pos) (Ite K a) [e, it] e (fun i h => (∃ old, IsEnum h e it i old) ∧ h.IsListIter it a i) where
  mem := by simp
  obj := fun i h st b hb => by
    obtain ⟨⟨old, he⟩, hit⟩ := st
    rcases List.mem_cons.mp hb with z | hb
    · subst z; exact ⟨_, he, fun v z => by cases z⟩
    · have z : b = it := by simpa using hb
      subst z
      obtain ⟨o, e, c, d⟩ := hit
      exact ⟨o, e, fun v z => by rw [d] at z; cases z⟩
  keep := fun i h h' st k => by
    obtain ⟨⟨old, he⟩, hit⟩ := st
    exact ⟨⟨old, k e (by simp) _ he⟩, hit.at fun o q => k it (by simp) o q⟩
  item := by
    intro X hP hw hK hc i pins s σ H E I hf st hg
    subst hP hw hK
    obtain ⟨xs, x, hq, hx⟩ := hg
    obtain ⟨⟨old, he⟩, hit⟩ := st
    obtain ⟨its, rv, p, hz⟩ := I.list hq
    obtain ⟨u, hu, ru⟩ := rv.get hx
    refine wpAny_pyNext_enum_item he hit p.isList (x := u) (by simpa using hu) hei fun h' ho hit' hT hsz hk => ?_
    have hTc : s.heap.objs.size ∉ [e, it] := fun z => by
      rcases List.mem_cons.mp z with z | z
      · exact Nat.ne_of_gt (Heap.lt_size he) z
      · obtain ⟨oi, q, _⟩ := hit
        exact Nat.ne_of_gt (Heap.lt_size q) (by simpa using z)
    have I1 : Inv X pins σ (upd H s.heap.objs.size (.tup [.int (i : Nat), x])) { s with heap := h', toks := s.toks + 1 } := by
      refine I.turnedNew (ch := [e, it]) hf (fun b o hb q => hk b o (fun z => hb (by simp [z])) (fun z => hb (by simp [z])) q) (Nat.le_refl _) hTc ?_
      exact ⟨by show 2 ≤ sizeLine; decide, [.int (i : Nat) s.toks, u], .cons ⟨_, rfl⟩ (.cons ru .nil), _, hT, rfl, _, rfl⟩
    refine ⟨_, rfl, wpAny_letOwnedTupleGo_enum (s := { s with heap := h', toks := s.toks + 1 }) ho fun h'' he'' hs'' => ?_⟩
    have fe : H e = none := (hf e (by simp)).1
    have I2 : Inv X pins σ (upd H s.heap.objs.size (.tup [.int (i : Nat), x])) { s with heap := h'', toks := s.toks + 1 } := by
      obtain ⟨f0, f1, f2, f3, f4, f5⟩ := hf e (by simp)
      exact I1.turned (t' := s.toks + 1) (fun b o hb q => (hs''.2 b hb).trans q) (by rw [upd_ne (fun z => hTc (by simp [z]))]; exact f0) f1 f3 f4 f5
    refine ⟨.ref s.heap.objs.size, _, I2, rfl, ⟨_, x, I.hok.fresh (Nat.le_refl _), rfl, rfl, fun ys hy => by rw [I.list_inj hy hq]; exact hx⟩, ⟨⟨u, by simpa using he''⟩, hit'.at fun o q => (hs''.2 it hei.symm).trans q⟩, fun b hb => ?_⟩
    rw [upd_ne (fun z => hTc (by rw [← z]; exact hb))]
    exact (hf b hb).1
  done := by
    intro X hP hw hK hc i pins s σ H E I hf st hg
    subst hP hw hK
    obtain ⟨xs, hq, hx⟩ := hg
    obtain ⟨⟨old, he⟩, hit⟩ := st
    obtain ⟨its, rv, p, hz⟩ := I.list hq
    have hl := rv.length
    refine wpAny_pyNext_enum_end (I.ok.hd hc) he hit p.isList (by simp; omega) fun h' eb => ⟨rfl, ?_⟩
    obtain ⟨f0, f1, f2, f3, f4, f5⟩ := hf it (by simp)
    exact I.turned (t' := s.toks) (fun b o hb e => eb b o hb e) f0 f1 f3 f4 f5
  self := fun _ _ _ _ _ st h => by
    obtain ⟨⟨old, he⟩, _⟩ := st
    exact wpAny_pyIter_enum he h
section
variable {X : Cx} {elts : List Expr} {k : Nat} {tpos : Pos}
def iEnum (K : PySem.W.Frag) (ta : TA) : TI := fun σ H R => ta σ H fun vs H1 => ∃ a, vs = [.ref a] ∧ (∃ xs, SqL K H1 a xs) ∧ R (Ite K a) H1
theorem pi_enum (K : PySem.W.Frag) {a : Expr} {ta : TA} {p pos : Pos} (hg : Gl X "enumerate") (hm : X.mg "enumerate" = none) (ha : PA X [a] ta) (eK : X.K = K := by rfl) (hs : starEach [a] X.env = [(false, eval a X.env)] := by rfl) : PI X (.Tuple elts k tpos) (.Call (.Name "enumerate" p) [a] [] pos) (iEnum K ta) := by
  subst eK
  intro pins s σ H R I h
  refine Call_ (ld_blt I hg hm bt_enumerate (PyProof.Rows.callWith_type1 (thn (ha pos pins s σ H _ I h) fun us s1 ⟨vs, H1, I1, r1, q1⟩ => ?_) hs rfl))
  obtain ⟨l, e, ⟨xs, hq⟩, q⟩ := q1
  subst e
  cases r1 with
  | cons r rr =>
    cases rr
    cases r
    obtain ⟨its, rv, pl, hz⟩ := I1.list hq
    refine call_enumerate_list pl.isList fun h' he hit hsz hk => ?_
    have I2 : Inv X pins σ H1 { s1 with heap := h' } := I1.kept (t' := s1.toks) hk
    refine wpAny_pyIter_enum (s := { s1 with heap := h' }) he ?_
    refine ⟨s1.heap.objs.size + 1, [s1.heap.objs.size + 1, s1.heap.objs.size], _, _, H1, rfl, I2, turn_enum l _ _ (Nat.ne_of_gt (Nat.lt_succ_self _)), ⟨⟨_, he⟩, hit⟩, fun b hb => ?_, q⟩
    rcases List.mem_cons.mp hb with z | hb
    · subst z
      exact I1.fpOk (Nat.le_succ _) (I1.hok.fresh (Nat.le_succ _))
    · have z : b = s1.heap.objs.size := by simpa using hb
      subst z
      exact I1.fpOk (Nat.le_refl _) (I1.hok.fresh (Nat.le_refl _))
end
structure ZA (z TI TO i1 i2 : Addr) : Prop where
  d : [z, TI, TO, i1, i2].Nodup
theorem ZA.apart {z TI TO i1 i2 l1 l2 : Addr} (h : ZA z TI TO i1 i2) (h1 : l1 ∉ [z, TI, TO, i1, i2]) (h2 : l2 ∉ [z, TI, TO, i1, i2]) : ZipApart z TI TO i1 i2 l1 l2 := by
  have := h.d
  simp only [List.nodup_cons, List.mem_cons, List.not_mem_nil, or_false, not_or, not_false_eq_true, List.nodup_nil, and_true] at this h1 h2
  obtain ⟨⟨a1, a2, a3, a4⟩, ⟨b1, b2, b3⟩, ⟨c1, c2⟩, d1⟩ := this
  obtain ⟨e1, e2, e3, e4, e5⟩ := h1
  obtain ⟨f1, f2, f3, f4, f5⟩ := h2
  exact ⟨Ne.symm a1, Ne.symm a2, Ne.symm a3, Ne.symm a4, b1, b2, b3, c1, c2, d1, e1, e3, e4, e5, f1, f3, f4, f5⟩
section
variable {X : Cx} {elts : List Expr} {k : Nat} {tpos : Pos}
end
/-! ### the forms one uses -/
theorem for_enum {K : PySem.W.Frag} {a : Addr} {xs : List V} {g : TG} {tb : TS} {D : Ends} {σ : St} {H : Hp} (Pv : Nat → St → Hp → Prop) (h0 : Pv 0 σ H) (hl : ∀ i σ H, i ≤ xs.length → Pv i σ H → SqL K H a xs)
    (hs : ∀ i x σ H t, xs[i]? = some x → Pv i σ H → H t = none → g (.ref t) σ (upd H t (.tup [.int (i : Nat), x])) fun σ2 H2 => tb { D with nx := Pv (i + 1), ct := Pv (i + 1), bk := D.nx } σ2 H2) (hd : ∀ σ H, Pv xs.length σ H → D.nx σ H) :
    ∃ W : Nat → Nat → St → Hp → Prop, (∃ m, W 0 m σ H) ∧ ∀ i m σ H, W i m σ H →
      ((Ite K a).stop i H ∧ D.nx σ H) ∨ ((Ite K a).go i H ∧ ∃ N : St → Hp → Prop, (∀ σ' H', N σ' H' → ∃ m', m' < m ∧ W (i + 1) m' σ' H') ∧ ∀ x H', (Ite K a).yld i H x H' → g x σ H' fun σ2 H2 => tb { D with nx := N, ct := N, bk := D.nx } σ2 H2) := by
  refine ⟨fun i m σ H => m = xs.length - i ∧ i ≤ xs.length ∧ Pv i σ H, ⟨xs.length, by simp, Nat.zero_le _, h0⟩, ?_⟩
  rintro i m σ H ⟨rfl, hi, p⟩
  have q := hl i σ H hi p
  by_cases hlt : i < xs.length
  · refine .inr ⟨⟨xs, xs[i], q, by simp [hlt]⟩, Pv (i + 1), fun σ' H' p' => ⟨xs.length - (i + 1), by omega, rfl, hlt, p'⟩, fun x H' y => ?_⟩
    obtain ⟨t, y, ht, rfl, rfl, hy⟩ := y
    exact hs i y σ H t (hy xs q) p ht
  · have e : i = xs.length := by omega
    subst e
    exact .inl ⟨⟨xs, q, Nat.le_refl _⟩, hd σ H p⟩
end L2

set_option Elab.async false
set_option linter.all false
set_option maxRecDepth 100000
set_option maxHeartbeats 4000000
namespace L2
open PySem PySem.Spec PyProof.Rows
/-! ### o.m(..), the class of o seen when it is read -/
/-- what a class must have for the method m -/
structure MOk (P : Program) (w : World) (K : PySem.W.Frag) (mg : Str → Option Value) (base : Heap) (CX : CXT) (k : Nat) (C : Addr) (m : Str) (ps : List Str) (ds : List Value) (sp : Sp) : Prop where
  ex : ∃ (f : Addr) (fd : FuncData), Cls K C ∧ Meth K C m f ∧ FnOk P w K mg base CX k f fd ps sp ∧ Binds K fd ps ds
def tMethD (m : Str) (ok : Addr → Prop) (sp : Addr → Sp) (dvs : List V) (E : XK) (ta : TE) (t : TA) : TE := fun σ H Q => ta σ H fun x H1 => ∃ a C dx fs, x = .ref a ∧ H1 a = some (.ins C dx fs) ∧ ok C ∧ fs.lookup m = none ∧
  t σ H1 fun vs H2 => sp C (x :: (vs ++ dvs)) H2 Q E
section
variable {X : Cx} {CX : CXT} {k : Nat} {ps : List Str} {ok : Addr → Prop} {sp : Addr → Sp} {dvs : List V} {ds : List Value} {E : XK} {m : Str} {pos apos : Pos} {e o : Expr} {es : List Expr} {ta : TE} {t : TA} {pins : List (Addr × Obj)} {σ : St}
theorem pe_methD {pl : Sem Bool} (he : PE X o ta) (hC : ∀ C, ok C → MOk X.prog X.w X.K X.mg X.base CX k C m ps ds (sp C)) (hr : Room k X.A) (hd : Vals dvs ds) (hx : Passes CX X E) (ha : PA X (e :: es) t)
    (hst : starEach (e :: es) X.env = (false, eval e X.env) :: starEach es X.env := by rfl) (hpl : (backTo pos (starEach es X.env)).any (·.1) = false := by rfl)
    (ht : eval (.Call (.Attribute o m apos) (e :: es) [] pos) X.env = (do
      let ov ← eval o X.env
      standAt apos.atName
      let (f, first) ← holding [ov] (getMethod ov m pl)
      callWith pos f first (backTo pos (starEach (e :: es) X.env)) (backToKw pos (keywordEach [] X.env))) := by rfl) :
    PE X (.Call (.Attribute o m apos) (e :: es) [] pos) (tMethD m ok sp dvs E ta t) := by
  intro pins s σ H Q I h
  refine PySem.W.methodCall_KW (pl := pl) (thn (he pins s σ H _ I h) fun u s1 ⟨x, H1, I1, rx, a, C, dx, fs, ex, ea, okC, l, q⟩ => ?_) ht
  subst ex
  obtain rfl : u = Value.ref a := rx
  obtain ⟨f, fd, c, hm, F, hb⟩ := (hC C okC).ex
  refine getmeth_ok I1 ea c hm l ?_
  refine PySem.W.callWith_K (first := [.ref a]) (h₀ := X.base) I.ok.mod.kin hm.kp (thn (ha pos pins s1 σ H1 _ I1 q) fun us s2 ⟨vs, H2, I2, r, q2⟩ => ⟨I2.kIn, ?_⟩) hst hpl
  exact run_fn (us := .ref a :: us) (vs := .ref a :: vs) F hr hb hd hx I2 (.cons rfl r) q2
theorem pe_methD0 {pl : Sem Bool} (he : PE X o ta) (hC : ∀ C, ok C → MOk X.prog X.w X.K X.mg X.base CX k C m ps ds (sp C)) (hr : Room k X.A) (hd : Vals dvs ds) (hx : Passes CX X E)
    (ht : eval (.Call (.Attribute o m apos) [] [] pos) X.env = (do
      let ov ← eval o X.env
      standAt apos.atName
      let (f, first) ← holding [ov] (getMethod ov m pl)
      callWith pos f first (backTo pos (starEach [] X.env)) (backToKw pos (keywordEach [] X.env))) := by rfl) :
    PE X (.Call (.Attribute o m apos) [] [] pos) (tMethD m ok sp dvs E ta tNil) := by
  intro pins s σ H Q I h
  refine PySem.W.methodCall_KW (pl := pl) (thn (he pins s σ H _ I h) fun u s1 ⟨x, H1, I1, rx, a, C, dx, fs, ex, ea, okC, l, q⟩ => ?_) ht
  subst ex
  obtain rfl : u = Value.ref a := rx
  obtain ⟨f, fd, c, hm, F, hb⟩ := (hC C okC).ex
  refine getmeth_ok I1 ea c hm l ?_
  exact PySem.W.callWith_K0 (first := [.ref a]) I1.kIn hm.kp (run_fn (us := [.ref a]) (vs := [.ref a]) F hr hb hd hx I1 (.cons rfl .nil) q)
theorem pe_methDAt {pl : Sem Bool} (he : PE X o ta) (hC : ∀ C, ok C → MOk X.prog X.w X.K X.mg X.base CX k C m ps ds (sp C)) (hr : Room k X.A) (hd : Vals dvs ds) (hx : PassesAt CX X pins σ E) (ha : PA X (e :: es) t)
    (hst : starEach (e :: es) X.env = (false, eval e X.env) :: starEach es X.env := by rfl) (hpl : (backTo pos (starEach es X.env)).any (·.1) = false := by rfl)
    (ht : eval (.Call (.Attribute o m apos) (e :: es) [] pos) X.env = (do
      let ov ← eval o X.env
      standAt apos.atName
      let (f, first) ← holding [ov] (getMethod ov m pl)
      callWith pos f first (backTo pos (starEach (e :: es) X.env)) (backToKw pos (keywordEach [] X.env))) := by rfl) :
    PEat X pins σ (.Call (.Attribute o m apos) (e :: es) [] pos) (tMethD m ok sp dvs E ta t) := by
  intro s H Q I h
  refine PySem.W.methodCall_KW (pl := pl) (thn (he pins s σ H _ I h) fun u s1 ⟨x, H1, I1, rx, a, C, dx, fs, ex, ea, okC, l, q⟩ => ?_) ht
  subst ex
  obtain rfl : u = Value.ref a := rx
  obtain ⟨f, fd, c, hm, F, hb⟩ := (hC C okC).ex
  refine getmeth_ok I1 ea c hm l ?_
  refine PySem.W.callWith_K (first := [.ref a]) (h₀ := X.base) I.ok.mod.kin hm.kp (thn (ha pos pins s1 σ H1 _ I1 q) fun us s2 ⟨vs, H2, I2, r, q2⟩ => ⟨I2.kIn, ?_⟩) hst hpl
  exact run_fnAt (us := .ref a :: us) (vs := .ref a :: vs) F hr hb hd hx I2 (.cons rfl r) q2
theorem pe_methD0At {pl : Sem Bool} (he : PE X o ta) (hC : ∀ C, ok C → MOk X.prog X.w X.K X.mg X.base CX k C m ps ds (sp C)) (hr : Room k X.A) (hd : Vals dvs ds) (hx : PassesAt CX X pins σ E)
    (ht : eval (.Call (.Attribute o m apos) [] [] pos) X.env = (do
      let ov ← eval o X.env
      standAt apos.atName
      let (f, first) ← holding [ov] (getMethod ov m pl)
      callWith pos f first (backTo pos (starEach [] X.env)) (backToKw pos (keywordEach [] X.env))) := by rfl) :
    PEat X pins σ (.Call (.Attribute o m apos) [] [] pos) (tMethD m ok sp dvs E ta tNil) := by
  intro s H Q I h
  refine PySem.W.methodCall_KW (pl := pl) (thn (he pins s σ H _ I h) fun u s1 ⟨x, H1, I1, rx, a, C, dx, fs, ex, ea, okC, l, q⟩ => ?_) ht
  subst ex
  obtain rfl : u = Value.ref a := rx
  obtain ⟨f, fd, c, hm, F, hb⟩ := (hC C okC).ex
  refine getmeth_ok I1 ea c hm l ?_
  exact PySem.W.callWith_K0 (first := [.ref a]) I1.kIn hm.kp (run_fnAt (us := [.ref a]) (vs := [.ref a]) F hr hb hd hx I1 (.cons rfl .nil) q)
end
/-! ### a def with defaults -/
structure FunD (K : PySem.W.Frag) (x qual : Str) (st : Stmt) (f : Addr) (fd : FuncData) (dv : List Value) : Prop where
  ex : ∃ (oc : Value) (od : Option Addr) (T : Addr) (kV doc pm : Value) (an : Option Addr) (cdv ct : Value) (osl : Array (Option Value)) (o : Obj) (n : Nat),
    fd = PySem.W.fnOf x qual (defArgs st) (defBody st) (defScope st) (.ref T) kV doc pm an cdv ct ∧ K.lookup f = some ⟨oc, od, .func fd, osl⟩ ∧ PySem.W.codeIn K cdv qual = true ∧ K.lookup T = some o ∧ o.data = .seq dv.toArray n
  kp : PySem.W.keepIn K (.ref f) = true
section
variable {P : Program} {w : World} {K : PySem.W.Frag} {mg : Str → Option Value} {base : Heap} {x qual : Str} {st : Stmt} {f : Addr} {fd : FuncData} {dv : List Value}
theorem FunD.okX {N ps : List Str} {k : Nat} {sp : Sp} (F : FunD K x qual st f fd dv) (S : FnScope N ps (defScope st)) (len : ∀ vs H Q E, sp vs H Q E → vs.length = ps.length)
    (hbody : ∀ (cdv : Value) (A : Around) (outer : List Env) (s : Shared) (H : Hp) (vs : List V) (Q : VK) (E : XK), Room k (A.deeper (envOfC qual (defScope st) s.heap.objs.size f cdv)) → sp vs H Q E →
      ∃ t, PSs (cxX P w K mg base N qual (defScope st) f cdv A outer s H E) (defBody st) t ∧ t { nx := fun _ H' => Q .non H', rt := Q } (start N vs) H) : FnOk P w K mg base (CXE P w) (k + 1) f fd ps sp := by
  obtain ⟨oc, od, T, kV, doc, pm, an, cdv, ct, osl, o, n, rfl, lk, hcd, _, _⟩ := F.ex
  exact fn_of lk hcd S len fun A outer s H vs Q E hr hsp => hbody cdv A outer s H vs Q E hr hsp
/-- how its arguments bind, some of the last ones left to the defaults ds -/
theorem FunD.binds {ps : List Str} {ds : List Value} (F : FunD K x qual st f fd dv)
    (h : ∀ (T : Addr) (kV doc pm : Value) (an : Option Addr) (cdv ct : Value) (us : List Value), (us ++ ds).length = ps.length →
      ∃ k, bindArgs (PySem.W.fnOf x qual (defArgs st) (defBody st) (defScope st) (.ref T) kV doc pm an cdv ct) ⟨us, []⟩ = (seqItems? (.ref T) >>= k) ∧ k (some dv.toArray) = pure (ps.zip (us ++ ds))) : Binds K fd ps ds := by
  obtain ⟨oc, od, T, kV, doc, pm, an, cdv, ct, osl, o, n, rfl, lk, hcd, hT, hd⟩ := F.ex
  intro s us KI hl
  obtain ⟨k, e1, e2⟩ := h T kV doc pm an cdv ct us hl
  exact BindsTo.of_defaults rfl (KI _ _ hT) hd e1 e2
end
/-! ### a[i], b[j] = e: a tuple spread over two places -/
end L2

set_option Elab.async false
set_option linter.all false
set_option maxRecDepth 100000
set_option maxHeartbeats 4000000
namespace L2
open PySem PySem.Spec PyProof.Rows
theorem hu_k {k n : Nat} {A : Around} (hr : Room k A) (h : n ≤ 64) : A.units + n < cLine := Nat.lt_of_le_of_lt (Nat.add_le_add_left h _) hr.units
theorem hu_0 {k : Nat} {A : Around} (hr : Room k A) : A.units < cLine := hr.units0
/-- the comprehension's scopes, checked by counting -/
def cmpB (fs : Scope) (fN : List Str) (sc : Scope) (x : Str) (cap : List Str) (src : List Nat) : Bool :=
  (sc.kind == .function) && (sc.names.all fun y => y.2 != .cell) && (sc.names.all fun y => y.2 != .local || (sc.names.lookup y.1 == some .local)) && (sc.names.all fun y => y.2 != .local || !(sc.names.contains (y.1, NameKind.free)))
  && (sc.names.lookup x == some .local) && (sc.names.all fun y => y.2 != .free || (fs.names.lookup y.1 == some .cell)) && (src.length == cap.length) && ((cap.zip src).all fun z => (fN[z.2]? == some z.1) && sc.names.contains (z.1, NameKind.free))
theorem CmpSc.of {X : Cx} {fs : Scope} {fN : List Str} {sc : Scope} {x : Str} {cap : List Str} {src : List Nat} (e1 : X.env.scope = fs) (e2 : X.N = fN) (h : cmpB fs fN sc x cap src = true) : CmpSc X sc x (x :: cap) cap src := by
  unfold cmpB at h
  simp only [Bool.and_eq_true, beq_iff_eq, List.all_eq_true, Bool.or_eq_true, bne_iff_ne, ne_eq, Bool.not_eq_true'] at h
  obtain ⟨⟨⟨⟨⟨⟨⟨h1, h2⟩, h3⟩, h4⟩, h5⟩, h6⟩, h7⟩, h8⟩ := h
  refine ⟨h1, fun y hy => h2 y hy, fun y hy hl => ?_, fun y hy hl => ?_, h5, fun y hy hf => ?_, rfl, h7, fun j y i hj hi => ?_⟩
  · rcases h3 y hy with z | z
    · exact absurd hl z
    · exact z
  · rcases h4 y hy with z | z
    · exact absurd hl z
    · intro hm
      rw [List.contains_iff_mem.mpr hm] at z
      cases z
  · rcases h6 y hy with z | z
    · exact absurd hf z
    · rw [e1]; exact z
  · have hm : (y, i) ∈ cap.zip src := by
      refine List.mem_of_getElem? (i := j) ?_
      rw [List.getElem?_zip_eq_some]
      exact ⟨hj, hi⟩
    obtain ⟨z1, z2⟩ := h8 (y, i) hm
    rw [e2]
    exact ⟨z1, List.contains_iff_mem.mp z2⟩
/-! ### methods of built-in values, the part K named -/
section
variable {X : Cx} (K : PySem.W.Frag) {o e : Expr} {es : List Expr} {to : TE} {t : TA} {name : Str} {apos cpos : Pos} {T id : String} {r : V → List V → Hp → VK → Prop}
theorem pe_bm0K (pa : PlainAttrs T) (slot : Slot T name id) (hty : typeOf (.builtin id) = pure (.type "method_descriptor")) (hm : MtM X id r) (ho : PE X o to) (eK : X.K = K := by rfl)
    (hbase : attributeBase o name X.env (eval o X.env) = eval o X.env := by rfl) (hline : (apos.endLine == cpos.line) = true := by rfl) : PE X (.Call (.Attribute o name apos) [] [] cpos) (tBM0 K T r to) := by
  subst eK; exact pe_bm0 pa slot hty hm ho hbase hline
theorem pe_bmK (pa : PlainAttrs T) (slot : Slot T name id) (hty : typeOf (.builtin id) = pure (.type "method_descriptor")) (hm : MtM X id r) (ho : PE X o to) (ha : PA X (e :: es) t) (eK : X.K = K := by rfl)
    (hbase : attributeBase o name X.env (eval o X.env) = eval o X.env := by rfl)
    (hfew : ((backTo cpos (starEach (e :: es) X.env)).all (fun x => !x.1) && (backToKw cpos (keywordEach [] X.env)).all (fun x => x.1.isSome)
      && decide ((e :: es).length + ([] : List Keyword).length + (if ([] : List Keyword).isEmpty then 0 else 1) < 30)) = true := by rfl)
    (hline : (apos.endLine == cpos.line) = true := by rfl) (hs : starEach (e :: es) X.env = (false, eval e X.env) :: starEach es X.env := by rfl) (hplain : (backTo cpos (starEach es X.env)).any (·.1) = false := by rfl) :
    PE X (.Call (.Attribute o name apos) (e :: es) [] cpos) (tBM K T r to t) := by
  subst eK; exact pe_bm pa slot hty hm ho ha hbase hfew hline hs hplain
end
end L2

set_option Elab.async false
set_option linter.all false
set_option maxRecDepth 100000
set_option maxHeartbeats 4000000
namespace L2
open PySem PySem.Spec PyProof.Rows
/-! ### readings more -/
section
variable {σ : St} {H : Hp} {Q : VK} {D : Ends} {ta tb tv : TE} {t : TA} {K : PySem.W.Frag} {f m : Str}
theorem rd_methD {ok : Addr → Prop} {sp : Addr → Sp} {dvs : List V} {E : XK} (h : ta σ H fun x H1 => ∃ a C dx fs, x = .ref a ∧ H1 a = some (.ins C dx fs) ∧ ok C ∧ fs.lookup m = none ∧ t σ H1 fun vs H2 => sp C (x :: (vs ++ dvs)) H2 Q E) : tMethD m ok sp dvs E ta t σ H Q := h
theorem rd_fld (h : ta σ H fun x H1 => ∃ a C dx fs v, x = .ref a ∧ H1 a = some (.ins C dx fs) ∧ Cls K C ∧ NoAttr K C f ∧ fs.lookup f = some v ∧ Q v H1) : tFld K ta f σ H Q := h
theorem rd_fldS (h : tv σ H fun y H1 => ta σ H1 fun x H2 => ∃ a C dx fs, x = .ref a ∧ H2 a = some (.ins C dx fs) ∧ Cls K C ∧ NoAttr K C f ∧ fs.length < 1000 ∧ D.nx σ (upd H2 a (.ins C dx (putF f y fs)))) : sFld K ta tv f D σ H := h
theorem rd_bm0 {T : String} {r : V → List V → Hp → VK → Prop} (h : ta σ H fun x H1 => tyV K T x H1 ∧ r x [] H1 Q) : tBM0 K T r ta σ H Q := h
theorem rd_bm {T : String} {r : V → List V → Hp → VK → Prop} (h : ta σ H fun x H1 => tyV K T x H1 ∧ t σ H1 fun xs H2 => r x xs H2 Q) : tBM K T r ta t σ H Q := h
theorem rd_for {wi : TI} {g : TG} {tbd : TS} (h : wi σ H fun J H1 => ∃ W : Nat → Nat → St → Hp → Prop, (∃ m, W 0 m σ H1) ∧ ∀ i m σ H, W i m σ H →
    (J.stop i H ∧ D.nx σ H) ∨ (J.go i H ∧ ∃ N : St → Hp → Prop, (∀ σ' H', N σ' H' → ∃ m', m' < m ∧ W (i + 1) m' σ' H') ∧ ∀ x H', J.yld i H x H' → g x σ H' fun σ2 H2 => tbd { D with nx := N, ct := N, bk := D.nx } σ2 H2)) : tFor wi g tbd D σ H := h
theorem rd_iL {R : It → Hp → Prop} (h : ta σ H fun x H1 => ∃ a, x = .ref a ∧ (∃ xs, SqL K H1 a xs) ∧ R (Itl K a) H1) : iList K ta σ H R := h
theorem rd_iE {R : It → Hp → Prop} (h : t σ H fun vs H1 => ∃ a, vs = [.ref a] ∧ (∃ xs, SqL K H1 a xs) ∧ R (Ite K a) H1) : iEnum K t σ H R := h
theorem rd_sub {ti : TE} {ts : TSet} {v : V} {R : St → Hp → Prop} (h : ta σ H fun o H1 => ti σ H1 fun i H2 => ts o i v H2 fun H3 => R σ H3) : gSub ta ti ts v σ H R := h
theorem rd_dput {td ty : TE} (h : tv σ H fun v H1 => td σ H1 fun x H2 => ty σ H2 fun y H3 => ∃ a H4, x = .ref a ∧ DPut H3 a y v H4 ∧ D.nx σ H4) : sDPut td ty tv D σ H := h
theorem rd_dget {td ty : TE} (h : td σ H fun x H1 => ty σ H1 fun y H2 => ∃ a v, x = .ref a ∧ DGet H2 a y (some v) ∧ Q v H2) : tDGet td ty σ H Q := h
theorem rd_din {td ty : TE} (h : ty σ H fun y H1 => td σ H1 fun x H2 => ∃ a o, x = .ref a ∧ DGet H2 a y o ∧ Q (.bl o.isSome) H2) : tDIn ty td σ H Q := h
theorem rd_dnin {td ty : TE} (h : ty σ H fun y H1 => td σ H1 fun x H2 => ∃ a o, x = .ref a ∧ DGet H2 a y o ∧ Q (.bl (!o.isSome)) H2) : tDNotIn ty td σ H Q := h
theorem rd_dpop {td ty : TE} (h : td σ H fun x H1 => ∃ a, x = .ref a ∧ IsD H1 a ∧ ty σ H1 fun y H2 => ∃ kvs k v, H2 a = some (.dK kvs) ∧ y = kV k ∧ valV kvs k = some v ∧ Q v (upd H2 a (.dK (dropK kvs k)))) : tDPop1 td ty σ H Q := h
theorem rd_mk {C : Addr} {sp : Sp} {dvs : List V} {E : XK} (h : t σ H fun vs H1 => ∀ x dx, H1 x = none → H1 dx = none → dx ≠ x → sp (.ref x :: (vs ++ dvs)) (upd (upd H1 dx (.own x)) x (.ins C dx [])) (fun v H2 => v = .non ∧ Q (.ref x) H2) E) : tMake C sp dvs E t σ H Q := h
end
/-! ### things, their two orders -/
abbrev Th := Int × Int
def ahd (tn : Bool) (a b : Th) : Bool := if tn = true then pLt b a else pLt a b
def ahP (tn : Bool) (a b : Th) : Prop := ahd tn a b = true
theorem ahP_ord (tn : Bool) : Hm.Ord (ahP tn) := by
  cases tn
  · exact ⟨fun a h => by have := pLt_irr a; unfold ahP ahd at h; simp_all, fun a b c h g => by unfold ahP ahd at *; simp at *; exact pLt_tr h g, fun a b => by unfold ahP ahd; simp; exact pLt_tri a b⟩
  · exact ⟨fun a h => by have := pLt_irr a; unfold ahP ahd at h; simp_all, fun a b c h g => by unfold ahP ahd at *; simp at *; exact pLt_tr g h, fun a b => by unfold ahP ahd; simp; rcases pLt_tri a b with h | h | h <;> simp [h]⟩
/-! ### what is kept, what is grown -/
structure Fr (F F' : List Addr) (H H' : Hp) : Prop where
  keep : ∀ b o, b ∉ F → H b = some o → H' b = some o
  tup : ∀ b xs, H b = some (.tup xs) → H' b = some (.tup xs)
  grow : ∀ b, b ∈ F' → b ∈ F ∨ H b = none
theorem Fr.of_same {F : List Addr} {H H' : Hp} (s : Same H H') : Fr F F H H' := ⟨fun b o _ h => s b o h, fun b xs h => s b _ h, fun b h => .inl h⟩
theorem Fr.trans {F F1 F2 : List Addr} {H H1 H2 : Hp} (a : Fr F F1 H H1) (b : Fr F1 F2 H1 H2) : Fr F F2 H H2 := by
  refine ⟨fun c o hc h => ?_, fun c xs h => b.tup c xs (a.tup c xs h), fun c hc => ?_⟩
  · refine b.keep c o (fun z => ?_) (a.keep c o hc h)
    rcases a.grow c z with z | z
    · exact hc z
    · rw [z] at h; cases h
  · rcases b.grow c hc with z | z
    · exact a.grow c z
    · by_cases hF : c ∈ F
      · exact .inl hF
      · refine .inr ?_
        cases e : H c with
        | none => rfl
        | some o => rw [a.keep c o hF e] at z; cases z
/-- an object that stands outside of F -/
def Out (F : List Addr) (H : Hp) (b : Addr) (o : HO) : Prop := b ∉ F ∧ H b = some o
theorem Fr.out {F F' : List Addr} {H H' : Hp} {b : Addr} {o : HO} (a : Fr F F' H H') (h : Out F H b o) : Out F' H' b o :=
  ⟨fun z => (a.grow b z).elim h.1 (fun z => by rw [h.2] at z; cases z), a.keep b o h.1 h.2⟩
theorem Same.out {F : List Addr} {H H' : Hp} {b : Addr} {o : HO} (s : Same H H') (h : Out F H b o) : Out F H' b o := ⟨h.1, s b o h.2⟩
theorem pairs_tup {H H' : Hp} (ht : ∀ b xs, H b = some (.tup xs) → H' b = some (.tup xs)) {x : V} {p : Th} (h : kPair.R H x p) : kPair.R H' x p := by
  obtain ⟨a, rfl, q⟩ := kPair_at h
  exact kPair_of (ht _ _ q)
theorem pairs_keep {H H' : Hp} (ht : ∀ b xs, H b = some (.tup xs) → H' b = some (.tup xs)) {xs : List V} {ps : List Th} (h : Paired (kPair.R H) xs ps) : Paired (kPair.R H') xs ps := h.map' fun _ _ q => pairs_tup ht q
theorem Same.tup {H H' : Hp} (s : Same H H') : ∀ b xs, H b = some (.tup xs) → H' b = some (.tup xs) := fun b xs h => s b _ h
/-- a list of things, outside of F -/
structure ThO (F : List Addr) (H : Hp) (l : Addr) (ps : List Th) : Prop where
  ex : ∃ xs, Out F H l (.lst xs) ∧ Paired (kPair.R H) xs ps
theorem ThO.fr {F F' : List Addr} {H H' : Hp} {l : Addr} {ps : List Th} (h : ThO F H l ps) (a : Fr F F' H H') : ThO F' H' l ps := by
  obtain ⟨xs, o, p⟩ := h.ex
  exact ⟨xs, a.out o, pairs_keep a.tup p⟩
/-- the script: known, or outside of F -/
def Scr (K : PySem.W.Frag) (F : List Addr) (H : Hp) (a : Addr) (xs : List V) : Prop := (∀ H', SqL K H' a xs) ∨ ((∃ o, Out F H a o) ∧ SqL K H a xs)
theorem Scr.sq {K : PySem.W.Frag} {F : List Addr} {H : Hp} {a : Addr} {xs : List V} (h : Scr K F H a xs) : SqL K H a xs := h.elim (fun h => h H) fun h => h.2
theorem Scr.of {K : PySem.W.Frag} {H : Hp} {a : Addr} {xs : List V} (h : SqL K H a xs) : Scr K [] H a xs := by
  rcases h with (h | ⟨o, h⟩) | h
  · exact .inr ⟨⟨_, by simp, h⟩, .inl (.inl h)⟩
  · exact .inr ⟨⟨_, by simp, h⟩, .inl (.inr ⟨o, h⟩)⟩
  · exact .inl fun _ => .inr h
theorem Scr.fr {K : PySem.W.Frag} {F F' : List Addr} {H H' : Hp} {a : Addr} {xs : List V} (h : Scr K F H a xs) (f : Fr F F' H H') : Scr K F' H' a xs := by
  rcases h with h | ⟨⟨o, ho⟩, h⟩
  · exact .inl h
  · refine .inr ⟨⟨o, f.out ho⟩, ?_⟩
    rcases h with (h | ⟨u, h⟩) | h
    · exact .inl (.inl (f.keep _ _ ho.1 h))
    · exact .inl (.inr ⟨u, f.keep _ _ ho.1 h⟩)
    · exact .inr h
/-- a fresh thing stands outside of what is there -/
theorem out_new {F : List Addr} {H : Hp} {b : Addr} {o : HO} (hF : ∀ c ∈ F, H c ≠ none) (h : H b = none) : Out F (upd H b o) b o := ⟨fun z => hF b z h, upd_same⟩
/-! ### reading things -/
section
variable {K : PySem.W.Frag} {H : Hp} {Q : VK} {x y : V} {a b : Th}
theorem rd_ixP0 (h : kPair.R H x a) (q : Q (.int a.1) H) : rIxT K x (.int 0) H Q := by
  obtain ⟨t, rfl, e⟩ := kPair_at h
  exact rd_ixT (SqT.of e) rfl q
theorem rd_ixP1 (h : kPair.R H x a) (q : Q (.int a.2) H) : rIxT K x (.int 1) H Q := by
  obtain ⟨t, rfl, e⟩ := kPair_at h
  exact rd_ixT (SqT.of e) rfl q
theorem rd_ltP (h : kPair.R H x a) (g : kPair.R H y b) (q : Q (.bl (pLt a b)) H) : rLtT K x y H Q := by
  obtain ⟨t, rfl, e⟩ := kPair_at h
  obtain ⟨u, rfl, f⟩ := kPair_at g
  exact ⟨t, u, [a.1, a.2], [b.1, b.2], rfl, rfl, SqT.of e, SqT.of f, by rw [lexLt_pair]; exact q⟩
theorem rd_ixLP {l : Addr} {xs : List V} {ps : List Th} {i : Nat} (hl : SqL K H l xs) (hp : Paired (kPair.R H) xs ps) (hi : ps[i]? = some a) (q : ∀ x, kPair.R H x a → Q x H) : rIxL K (.ref l) (.int (i : Nat)) H Q := by
  obtain ⟨x, hx, r⟩ := hp.get' hi
  exact rd_ixL hl (atI_nat hx) (q x r)
end
theorem perm_sum {l r : List Int} (h : l.Perm r) : l.sum = r.sum := by
  induction h with
  | nil => rfl
  | cons x _ ih => simp [ih]
  | swap x y l => simp; omega
  | trans _ _ h1 h2 => exact h1.trans h2
theorem cutV_ints (ns : List Int) (lo hi : Option Int) : ∃ ms : List Int, cutV (ns.map V.int) lo hi = ms.map V.int ∧ ms.length ≤ ns.length := by
  unfold cutV
  refine ⟨(ns.drop (HT.sIx (ns.map V.int).length 0 lo)).take (HT.sIx (ns.map V.int).length (ns.map V.int).length hi - HT.sIx (ns.map V.int).length 0 lo), ?_, ?_⟩
  · rw [List.map_take, List.map_drop]
  · rw [List.length_take, List.length_drop]; omega
theorem map_get {ms : List Int} {i : Nat} {x : V} (h : (ms.map V.int)[i]? = some x) : ∃ c, x = .int c ∧ ms[i]? = some c := by
  rw [List.getElem?_map] at h
  cases e : ms[i]? with
  | none => rw [e] at h; cases h
  | some c => rw [e] at h; cases h; exact ⟨c, rfl, rfl⟩
theorem Fr.upd {F : List Addr} {H : Hp} {b : Addr} {o u : HO} (hb : b ∉ F) (h : H b = some u) (hu : ∀ xs, u ≠ .tup xs) : ∀ c xs, H c = some (.tup xs) → upd H b o c = some (.tup xs) := fun c xs hc => by
  rw [upd_ne]; exact hc
  rintro rfl
  rw [h] at hc; cases hc; exact hu _ rfl
theorem idx_in (c : Int) {n : Nat} (h : 0 < n) : ∃ j : Nat, j < n ∧ c % (n : Int) = (j : Nat) := by
  have h1 := Int.emod_nonneg c (show (n : Int) ≠ 0 by omega)
  have h2 := Int.emod_lt_of_pos c (show (0 : Int) < n by omega)
  exact ⟨(c % (n : Int)).toNat, by omega, by omega⟩
theorem seqIndex_nat {j n : Nat} (h : j < n) : seqIndex? (j : Int) n = some j := by
  have e : ixN n (j : Int) = some j := by
    unfold ixN
    simp only [Int.natCast_nonneg, if_true, Int.toNat_natCast]
    first | rw [if_pos h] | simp [h]
  exact (ixN_seq e).1
theorem popat_ok {l : Addr} {xs : List V} {j : Nat} {y : V} {H : Hp} {Q : VK} (h : H l = some (.lst xs)) (hz : xs.length ≤ sizeLine) (hj : xs[j]? = some y) (q : Q y (upd H l (.lst (xs.eraseIdx j)))) : rPopAt (.ref l) [.int (j : Nat)] H Q := by
  have h1 : j < xs.length := (List.getElem?_eq_some_iff.mp hj).1
  have h2 : sizeLine < 2 ^ 63 := by decide
  exact ⟨l, xs, _, j, y, rfl, rfl, h, by omega, by omega, seqIndex_nat h1, hj, q⟩
theorem Paired.erase {α β : Type} {F : α → β → Prop} : ∀ {xs : List α} {ds : List β} (j : Nat), Paired F xs ds → Paired F (xs.eraseIdx j) (ds.eraseIdx j)
  | _, _, _, .nil => by simpa using .nil
  | _, _, 0, .cons _ t => by simpa using t
  | _, _, j + 1, .cons r t => by simpa using .cons r (Paired.erase j t)
theorem erase_perm {α : Type} : ∀ {xs : List α} {j : Nat} {y : α}, xs[j]? = some y → xs.Perm (y :: xs.eraseIdx j)
  | [], _, _, h => by cases h
  | x :: xs, 0, y, h => by simp at h; subst h; simp
  | x :: xs, j + 1, y, h => by
    have := erase_perm (xs := xs) (j := j) (y := y) (by simpa using h)
    simp only [List.eraseIdx_cons_succ]
    exact (this.cons x).trans (.swap y x _)
theorem rd_eqN {D : Type} [DecidableEq D] {k : Kd D} {H : Hp} {Q : VK} {l e : Addr} {xs : List V} {ps : List D} (hl : H l = some (.lst xs)) (hp : Paired (k.R H) xs ps) (he : H e = some (.lst [])) (q1 : ps = [] → Q (.bl true) H) (q2 : ps ≠ [] → Q (.bl false) H) : rEqD (kLst k) (.ref l) (.ref e) H Q := by
  refine ⟨ps, [], ⟨l, xs, rfl, hl, hp⟩, ⟨e, [], rfl, he, .nil⟩, ?_⟩
  by_cases h : ps = []
  · rw [decide_eq_true h]; exact q1 h
  · rw [decide_eq_false h]; exact q2 h
theorem rd_neN {D : Type} [DecidableEq D] {k : Kd D} {H : Hp} {Q : VK} {l e : Addr} {xs : List V} {ps : List D} (hl : H l = some (.lst xs)) (hp : Paired (k.R H) xs ps) (he : H e = some (.lst [])) (q1 : ps = [] → Q (.bl false) H) (q2 : ps ≠ [] → Q (.bl true) H) : rNeD (kLst k) (.ref l) (.ref e) H Q := by
  refine ⟨ps, [], ⟨l, xs, rfl, hl, hp⟩, ⟨e, [], rfl, he, .nil⟩, ?_⟩
  by_cases h : ps = []
  · rw [decide_eq_true h]; exact q1 h
  · rw [decide_eq_false h]; exact q2 h
theorem Fr.cons {F F' : List Addr} {H H' : Hp} (f : Fr F F' H H') (k : Addr) : Fr (k :: F) (k :: F') H H' := by
  refine ⟨fun b o hb h => f.keep b o (fun z => hb (List.mem_cons_of_mem _ z)) h, f.tup, fun b hb => ?_⟩
  rcases List.mem_cons.mp hb with z | z
  · exact .inl (by rw [z]; exact List.mem_cons_self)
  · exact (f.grow b z).imp (fun z => List.mem_cons_of_mem _ z) id
theorem Fr.write {F : List Addr} {H : Hp} {b : Addr} {xs ys : List V} (hb : b ∈ F) (h : H b = some (.lst xs)) : Fr F F H (L2.upd H b (.lst ys)) :=
  ⟨fun c o hc q => by rw [upd_ne (fun e => hc (by rw [e]; exact hb))]; exact q, fun c zs q => by rw [upd_ne (ne_of q h (by simp))]; exact q, fun c hc => .inl hc⟩
theorem Same.cons {F : List Addr} {H H' : Hp} (s : Same H H') : Fr F F H H' := .of_same s
theorem nodup_inj {α β : Type} {f : α → β} : ∀ {l : List α}, (l.map f).Nodup → ∀ {a b : α}, a ∈ l → b ∈ l → f a = f b → a = b
  | [], _, _, _, ha, _, _ => by cases ha
  | x :: l, nd, a, b, ha, hb, e => by
    rw [List.map_cons, List.nodup_cons] at nd
    rcases List.mem_cons.mp ha with rfl | ha' <;> rcases List.mem_cons.mp hb with rfl | hb'
    · rfl
    · exact absurd (e ▸ List.mem_map_of_mem hb') nd.1
    · exact absurd (e ▸ List.mem_map_of_mem ha') nd.1
    · exact nodup_inj nd.2 ha' hb' e
theorem Out.cons {F : List Addr} {H : Hp} {b k : Addr} {o : HO} (h : Out F H b o) (ne : b ≠ k) : Out (k :: F) H b o := ⟨fun z => (List.mem_cons.mp z).elim ne h.1, h.2⟩
/-- told lists that are held beside copies of them -/
def Held (G : List Addr) (H : Hp) (hs : List V) : Prop := ∀ h ∈ hs, ∃ t l1 l2 zs ps, h = .ref t ∧ H t = some (.tup [.ref l1, .ref l2]) ∧ Out G H l1 (.lst zs) ∧ Out G H l2 (.lst zs) ∧ Paired (kPair.R H) zs ps
theorem Held.fr {G G' : List Addr} {H H' : Hp} {hs : List V} (h : Held G H hs) (f : Fr G G' H H') : Held G' H' hs := fun x hx => by
  obtain ⟨t, l1, l2, zs, ps, e, h1, h2, h3, h4⟩ := h x hx
  exact ⟨t, l1, l2, zs, ps, e, f.tup _ _ h1, f.out h2, f.out h3, pairs_keep f.tup h4⟩
theorem Scr.new {K : PySem.W.Frag} {F : List Addr} {H : Hp} {a b : Addr} {xs : List V} {o : HO} (h : Scr K F H a xs) (hb : H b = none) : Scr K (b :: F) (upd H b o) a xs := by
  have s := same_new hb o
  rcases h with h | ⟨⟨u, hu⟩, h⟩
  · exact .inl h
  · exact .inr ⟨⟨u, (s.out hu).cons (ne_of_none hu.2 hb)⟩, s.seq h⟩
/-- figures in twos -/
def bits (n : Nat) : Nat := if n = 0 then 0 else Nat.log2 n + 1
/-- so many different numbers from 1 to n -/
theorem nodup_len : ∀ {n : Nat} {l : List Int}, l.Nodup → (∀ c ∈ l, 1 ≤ c ∧ c ≤ (n : Int)) → l.length ≤ n
  | 0, [], _, _ => Nat.le_refl _
  | 0, c :: _, _, h => by have := h c (by simp); omega
  | n + 1, l, nd, h => by
    by_cases hm : ((n + 1 : Nat) : Int) ∈ l
    · have pm := List.perm_cons_erase hm
      have nd' := List.nodup_cons.mp (pm.nodup_iff.mp nd)
      have := nodup_len (n := n) nd'.2 fun c hc => by
        have h1 := h c (List.mem_of_mem_erase hc)
        have h2 : c ≠ ((n + 1 : Nat) : Int) := fun e => by rw [e] at hc; exact nd'.1 hc
        omega
      have e := pm.length_eq
      rw [List.length_cons] at e
      omega
    · have := nodup_len (n := n) nd fun c hc => by
        have h1 := h c hc
        have h2 : c ≠ ((n + 1 : Nat) : Int) := fun e => hm (by rw [← e]; exact hc)
        omega
      omega
end L2

set_option Elab.async false
set_option linter.all false
set_option maxRecDepth 100000
set_option maxHeartbeats 4000000
namespace L2
open PySem PySem.Spec PyProof.Rows
section
variable {X : Cx} (K : PySem.W.Frag)
theorem ps_fldaugK {o value : Expr} {f : Str} {pos tpos : Pos} {ta tv : TE} {op : Operator} {rd : V → V → Hp → VK → Prop} (ha : PE X o ta) (hv : PE X value tv) (hop : InOp X op rd) (eK : X.K = K := by rfl) : PS X (.AugAssign (.Attribute o f tpos) op value pos) (sFldAug K ta tv rd f) := by
  subst eK; exact ps_fldaug ha hv hop
end
theorem rd_fldaug {K : PySem.W.Frag} {ta tv : TE} {rd : V → V → Hp → VK → Prop} {f : Str} {D : Ends} {σ : St} {H : Hp} (h : ta σ H fun x H1 => ∃ a C dx fs v, x = .ref a ∧ H1 a = some (.ins C dx fs) ∧ Cls K C ∧ NoAttr K C f ∧ fs.lookup f = some v ∧
  tv σ H1 fun y H2 => rd v y H2 fun z H3 => ∃ dx' fs', H3 a = some (.ins C dx' fs') ∧ fs'.length < 1000 ∧ D.nx σ (upd H3 a (.ins C dx' (putF f z fs')))) : sFldAug K ta tv rd f D σ H := h
theorem rd_add {i j : Int} {H : Hp} {Q : VK} (q : Q (.int (i + j)) H) : rAdd (.int i) (.int j) H Q := ⟨i, j, rfl, rfl, q⟩
theorem rd_subI {i j : Int} {H : Hp} {Q : VK} (q : Q (.int (i - j)) H) : rSub (.int i) (.int j) H Q := ⟨i, j, rfl, rfl, q⟩
theorem rd_while {c : TT} {tb : TS} {D : Ends} {σ : St} {H : Hp} (W : Nat → St → Hp → Prop) (m : Nat) (h0 : W m σ H) (hs : ∀ m σ H, W m σ H → c σ H fun b H1 => if b = true then ∃ N : St → Hp → Prop, (∀ σ' H', N σ' H' → ∃ m', m' < m ∧ W m' σ' H') ∧ tb { D with nx := N, ct := N, bk := D.nx } σ H1 else D.nx σ H1) : tWhile c tb D σ H :=
  ⟨W, ⟨m, h0⟩, hs⟩
/-! ### dicts -/
section
variable {κ : Type} [DecidableEq κ]
theorem keys_putK {kvs : List (κ × V)} {k : κ} {v : V} : ∀ q ∈ (putK kvs k v).map (·.1), q = k ∨ q ∈ kvs.map (·.1) := by
  intro q hq
  unfold putK at hq
  split at hq
  · rw [List.map_map] at hq
    obtain ⟨x, hx, e⟩ := List.mem_map.mp hq
    refine .inr (List.mem_map.mpr ⟨x, hx, ?_⟩)
    rw [← e]
    simp only [Function.comp]
    split <;> rfl
  · rw [List.map_append] at hq
    rcases List.mem_append.mp hq with z | z
    · exact .inr z
    · exact .inl (by simpa using z)
theorem nd_putK' {kvs : List (κ × V)} {k : κ} (v : V) (hn : (kvs.map (·.1)).Nodup) : ((putK kvs k v).map (·.1)).Nodup := by
  cases e : valV kvs k with
  | none => exact nd_putK v hn e
  | some u =>
    unfold putK
    rw [valV_any, e]
    rw [if_pos (by rfl), List.map_map]
    have : ((fun x : κ × V => x.1) ∘ fun kv : κ × V => if kv.1 = k then (kv.1, v) else kv) = (·.1) := by
      funext x; simp only [Function.comp]; split <;> rfl
    rw [this]; exact hn
theorem valV_drop (kvs : List (κ × V)) (k j : κ) : valV (dropK kvs k) j = if j = k then none else valV kvs j := by
  induction kvs with
  | nil => split <;> rfl
  | cons p r ih =>
    by_cases e : p.1 = k
    · rw [dropK_pos e, ih]
      by_cases ej : j = k
      · rw [if_pos ej, if_pos ej]
      · rw [if_neg ej, if_neg ej, valV_neg (fun z => ej (by rw [← z, e]))]
    · rw [dropK_neg e]
      by_cases ep : p.1 = j
      · rw [valV_pos ep, valV_pos ep, if_neg (fun z => e (by rw [ep, z]))]
      · rw [valV_neg ep, valV_neg ep, ih]
theorem keys_dropK {kvs : List (κ × V)} {k : κ} : ∀ q ∈ (dropK kvs k).map (·.1), q ≠ k ∧ q ∈ kvs.map (·.1) := by
  intro q hq
  obtain ⟨x, hx, e⟩ := List.mem_map.mp hq
  refine ⟨?_, List.mem_map.mpr ⟨x, dropK_mem hx, e⟩⟩
  have := (List.mem_filter.mp hx).2
  simp at this
  rw [← e]; exact this
end
theorem nodup_sub {α : Type} [DecidableEq α] : ∀ {l r : List α}, l.Nodup → (∀ a ∈ l, a ∈ r) → l.length ≤ r.length
  | [], _, _, _ => Nat.zero_le _
  | a :: l, r, nd, h => by
    obtain ⟨h1, h2⟩ := List.nodup_cons.mp nd
    have pm := List.perm_cons_erase (h a (by simp))
    have := nodup_sub (r := r.erase a) h2 fun b hb => by
      have hb' : b ∈ a :: r.erase a := pm.mem_iff.mp (h b (List.mem_cons_of_mem _ hb))
      rcases List.mem_cons.mp hb' with z | z
      · subst z; exact absurd hb h1
      · exact z
    have e := pm.length_eq
    rw [List.length_cons] at e ⊢
    omega
/-! ### lists -/
theorem eraseIdx_set_same {α : Type} : ∀ (xs : List α) (i : Nat) (b : α), (xs.set i b).eraseIdx i = xs.eraseIdx i
  | [], _, _ => rfl
  | _ :: _, 0, _ => rfl
  | x :: xs, i + 1, b => by simp [eraseIdx_set_same xs i b]
theorem set_perm {α : Type} {xs : List α} {i : Nat} {b : α} (h : i < xs.length) : (xs.set i b).Perm (b :: xs.eraseIdx i) := by
  have := erase_perm (xs := xs.set i b) (j := i) (y := b) (by rw [List.getElem?_set_self h])
  rw [eraseIdx_set_same] at this
  exact this
theorem swap_perm {α : Type} {xs : List α} {i j : Nat} {a b : α} (hi : xs[i]? = some a) (hj : xs[j]? = some b) (hn : i ≠ j) : (Hm.swap xs i j a b).Perm xs := by
  have h1 : i < xs.length := (List.getElem?_eq_some_iff.mp hi).1
  have h2 : j < xs.length := (List.getElem?_eq_some_iff.mp hj).1
  unfold Hm.swap
  have p1 : ((xs.set i b).set j a).Perm (a :: (xs.set i b).eraseIdx j) := set_perm (by simpa using h2)
  have p2 : (xs.set i b).Perm (b :: (xs.set i b).eraseIdx j) := erase_perm (by rw [List.getElem?_set_ne hn]; exact hj)
  have p3 : (xs.set i b).Perm (b :: xs.eraseIdx i) := set_perm h1
  have p4 : ((xs.set i b).eraseIdx j).Perm (xs.eraseIdx i) := (p2.symm.trans p3).cons_inv
  exact p1.trans ((p4.cons a).trans (erase_perm hi).symm)
theorem set_same {α : Type} : ∀ {xs : List α} {i : Nat} {a : α}, xs[i]? = some a → xs.set i a = xs
  | [], _, _, h => by cases h
  | x :: xs, 0, a, h => by simp at h; subst h; rfl
  | x :: xs, i + 1, a, h => by rw [List.set_cons_succ, set_same (by simpa using h)]
theorem Paired.set {α β : Type} {F : α → β → Prop} : ∀ {xs : List α} {ds : List β} (j : Nat) {x : α} {d : β}, Paired F xs ds → F x d → Paired F (xs.set j x) (ds.set j d)
  | _, _, _, _, _, .nil, _ => by simpa using .nil
  | _, _, 0, _, _, .cons _ t, h => .cons h t
  | _, _, j + 1, _, _, .cons r t, h => .cons r (Paired.set j t h)
theorem Paired.dropLast {α β : Type} {F : α → β → Prop} : ∀ {xs : List α} {ds : List β}, Paired F xs ds → Paired F xs.dropLast ds.dropLast
  | _, _, .nil => .nil
  | _, _, .cons _ .nil => .nil
  | _, _, .cons r (.cons s t) => .cons r (Paired.dropLast (.cons s t))
/-! ### where each coming lies -/
/-- all but place k are told by the dict; it has no key beside theirs -/
structure SpotsAt (kvs : List (Key × V)) (vs : List Th) (k : Nat) : Prop where
  nd : (kvs.map (·.1)).Nodup
  sub : ∀ q ∈ kvs.map (·.1), ∃ t ∈ vs, q = .inl t.2
  val : ∀ i t, i ≠ k → vs[i]? = some t → valV kvs (.inl t.2) = some (.int (i : Nat))
structure SpotsOk (kvs : List (Key × V)) (vs : List Th) : Prop where
  nd : (kvs.map (·.1)).Nodup
  sub : ∀ q ∈ kvs.map (·.1), ∃ t ∈ vs, q = .inl t.2
  val : ∀ i t, vs[i]? = some t → valV kvs (.inl t.2) = some (.int (i : Nat))
theorem spots_len {kvs : List (Key × V)} {vs : List Th} (nd : (kvs.map (·.1)).Nodup) (sub : ∀ q ∈ kvs.map (·.1), ∃ t ∈ vs, q = .inl t.2) : kvs.length ≤ vs.length := by
  have := nodup_sub (r := vs.map fun t => (Sum.inl t.2 : Key)) nd fun q hq => by
    obtain ⟨t, ht, e⟩ := sub q hq
    rw [e]
    exact List.mem_map.mpr ⟨t, ht, rfl⟩
  simpa using this
theorem SpotsAt.len {kvs : List (Key × V)} {vs : List Th} {k : Nat} (S : SpotsAt kvs vs k) : kvs.length ≤ vs.length := spots_len S.nd S.sub
theorem SpotsOk.len {kvs : List (Key × V)} {vs : List Th} (S : SpotsOk kvs vs) : kvs.length ≤ vs.length := spots_len S.nd S.sub
theorem SpotsOk.at {kvs : List (Key × V)} {vs : List Th} (S : SpotsOk kvs vs) (k : Nat) : SpotsAt kvs vs k := ⟨S.nd, S.sub, fun i t _ h => S.val i t h⟩
theorem SpotsOk.hasNot {kvs : List (Key × V)} {vs : List Th} (S : SpotsOk kvs vs) {c : Int} (h : ∀ t ∈ vs, t.2 ≠ c) : valV kvs (.inl c) = none := by
  cases e : valV kvs (.inl c) with
  | none => rfl
  | some v =>
    obtain ⟨t, ht, q⟩ := S.sub _ (valV_in e)
    cases q
    exact absurd rfl (h t ht)
theorem SpotsOk.has {kvs : List (Key × V)} {vs : List Th} (S : SpotsOk kvs vs) {t : Th} (h : t ∈ vs) : ∃ i : Nat, vs[i]? = some t ∧ valV kvs (.inl t.2) = some (.int (i : Nat)) := by
  obtain ⟨i, hi⟩ := List.getElem?_of_mem h
  exact ⟨i, hi, S.val i t hi⟩
theorem nod_ne {vs : List Th} (nd : (vs.map (·.2)).Nodup) {i j : Nat} {a b : Th} (hi : vs[i]? = some a) (hj : vs[j]? = some b) (hn : i ≠ j) : a.2 ≠ b.2 := by
  intro e
  have h1 : (vs.map (·.2))[i]? = some a.2 := by rw [List.getElem?_map, hi]; rfl
  have h2 : (vs.map (·.2))[j]? = some b.2 := by rw [List.getElem?_map, hj]; rfl
  have l1 : i < (vs.map (·.2)).length := (List.getElem?_eq_some_iff.mp h1).1
  exact hn ((List.getElem?_inj l1 nd).mp (by rw [h1, h2, e]))
/-- the thing at the open place is laid -/
theorem SpotsAt.lay {kvs : List (Key × V)} {vs : List Th} {k : Nat} {t : Th} (S : SpotsAt kvs vs k) (nd : (vs.map (·.2)).Nodup) (h : vs[k]? = some t) : SpotsOk (putK kvs (.inl t.2) (.int (k : Nat))) vs := by
  refine ⟨nd_putK' _ S.nd, fun q hq => ?_, fun i u hi => ?_⟩
  · rcases keys_putK q hq with z | z
    · exact ⟨t, List.mem_of_getElem? h, z⟩
    · exact S.sub q z
  · rw [valV_put]
    by_cases e : i = k
    · subst e
      rw [h] at hi; cases hi
      rw [if_pos rfl]
    · rw [if_neg (fun z => nod_ne nd hi h e (Sum.inl.inj z))]
      exact S.val i u e hi
/-- the thing at j goes to the open place k; now j is open -/
theorem SpotsAt.move {kvs : List (Key × V)} {vs : List Th} {k j : Nat} {a b : Th} (S : SpotsAt kvs vs k) (nd : (vs.map (·.2)).Nodup) (hk : vs[k]? = some a) (hj : vs[j]? = some b) (hn : k ≠ j) : SpotsAt (putK kvs (.inl b.2) (.int (k : Nat))) (Hm.swap vs k j a b) j := by
  have g := Hm.swap_get hk hj
  refine ⟨nd_putK' _ S.nd, fun q hq => ?_, fun i u hi hu => ?_⟩
  · have hm : ∀ t, t ∈ Hm.swap vs k j a b ↔ t ∈ vs := fun t => (swap_perm hk hj hn).mem_iff
    rcases keys_putK q hq with z | z
    · exact ⟨b, (hm b).mpr (List.mem_of_getElem? hj), z⟩
    · obtain ⟨t, ht, e⟩ := S.sub q z
      exact ⟨t, (hm t).mpr ht, e⟩
  · rw [g, if_neg hi] at hu
    rw [valV_put]
    by_cases e : i = k
    · subst e
      rw [if_pos rfl] at hu; cases hu
      rw [if_pos rfl]
    · rw [if_neg e] at hu
      rw [if_neg (fun z => nod_ne nd hu hj hi (Sum.inl.inj z))]
      exact S.val i u e hu
/-- one more at the end, its place open -/
theorem SpotsOk.push {kvs : List (Key × V)} {vs : List Th} (S : SpotsOk kvs vs) (t : Th) : SpotsAt kvs (vs ++ [t]) vs.length := by
  refine ⟨S.nd, fun q hq => ?_, fun i u hi hu => ?_⟩
  · obtain ⟨u, hu, e⟩ := S.sub q hq
    exact ⟨u, List.mem_append_left _ hu, e⟩
  · have : i < (vs ++ [t]).length := (List.getElem?_eq_some_iff.mp hu).1
    simp at this
    rw [List.getElem?_append_left (by omega)] at hu
    exact S.val i u hu
/-- the thing at k is taken out, the last one shall come there -/
theorem SpotsOk.take {kvs : List (Key × V)} {vs : List Th} (S : SpotsOk kvs vs) (nd : (vs.map (·.2)).Nodup) {k : Nat} {t u : Th} (hk : vs[k]? = some t) (hu : vs[vs.length - 1]? = some u) (hl : k < vs.length - 1) : SpotsAt (dropK kvs (.inl t.2)) (vs.dropLast.set k u) k := by
  have gd : ∀ i, i < vs.length - 1 → vs.dropLast[i]? = vs[i]? := fun i hi => by
    rw [List.getElem?_dropLast, if_pos hi]
  have ld : vs.dropLast.length = vs.length - 1 := List.length_dropLast
  refine ⟨nd_dropK S.nd, fun q hq => ?_, fun i w hi hw => ?_⟩
  · obtain ⟨hne, hin⟩ := keys_dropK q hq
    obtain ⟨w, hw, e⟩ := S.sub q hin
    obtain ⟨i, hi⟩ := List.getElem?_of_mem hw
    have hli : i < vs.length := (List.getElem?_eq_some_iff.mp hi).1
    by_cases e1 : i = k
    · subst e1
      rw [hk] at hi; cases hi
      exact absurd e hne
    · by_cases e2 : i = vs.length - 1
      · rw [e2, hu] at hi; cases hi
        exact ⟨u, List.mem_of_getElem? (i := k) (by rw [List.getElem?_set_self (by omega)]), e⟩
      · exact ⟨w, List.mem_of_getElem? (i := i) (by rw [List.getElem?_set_ne (Ne.symm e1), gd i (by omega)]; exact hi), e⟩
  · rw [List.getElem?_set_ne (Ne.symm hi)] at hw
    have hli : i < vs.dropLast.length := (List.getElem?_eq_some_iff.mp hw).1
    rw [gd i (by omega)] at hw
    rw [valV_drop, if_neg (fun z => nod_ne nd hw hk hi (Sum.inl.inj z))]
    exact S.val i w hw
/-- the last one is taken out -/
theorem SpotsOk.takeLast {kvs : List (Key × V)} {vs : List Th} (S : SpotsOk kvs vs) (nd : (vs.map (·.2)).Nodup) {t : Th} (hk : vs[vs.length - 1]? = some t) : SpotsOk (dropK kvs (.inl t.2)) vs.dropLast := by
  have gd : ∀ i, i < vs.length - 1 → vs.dropLast[i]? = vs[i]? := fun i hi => by
    rw [List.getElem?_dropLast, if_pos hi]
  have ld : vs.dropLast.length = vs.length - 1 := List.length_dropLast
  refine ⟨nd_dropK S.nd, fun q hq => ?_, fun i w hw => ?_⟩
  · obtain ⟨hne, hin⟩ := keys_dropK q hq
    obtain ⟨w, hw, e⟩ := S.sub q hin
    obtain ⟨i, hi⟩ := List.getElem?_of_mem hw
    have hli : i < vs.length := (List.getElem?_eq_some_iff.mp hi).1
    by_cases e2 : i = vs.length - 1
    · rw [e2, hk] at hi; cases hi
      exact absurd e hne
    · exact ⟨w, List.mem_of_getElem? (i := i) (by rw [gd i (by omega)]; exact hi), e⟩
  · have hli : i < vs.dropLast.length := (List.getElem?_eq_some_iff.mp hw).1
    rw [gd i (by omega)] at hw
    rw [valV_drop, if_neg (fun z => nod_ne nd hw hk (by omega) (Sum.inl.inj z))]
    exact S.val i w hw
theorem nod_perm {vs us : List Th} (p : vs.Perm us) (h : (us.map (·.2)).Nodup) : (vs.map (·.2)).Nodup := (p.map (·.2)).nodup_iff.mpr h
theorem sum_perm {vs us : List Th} (p : vs.Perm us) : (vs.map (·.1)).sum = (us.map (·.1)).sum := perm_sum (p.map (·.1))
/-- the list with the thing at k out and the last one there -/
theorem take_perm {vs : List Th} {k : Nat} {t u : Th} (hk : vs[k]? = some t) (hu : vs[vs.length - 1]? = some u) (hl : k < vs.length - 1) : vs.Perm (t :: vs.dropLast.set k u) := by
  have e : vs = vs.dropLast ++ [u] := by
    have hne : vs ≠ [] := by rintro rfl; cases hk
    have := (List.dropLast_concat_getLast hne).symm
    rw [List.getLast_eq_getElem] at this
    rw [List.getElem?_eq_getElem (by omega)] at hu
    cases hu
    exact this
  have hk' : vs.dropLast[k]? = some t := by rw [List.getElem?_dropLast, if_pos hl]; exact hk
  have p1 : (vs.dropLast.set k u).Perm (u :: vs.dropLast.eraseIdx k) := set_perm (by rw [List.length_dropLast]; exact hl)
  have p2 : vs.dropLast.Perm (t :: vs.dropLast.eraseIdx k) := erase_perm hk'
  have p3 : vs.Perm (u :: vs.dropLast) := by
    have : (vs.dropLast ++ [u]).Perm (u :: vs.dropLast) := List.perm_append_singleton _ _
    rw [← e] at this; exact this
  refine p3.trans ((p2.cons u).trans ((List.Perm.swap t u _).trans (p1.symm.cons t)))
theorem last_perm {vs : List Th} {t : Th} (hk : vs[vs.length - 1]? = some t) : vs.Perm (t :: vs.dropLast) := by
  have hne : vs ≠ [] := by rintro rfl; cases hk
  have hl : vs.length ≠ 0 := by simpa using hne
  have e := (List.dropLast_concat_getLast hne).symm
  rw [List.getLast_eq_getElem] at e
  rw [List.getElem?_eq_getElem (by omega)] at hk
  cases hk
  have : (vs.dropLast ++ [vs[vs.length - 1]]).Perm (vs[vs.length - 1] :: vs.dropLast) := List.perm_append_singleton _ _
  rw [← e] at this; exact this
/-- how few places: a put, a take -/
theorem chg_put {ts ts' : List Th} {t : Th} (h : ∀ i a b, (ts ++ [t])[i]? = some a → ts'[i]? = some b → a ≠ b → i ∈ Hm.path ts.length) : Hm.chg ts ts' ≤ bits ts.length := by
  by_cases e : ts.length = 0
  · rw [List.eq_nil_of_length_eq_zero e]; simp [Hm.chg]
  · unfold bits
    rw [if_neg e]
    refine Hm.chg_path (e := (ts.length - 1) / 2) (by omega) fun i a b ha hb hn => ?_
    have hi : i < ts.length := (List.getElem?_eq_some_iff.mp ha).1
    have := h i a b (by rw [List.getElem?_append_left hi]; exact ha) hb hn
    rw [Hm.path_pos (by omega)] at this
    rcases List.mem_cons.mp this with z | z
    · omega
    · exact z
theorem chg_takeP {ts ts' : List Th} {e : Nat} (he : e < ts.length) (h : ∀ i a b, ts[i]? = some a → ts'[i]? = some b → a ≠ b → i ∈ Hm.path e) : Hm.chg ts ts' ≤ bits ts.length := by
  unfold bits
  rw [if_neg (by omega)]
  exact Hm.chg_path he h
end L2

namespace Mp
def placeF (m p w : Int) : Int := if m = 0 then 0 else if 1 < (m * p + w - 1) / w then (m * p + w - 1) / w else 1
theorem quot (x y : Int) : x = y * (x / y) + x % y := by
  rw [Int.emod_def]
  omega
theorem lt_of_mul {w a b : Int} (hw : 0 < w) (h : a * w < b * w) : a < b := Int.lt_of_mul_lt_mul_right h (Int.le_of_lt hw)
/-- the quotient rounded up -/
theorem up (x w : Int) (hw : 0 < w) : x ≤ ((x + w - 1) / w) * w ∧ ((x + w - 1) / w - 1) * w < x := by
  have e := quot (x + w - 1) w
  have r0 := Int.emod_nonneg (x + w - 1) (show w ≠ 0 by omega)
  have r1 := Int.emod_lt_of_pos (x + w - 1) hw
  have c : w * ((x + w - 1) / w) = ((x + w - 1) / w) * w := Int.mul_comm _ _
  have s : ((x + w - 1) / w - 1) * w = ((x + w - 1) / w) * w - w := by rw [Int.sub_mul, Int.one_mul]
  omega
structure PlaceIs (m p w k : Int) : Prop where
  none : m = 0 → k = 0
  lo : m ≠ 0 → 1 ≤ k
  hi : k ≤ m
  enough : m ≠ 0 → m * p ≤ k * w
  least : m ≠ 0 → k = 1 ∨ (k - 1) * w < m * p
theorem placeF_is {m p w : Int} (hm : 0 ≤ m) (hw : 1 ≤ w) (hp : 0 ≤ p) (hpw : p ≤ w) : PlaceIs m p w (placeF m p w) := by
  have u := up (m * p) w (by omega)
  have mp : m * p ≤ m * w := Int.mul_le_mul_of_nonneg_left hpw hm
  have mp0 : 0 ≤ m * p := Int.mul_nonneg hm hp
  unfold placeF
  generalize (m * p + w - 1) / w = q at u
  by_cases h0 : m = 0
  · rw [if_pos h0]
    exact ⟨fun _ => rfl, fun h => absurd h0 h, by omega, fun h => absurd h0 h, fun h => absurd h0 h⟩
  · rw [if_neg h0]
    have le : q - 1 < m := lt_of_mul (w := w) (by omega) (by omega)
    by_cases h1 : 1 < q
    · rw [if_pos h1]
      exact ⟨fun h => absurd h h0, fun _ => by omega, by omega, fun _ => u.1, fun _ => Or.inr u.2⟩
    · rw [if_neg h1]
      have : q * w ≤ 1 * w := Int.mul_le_mul_of_nonneg_right (by omega) (by omega)
      exact ⟨fun h => absurd h h0, fun _ => by omega, by omega, fun _ => by omega, fun _ => Or.inl rfl⟩
theorem placeF_next {m p w : Int} (hm : 0 ≤ m) (hw : 1 ≤ w) (hp : 0 ≤ p) (hpw : p ≤ w) : placeF m p w ≤ placeF (m + 1) p w ∧ placeF (m + 1) p w ≤ placeF m p w + 1 := by
  have a := placeF_is hm hw hp hpw
  have b := placeF_is (m := m + 1) (by omega) hw hp hpw
  generalize placeF m p w = k at a
  generalize placeF (m + 1) p w = l at b
  have n : (m + 1) * p = m * p + p := by rw [Int.add_mul, Int.one_mul]
  have b1 := b.lo (by omega)
  have b2 := b.hi
  have b3 := b.enough (by omega)
  have b4 := b.least (by omega)
  by_cases h0 : m = 0
  · have := a.none h0; omega
  · have a1 := a.lo h0
    have a3 := a.enough h0
    have a4 := a.least h0
    constructor
    · rcases a4 with a4 | a4
      · omega
      · have : k - 1 < l := lt_of_mul (w := w) (by omega) (by omega)
        omega
    · rcases b4 with b4 | b4
      · omega
      · have e : (k + 1) * w = k * w + w := by rw [Int.add_mul, Int.one_mul]
        have : l - 1 < k + 1 := lt_of_mul (w := w) (by omega) (by omega)
        omega
end Mp

set_option Elab.async false
set_option linter.all false
set_option maxRecDepth 100000
set_option maxHeartbeats 8000000
namespace L2
open PySem PySem.Spec PyProof.Rows
/-- min(d) of a dict whose keys are whole numbers, not empty: the least key -/
def rminD : List V → Hp → VK → Prop := fun vs H Q => ∃ (d : Addr) (kvs : List (Key × V)), vs = [.ref d] ∧ H d = some (.dK kvs) ∧ kvs ≠ [] ∧ (∀ q ∈ kvs.map (·.1), ∃ c : Int, q = .inl c) ∧
  ∀ c : Int, (.inl c : Key) ∈ kvs.map (·.1) → (∀ c' : Int, (.inl c' : Key) ∈ kvs.map (·.1) → c ≤ c') → Q (.int c) H
theorem pLt_fst (a b : Int) : pLt (a, 0) (b, 0) = decide (a < b) := by
  by_cases h : a < b
  · rw [decide_eq_true h, pLt_iff]; exact .inl h
  · rw [decide_eq_false h, pLt_no]; simp; omega
theorem call_minD {X : Cx} (hc : X.calm = true) : CallR X (.builtin "min") rminD := by
  intro pins s σ H xs us Q I r h
  obtain ⟨d, kvs, rfl, hd, hne, hint, q⟩ := h
  obtain ⟨u, rfl, ru⟩ := vals1 r
  cases ru
  obtain ⟨hz, hsm, vs, rel, dd⟩ := dk_of I.hok hd
  obtain ⟨o, es, ep, ho, hx, hdat, hk, hpp, hnd⟩ := dd
  have hat : s.heap.DictAt (mixKind X.prog X.w) d vs ep := ⟨o, es, ho, hx, hdat, hk, hpp, hnd⟩
  have hl := rel.length
  have hps : 0 < vs.length := by
    rw [← hl]
    cases kvs with
    | nil => exact absurd rfl hne
    | cons _ _ => simp
  -- the keys as whole numbers
  have ks : ∃ cs : List Int, kvs.map (·.1) = cs.map (fun c => (.inl c : Key)) := by
    clear q rel hne hd hz hl
    induction kvs with
    | nil => exact ⟨[], rfl⟩
    | cons p r ih =>
      obtain ⟨cs, e⟩ := ih fun q hq => hint q (by rw [List.map_cons]; exact List.mem_cons_of_mem _ hq)
      obtain ⟨c, ec⟩ := hint p.1 (by rw [List.map_cons]; exact List.mem_cons_self)
      exact ⟨c :: cs, by rw [List.map_cons, List.map_cons, e, ec]⟩
  obtain ⟨cs, ecs⟩ := ks
  have evs : vs.map (·.1) = kvs.map (·.1) := by
    clear q hne hd hz hl hint ecs hat hpp hnd hps
    unfold KV at rel
    induction rel with
    | nil => rfl
    | cons p _ ih => rw [List.map_cons, List.map_cons, ih, p.1]
  have lcs : cs.length = vs.length := by
    have := congrArg List.length ecs
    simpa [hl] using this.symm
  have good : ∀ (j : Nat) v, (∃ k x, vs[j]? = some (k, x) ∧ (mixKind X.prog X.w).is k v = true) → ∃ (c : Int) (t : Tok), v = Value.int c t ∧ cs[j]? = some c := fun j v ⟨k, x, e, hi⟩ => by
    have e1 : (vs.map (·.1))[j]? = some k := by rw [List.getElem?_map, e]; rfl
    rw [evs, ecs, List.getElem?_map] at e1
    cases ec : cs[j]? with
    | none => rw [ec] at e1; cases e1
    | some c =>
      rw [ec] at e1
      have e2 : (Sum.inl c : Key) = k := Option.some.inj e1
      subst e2
      rcases keyIs_shape ((mixKind_is X.prog X.w _ v).symm.trans hi) with ⟨i, t, z, zz⟩ | ⟨_, _, z, _⟩
      · cases z; exact ⟨c, t, zz, rfl⟩
      · cases z
  refine call_min_in (wpAny_pyIter_dict hsm hat ?_)
  have keepP : ∀ b o, s.heap.get? b = some o → (s.heap.push { cls := .type "dict_keyiterator", data := .fields #[.ref d, .int 0 0, .int vs.length 0, .int ep 0] }).get? b = some o := fun b o e => Heap.get?_push_of_some _ e
  have hdI : d ≠ s.heap.objs.size := Nat.ne_of_lt (Heap.lt_size ho)
  refine ⟨s.heap.objs.size, [s.heap.objs.size, d], [s.heap.objs.size], vs.length, _, _, fun i j => pLt (cs.getD i 0, 0) (cs.getD j 0, 0), rfl, Walks.dictKeys (A := X.A.in1) (I.ok.hd hc) _ d hdI vs ep, ⟨⟨_, Heap.get?_push_size _ rfl, rfl, rfl⟩, hat.at' fun o e => keepP _ _ e⟩, fun b hb => ?_, hps, ?_, ?_⟩
  · show b < (s.heap.push _).objs.size
    rw [Heap.size_push]
    rcases List.mem_cons.mp hb with z | hb
    · rw [z]; exact Nat.lt_succ_self _
    · have z : b = d := by simpa using hb
      rw [z]; exact Nat.lt_succ_of_lt (Heap.lt_size ho)
  · intro i j vi vj s' Q' E' kp hi hj hq
    obtain ⟨a, ta, rfl, ea⟩ := good i vi hi
    obtain ⟨b, tb, rfl, eb⟩ := good j vj hj
    have e : pLt (cs.getD i 0, 0) (cs.getD j 0, 0) = decide (a < b) := by rw [List.getD_eq_getElem?_getD, List.getD_eq_getElem?_getD, ea, eb, Option.getD_some, Option.getD_some, pLt_fst]
    exact lt_int (by rw [← e]; exact hq)
  · intro v h' tk hv kp
    obtain ⟨c, t, rfl, ec⟩ := good _ v hv
    have I2 : Inv X pins σ H { s with heap := h', toks := tk } := I.kept fun b o e => kp b o (fun z => by
        have z : b = s.heap.objs.size := by simpa using z
        exact Nat.ne_of_lt (Heap.lt_size e) z) (fun z => by
        have := Heap.lt_size (keepP b o e)
        exact Nat.ne_of_lt this z) (keepP b o e)
    refine ⟨.int c, H, I2, ⟨t, rfl⟩, q c (by rw [ecs]; exact List.mem_map.mpr ⟨c, List.mem_of_getElem? ec, rfl⟩) fun c' hc' => ?_⟩
    rw [ecs] at hc'
    obtain ⟨c2, hm, e2⟩ := List.mem_map.mp hc'
    cases e2
    obtain ⟨j, hj⟩ := List.getElem?_of_mem hm
    have hjl : j < cs.length := (List.getElem?_eq_some_iff.mp hj).1
    have best := best_of (bt := pLt) pLt_irr (fun _ _ _ h g => pLt_ntr h g) pLt_asym (fun i => (cs.getD i 0, 0)) (vs.length - 1) j (by omega)
    have eb : pLt (cs.getD j 0, 0) (cs.getD (argBest (fun i j => pLt (cs.getD i 0, 0) (cs.getD j 0, 0)) (vs.length - 1)) 0, 0) = decide (c' < c) := by
      rw [List.getD_eq_getElem?_getD, List.getD_eq_getElem?_getD (l := cs) (i := argBest _ _), ec, hj, Option.getD_some, Option.getD_some, pLt_fst]
    have := eb.symm.trans best
    simp at this
    omega
end L2

set_option Elab.async false
set_option linter.all false
set_option maxRecDepth 100000
set_option maxHeartbeats 4000000
/-! Rows, the plain part: the share's place, both piles, how few places change. -/
namespace L2
open PySem Hm
/-- a share -/
def Share (p w : Int) : Prop := 1 ≤ w ∧ 0 ≤ p ∧ p ≤ w
structure RSt where
  part : Int
  whole : Int
  came : Nat
  lo : List Th
  hi : List Th
abbrev RSt.all (s : RSt) : List Th := s.lo ++ s.hi
structure ROk0 (s : RSt) : Prop where
  sh : Share s.part s.whole
  rng : ∀ u ∈ s.all, 1 ≤ u.2 ∧ u.2 ≤ (s.came : Nat)
  nod : (s.all.map (·.2)).Nodup
  flo : Form (ahP true) s.lo
  fhi : Form (ahP false) s.hi
  ord : ∀ a ∈ s.lo, ∀ b ∈ s.hi, pLt a b = true
  wb : s.whole < 2 ^ 250
structure ROk (s : RSt) : Prop extends ROk0 s where
  cnt : (s.lo.length : Int) = Mp.placeF (s.all.length : Nat) s.part s.whole
/-- the dict of numbers -/
structure NumOk (kvs : List (Key × V)) (ts : List Th) : Prop where
  nd : (kvs.map (·.1)).Nodup
  sub : ∀ q ∈ kvs.map (·.1), ∃ t ∈ ts, q = .inl t.2
  val : ∀ t ∈ ts, valV kvs (.inl t.2) = some (.int t.1)
theorem NumOk.perm {kvs : List (Key × V)} {ts us : List Th} (N : NumOk kvs ts) (p : us.Perm ts) : NumOk kvs us :=
  ⟨N.nd, fun q hq => by obtain ⟨t, ht, e⟩ := N.sub q hq; exact ⟨t, p.mem_iff.mpr ht, e⟩, fun t ht => N.val t (p.mem_iff.mp ht)⟩
theorem NumOk.len {kvs : List (Key × V)} {ts : List Th} (N : NumOk kvs ts) (nd : (ts.map (·.2)).Nodup) : kvs.length = ts.length := by
  have h1 : kvs.length ≤ ts.length := spots_len N.nd N.sub
  have h2 := nodup_sub (l := ts.map (·.2)) (r := kvs.map fun kv => match kv.1 with | .inl c => c | .inr _ => 0) nd fun c hc => by
    obtain ⟨t, ht, rfl⟩ := List.mem_map.mp hc
    obtain ⟨x, hx, e⟩ := List.mem_map.mp (valV_in (N.val t ht))
    exact List.mem_map.mpr ⟨x, hx, by simp only [e]⟩
  simp only [List.length_map] at h2
  omega
theorem NumOk.none {kvs : List (Key × V)} {ts : List Th} (N : NumOk kvs ts) {c : Int} (h : ∀ t ∈ ts, t.2 ≠ c) : valV kvs (.inl c) = Option.none := by
  cases e : valV kvs (.inl c) with
  | none => rfl
  | some v =>
    obtain ⟨t, ht, q⟩ := N.sub _ (valV_in e)
    exact absurd (Sum.inl.inj q).symm (h t ht)
theorem NumOk.put {kvs : List (Key × V)} {ts : List Th} (N : NumOk kvs ts) {n c : Int} (h : ∀ t ∈ ts, t.2 ≠ c) : NumOk (putK kvs (.inl c) (.int n)) ((n, c) :: ts) := by
  refine ⟨nd_putK' _ N.nd, fun q hq => ?_, fun t ht => ?_⟩
  · rcases keys_putK q hq with z | z
    · exact ⟨_, List.mem_cons_self, z⟩
    · obtain ⟨t, ht, e⟩ := N.sub q z
      exact ⟨t, List.mem_cons_of_mem _ ht, e⟩
  · rw [valV_put]
    rcases List.mem_cons.mp ht with rfl | ht
    · rw [if_pos rfl]
    · rw [if_neg fun z => h t ht (Sum.inl.inj z)]
      exact N.val t ht
theorem NumOk.drop {kvs : List (Key × V)} {ts us : List Th} {t : Th} (N : NumOk kvs ts) (p : ts.Perm (t :: us)) (nd : (ts.map (·.2)).Nodup) : NumOk (dropK kvs (.inl t.2)) us := by
  have nd' := nod_perm p.symm nd
  rw [List.map_cons, List.nodup_cons] at nd'
  refine ⟨nd_dropK N.nd, fun q hq => ?_, fun u hu => ?_⟩
  · obtain ⟨hne, hin⟩ := keys_dropK q hq
    obtain ⟨u, hu, e⟩ := N.sub q hin
    rcases List.mem_cons.mp (p.mem_iff.mp hu) with rfl | hu
    · exact absurd e hne
    · exact ⟨u, hu, e⟩
  · rw [valV_drop, if_neg fun z => nd'.1 (List.mem_map.mpr ⟨u, hu, Sum.inl.inj z⟩)]
    exact N.val u (p.mem_iff.mpr (List.mem_cons_of_mem _ hu))
/-! ### one after the other -/
theorem chg_le_min {α : Type} [DecidableEq α] : ∀ (xs zs : List α), chg xs zs ≤ min xs.length zs.length
  | [], _ => by simp [chg]
  | _ :: _, [] => by simp [chg]
  | x :: xs, z :: zs => by
    have := chg_le_min xs zs
    unfold chg
    simp only [List.length_cons]
    split <;> omega
theorem chg_tri {α : Type} [DecidableEq α] : ∀ (xs ys zs : List α), chg xs zs ≤ chg xs ys + chg ys zs + (min xs.length zs.length - ys.length)
  | [], _, _ => by simp [chg]
  | _ :: _, _, [] => by simp [chg]
  | x :: xs, [], z :: zs => by
    have := chg_le_min (x :: xs) (z :: zs)
    simp only [chg, List.length_nil] at *
    omega
  | x :: xs, y :: ys, z :: zs => by
    have ih := chg_tri xs ys zs
    simp only [chg, List.length_cons]
    have e : min (xs.length + 1) (zs.length + 1) - (ys.length + 1) = min xs.length zs.length - ys.length := by omega
    rw [e]
    by_cases h1 : x = z
    · rw [if_pos h1]; omega
    · rw [if_neg h1]
      by_cases h2 : x = y
      · subst h2
        rw [if_pos rfl, if_neg h1]; omega
      · rw [if_neg h2]; omega
theorem bits_mono {a b : Nat} (h : a ≤ b) : bits a ≤ bits b := by
  unfold bits
  by_cases ha : a = 0
  · rw [if_pos ha]; omega
  · rw [if_neg ha, if_neg (by omega)]
    rcases Nat.lt_or_ge (Nat.log2 b) (Nat.log2 a) with z | z
    · have h1 : 2 ^ Nat.log2 a ≤ a := Nat.log2_self_le ha
      have h2 : b < 2 ^ Nat.log2 a := (Nat.log2_lt (by omega)).mp z
      omega
    · omega
theorem bits_pos {n : Nat} (h : 0 < n) : 1 ≤ bits n := by unfold bits; rw [if_neg (by omega)]; omega
theorem bits_succ (n : Nat) : bits (n + 1) ≤ bits n + 1 := by
  unfold bits
  rw [if_neg (by omega)]
  by_cases h : n = 0
  · subst h; decide
  · rw [if_neg h]
    have h1 : n < 2 ^ (Nat.log2 n + 1) := Nat.lt_log2_self
    rcases Nat.lt_or_ge (Nat.log2 n + 1) (Nat.log2 (n + 1)) with z | z
    · have h2 : 2 ^ Nat.log2 (n + 1) ≤ n + 1 := Nat.log2_self_le (by omega)
      have h3 : 2 ^ (Nat.log2 n + 2) ≤ 2 ^ Nat.log2 (n + 1) := Nat.pow_le_pow_right (by decide) (by omega)
      have h4 : 2 ^ (Nat.log2 n + 2) = 2 * 2 ^ (Nat.log2 n + 1) := by rw [Nat.pow_succ 2 (Nat.log2 n + 1), Nat.mul_comm]
      omega
    · omega
/-- what a settling of at most one move leaves -/
def Few (lo hi lo' hi' : List Th) : Prop := (lo.length = lo'.length → lo' = lo ∧ hi' = hi) ∧ (lo.length = lo'.length + 1 ∨ lo.length + 1 = lo'.length → chg lo lo' ≤ bits lo.length ∧ chg hi hi' ≤ bits hi.length)
/-- the top of the low pile is behind all others there -/
theorem top_lo {ts : List Th} {t : Th} (hF : Form (ahP true) ts) (h0 : ts[0]? = some t) : ∀ a ∈ ts, a = t ∨ pLt a t = true := fun a ha => by
  obtain ⟨k, hk⟩ := List.getElem?_of_mem ha
  have := form_top (ahP_ord true) hF h0 k a hk
  rcases pLt_tri a t with h | h | h
  · exact .inr h
  · exact .inl h
  · exact absurd h this
theorem top_hi {ts : List Th} {t : Th} (hF : Form (ahP false) ts) (h0 : ts[0]? = some t) : ∀ a ∈ ts, a = t ∨ pLt t a = true := fun a ha => by
  obtain ⟨k, hk⟩ := List.getElem?_of_mem ha
  have := form_top (ahP_ord false) hF h0 k a hk
  rcases pLt_tri a t with h | h | h
  · exact absurd h this
  · exact .inl h
  · exact .inr h
/-- a move from the low pile to the high one -/
theorem ROk0.down {s : RSt} {lo' hi' : List Th} {t : Th} (O : ROk0 s) (h0 : s.lo[0]? = some t) (pl : s.lo.Perm (t :: lo')) (ph : hi'.Perm (t :: s.hi)) (fl : Form (ahP true) lo') (fh : Form (ahP false) hi') : ROk0 { s with lo := lo', hi := hi' } ∧ (lo' ++ hi').Perm s.all := by
  have pm : (lo' ++ hi').Perm s.all := by
    refine (List.Perm.append_left lo' ph).trans (List.perm_middle.trans ?_)
    exact (pl.append_right s.hi).symm
  refine ⟨⟨O.sh, fun u hu => O.rng u (pm.mem_iff.mp hu), nod_perm pm O.nod, fl, fh, fun a ha b hb => ?_, O.wb⟩, pm⟩
  have ha' : a ∈ s.lo := pl.mem_iff.mpr (List.mem_cons_of_mem _ ha)
  rcases List.mem_cons.mp (ph.mem_iff.mp hb) with rfl | hb'
  · rcases top_lo O.flo h0 a ha' with rfl | h
    · have nd : ((a :: lo').map (·.2)).Nodup := by
        have : (s.lo.map (·.2)).Nodup := by
          have := O.nod; rw [RSt.all, List.map_append] at this
          exact (List.nodup_append.mp this).1
        exact nod_perm pl.symm this
      rw [List.map_cons, List.nodup_cons] at nd
      exact absurd (List.mem_map_of_mem ha) nd.1
    · exact h
  · exact O.ord a ha' b hb'
/-- a move from the high pile to the low one -/
theorem ROk0.up {s : RSt} {lo' hi' : List Th} {t : Th} (O : ROk0 s) (h0 : s.hi[0]? = some t) (ph : s.hi.Perm (t :: hi')) (pl : lo'.Perm (t :: s.lo)) (fl : Form (ahP true) lo') (fh : Form (ahP false) hi') : ROk0 { s with lo := lo', hi := hi' } ∧ (lo' ++ hi').Perm s.all := by
  have pm : (lo' ++ hi').Perm s.all := by
    refine (pl.append_right hi').trans ?_
    refine List.Perm.trans ?_ (List.Perm.append_left s.lo ph.symm)
    exact List.perm_middle.symm
  refine ⟨⟨O.sh, fun u hu => O.rng u (pm.mem_iff.mp hu), nod_perm pm O.nod, fl, fh, fun a ha b hb => ?_, O.wb⟩, pm⟩
  have hb' : b ∈ s.hi := ph.mem_iff.mpr (List.mem_cons_of_mem _ hb)
  rcases List.mem_cons.mp (pl.mem_iff.mp ha) with rfl | ha'
  · rcases top_hi O.fhi h0 b hb' with rfl | h
    · have nd : ((b :: hi').map (·.2)).Nodup := by
        have : (s.hi.map (·.2)).Nodup := by
          have := O.nod; rw [RSt.all, List.map_append] at this
          exact (List.nodup_append.mp this).2.1
        exact nod_perm ph.symm this
      rw [List.map_cons, List.nodup_cons] at nd
      exact absurd (List.mem_map_of_mem hb) nd.1
    · exact h
  · exact O.ord a ha' b hb'
theorem ROk0.nlo {s : RSt} (O : ROk0 s) : (s.lo.map (·.2)).Nodup := by
  have := O.nod; rw [RSt.all, List.map_append] at this
  exact (List.nodup_append.mp this).1
theorem ROk0.nhi {s : RSt} (O : ROk0 s) : (s.hi.map (·.2)).Nodup := by
  have := O.nod; rw [RSt.all, List.map_append] at this
  exact (List.nodup_append.mp this).2.1
theorem ROk0.ndj {s : RSt} (O : ROk0 s) : ∀ a ∈ s.lo, ∀ b ∈ s.hi, a.2 ≠ b.2 := fun a ha b hb e => by
  have := O.nod; rw [RSt.all, List.map_append] at this
  exact (List.nodup_append.mp this).2.2 a.2 (List.mem_map_of_mem ha) b.2 (List.mem_map_of_mem hb) e
theorem place_in {m : Nat} {p w : Int} (h : Share p w) : 0 ≤ Mp.placeF m p w ∧ Mp.placeF m p w ≤ m := by
  have I := Mp.placeF_is (m := (m : Int)) (by omega) h.1 h.2.1 h.2.2
  by_cases e : (m : Int) = 0
  · rw [I.none e]; omega
  · have := I.lo e; have := I.hi; omega
theorem place_pos {m : Nat} {p w : Int} (h : Share p w) (hm : 0 < m) : 1 ≤ Mp.placeF m p w := (Mp.placeF_is (m := (m : Int)) (by omega) h.1 h.2.1 h.2.2).lo (by omega)
theorem place_next {m : Nat} {p w : Int} (h : Share p w) : Mp.placeF m p w ≤ Mp.placeF ((m + 1 : Nat) : Int) p w ∧ Mp.placeF ((m + 1 : Nat) : Int) p w ≤ Mp.placeF m p w + 1 := by
  have := Mp.placeF_next (m := (m : Int)) (by omega) h.1 h.2.1 h.2.2
  simpa using this
/-- a row with things has one in the low pile -/
theorem ROk.lo_nil {s : RSt} (O : ROk s) (h : s.lo = []) : s.all = [] := by
  by_cases e : s.all.length = 0
  · exact List.eq_nil_of_length_eq_zero e
  · have := place_pos O.sh (m := s.all.length) (by omega)
    have c := O.cnt
    rw [h] at c
    simp only [List.length_nil] at c
    omega
/-- all in all few -/
theorem few_sum {n : Nat} {a b c : Nat} {xs ys zs : List Th} (h1 : chg xs ys ≤ bits a) (h2 : chg ys zs ≤ bits b) (ha : a ≤ n) (hb : b ≤ n + 1) (hn : 0 < n) (hl : min xs.length zs.length ≤ ys.length + 1) : chg xs zs ≤ 4 * bits n := by
  have := chg_tri xs ys zs
  have := bits_mono ha
  have := bits_mono hb
  have := bits_succ n
  have := bits_pos hn
  omega
/-- which pile: true is the high one -/
def PilO (lo : List Th) (t : Th) (b : Bool) : Prop := (b = true → ∃ u, lo[0]? = some u ∧ pLt u t = true) ∧ (b = false → lo = [] ∨ ∃ u, lo[0]? = some u ∧ pLt u t = false)
theorem chg_nil {α : Type} [DecidableEq α] (zs : List α) : chg ([] : List α) zs = 0 := by simp [chg]
theorem few_end {n a b : Nat} {xs ys zs : List Th} (h1 : chg xs ys ≤ bits a) (h2 : chg ys zs ≤ bits b) (hx : xs.length ≤ n) (ha : a ≤ n) (hb : b ≤ n + 1) (hl : min xs.length zs.length ≤ ys.length + 1) : chg xs zs ≤ 4 * bits n := by
  by_cases hn : n = 0
  · rw [List.eq_nil_of_length_eq_zero (show xs.length = 0 by omega), chg_nil]; omega
  · exact few_sum (c := 0) h1 h2 ha hb (by omega) hl
theorem few_put_lo {s : RSt} {lo2 lo' hi' : List Th} (O : ROk s) (l2 : lo2.length = s.lo.length + 1) (c1 : chg s.lo lo2 ≤ bits s.lo.length) (F : Few lo2 s.hi lo' hi') (c : (lo'.length : Int) = Mp.placeF ((s.all.length + 1 : Nat) : Int) s.part s.whole) (ll : lo'.length + hi'.length = s.all.length + 1) : chg s.lo lo' ≤ 4 * bits s.all.length ∧ chg s.hi hi' ≤ 4 * bits s.all.length := by
  have nx := place_next (m := s.all.length) O.sh
  have c0 := O.cnt
  have e : s.all.length = s.lo.length + s.hi.length := List.length_append
  by_cases h : lo2.length = lo'.length
  · obtain ⟨rfl, rfl⟩ := F.1 h
    rw [chg_self]
    have := bits_mono (show s.lo.length ≤ s.all.length by omega)
    omega
  · obtain ⟨d1, d2⟩ := F.2 (by omega)
    refine ⟨few_end c1 d1 (by omega) (by omega) (by omega) (by omega), ?_⟩
    have := bits_mono (show s.hi.length ≤ s.all.length by omega)
    omega
theorem few_put_hi {s : RSt} {hi2 lo' hi' : List Th} (O : ROk s) (l2 : hi2.length = s.hi.length + 1) (c1 : chg s.hi hi2 ≤ bits s.hi.length) (F : Few s.lo hi2 lo' hi') (c : (lo'.length : Int) = Mp.placeF ((s.all.length + 1 : Nat) : Int) s.part s.whole) (ll : lo'.length + hi'.length = s.all.length + 1) : chg s.lo lo' ≤ 4 * bits s.all.length ∧ chg s.hi hi' ≤ 4 * bits s.all.length := by
  have nx := place_next (m := s.all.length) O.sh
  have c0 := O.cnt
  have e : s.all.length = s.lo.length + s.hi.length := List.length_append
  by_cases h : s.lo.length = lo'.length
  · obtain ⟨rfl, rfl⟩ := F.1 h
    rw [chg_self]
    have := bits_mono (show s.hi.length ≤ s.all.length by omega)
    omega
  · obtain ⟨d1, d2⟩ := F.2 (by omega)
    refine ⟨?_, few_end c1 d2 (by omega) (by omega) (by omega) (by omega)⟩
    have := bits_mono (show s.lo.length ≤ s.all.length by omega)
    omega
theorem few_take_lo {s : RSt} {lo2 lo' hi' : List Th} {n : Nat} (O : ROk s) (hn : s.all.length = n + 1) (l2 : lo2.length + 1 = s.lo.length) (c1 : chg s.lo lo2 ≤ bits s.lo.length) (F : Few lo2 s.hi lo' hi') (c : (lo'.length : Int) = Mp.placeF (n : Nat) s.part s.whole) (ll : lo'.length + hi'.length = n) : chg s.lo lo' ≤ 4 * bits s.all.length ∧ chg s.hi hi' ≤ 4 * bits s.all.length := by
  have nx := place_next (m := n) O.sh
  have c0 := O.cnt
  rw [← hn] at nx
  have e : s.all.length = s.lo.length + s.hi.length := List.length_append
  by_cases h : lo2.length = lo'.length
  · obtain ⟨rfl, rfl⟩ := F.1 h
    rw [chg_self]
    have := bits_mono (show s.lo.length ≤ s.all.length by omega)
    omega
  · obtain ⟨d1, d2⟩ := F.2 (by omega)
    refine ⟨few_end c1 d1 (by omega) (by omega) (by omega) (by omega), ?_⟩
    have := bits_mono (show s.hi.length ≤ s.all.length by omega)
    omega
theorem few_take_hi {s : RSt} {hi2 lo' hi' : List Th} {n : Nat} (O : ROk s) (hn : s.all.length = n + 1) (l2 : hi2.length + 1 = s.hi.length) (c1 : chg s.hi hi2 ≤ bits s.hi.length) (F : Few s.lo hi2 lo' hi') (c : (lo'.length : Int) = Mp.placeF (n : Nat) s.part s.whole) (ll : lo'.length + hi'.length = n) : chg s.lo lo' ≤ 4 * bits s.all.length ∧ chg s.hi hi' ≤ 4 * bits s.all.length := by
  have nx := place_next (m := n) O.sh
  have c0 := O.cnt
  rw [← hn] at nx
  have e : s.all.length = s.lo.length + s.hi.length := List.length_append
  by_cases h : s.lo.length = lo'.length
  · obtain ⟨rfl, rfl⟩ := F.1 h
    rw [chg_self]
    have := bits_mono (show s.hi.length ≤ s.all.length by omega)
    omega
  · obtain ⟨d1, d2⟩ := F.2 (by omega)
    refine ⟨?_, few_end c1 d2 (by omega) (by omega) (by omega) (by omega)⟩
    have := bits_mono (show s.lo.length ≤ s.all.length by omega)
    omega
theorem ROk0.len {s : RSt} (O : ROk0 s) : s.all.length ≤ s.came := by
  have := nodup_len (n := s.came) O.nod fun c hc => by
    obtain ⟨t, ht, rfl⟩ := List.mem_map.mp hc
    exact O.rng t ht
  simpa using this
/-- a thing comes into the low pile -/
theorem ROk.putLo {s : RSt} {t : Th} {lo2 : List Th} (O : ROk s) (ht : t.2 = ((s.came + 1 : Nat) : Int)) (hp : PilO s.lo t false) (pm : lo2.Perm (t :: s.lo)) (fl : Form (ahP true) lo2) : ROk0 { s with came := s.came + 1, lo := lo2 } ∧ (lo2 ++ s.hi).Perm (t :: s.all) := by
  have pm2 : (lo2 ++ s.hi).Perm (t :: s.all) := pm.append_right s.hi
  have nf : ∀ u ∈ s.all, u.2 ≠ t.2 := fun u hu e => by have := O.rng u hu; omega
  refine ⟨⟨O.sh, fun u hu => ?_, nod_perm pm2 ?_, fl, O.fhi, fun a ha b hb => ?_, O.wb⟩, pm2⟩
  · rcases List.mem_cons.mp (pm2.mem_iff.mp hu) with rfl | h
    · show 1 ≤ u.2 ∧ u.2 ≤ ((s.came + 1 : Nat) : Int); omega
    · have := O.rng u h
      show 1 ≤ u.2 ∧ u.2 ≤ ((s.came + 1 : Nat) : Int); omega
  · rw [List.map_cons, List.nodup_cons]
    exact ⟨fun z => by obtain ⟨u, hu, e⟩ := List.mem_map.mp z; exact nf u hu e, O.nod⟩
  · rcases List.mem_cons.mp (pm.mem_iff.mp ha) with rfl | h
    · rcases hp.2 rfl with z | ⟨u, h0, hu⟩
      · have := O.lo_nil z
        have hb' : b ∈ s.all := List.mem_append_right _ hb
        rw [this] at hb'; cases hb'
      · have hum : u ∈ s.lo := List.mem_of_getElem? h0
        have hub := O.ord u hum b hb
        rcases pLt_tri a u with h | h | h
        · exact pLt_tr h hub
        · subst h; exact hub
        · rw [hu] at h; cases h
    · exact O.ord a h b hb
theorem ROk.putHi {s : RSt} {t : Th} {hi2 : List Th} (O : ROk s) (ht : t.2 = ((s.came + 1 : Nat) : Int)) (hp : PilO s.lo t true) (pm : hi2.Perm (t :: s.hi)) (fh : Form (ahP false) hi2) : ROk0 { s with came := s.came + 1, hi := hi2 } ∧ (s.lo ++ hi2).Perm (t :: s.all) := by
  have pm2 : (s.lo ++ hi2).Perm (t :: s.all) := (List.Perm.append_left s.lo pm).trans List.perm_middle
  have nf : ∀ u ∈ s.all, u.2 ≠ t.2 := fun u hu e => by have := O.rng u hu; omega
  refine ⟨⟨O.sh, fun u hu => ?_, nod_perm pm2 ?_, O.flo, fh, fun a ha b hb => ?_, O.wb⟩, pm2⟩
  · rcases List.mem_cons.mp (pm2.mem_iff.mp hu) with rfl | h
    · show 1 ≤ u.2 ∧ u.2 ≤ ((s.came + 1 : Nat) : Int); omega
    · have := O.rng u h
      show 1 ≤ u.2 ∧ u.2 ≤ ((s.came + 1 : Nat) : Int); omega
  · rw [List.map_cons, List.nodup_cons]
    exact ⟨fun z => by obtain ⟨u, hu, e⟩ := List.mem_map.mp z; exact nf u hu e, O.nod⟩
  · rcases List.mem_cons.mp (pm.mem_iff.mp hb) with rfl | h
    · obtain ⟨u, h0, hu⟩ := hp.1 rfl
      rcases top_lo O.flo h0 a ha with rfl | h
      · exact hu
      · exact pLt_tr h hu
    · exact O.ord a ha b h
theorem ROk.isLo {s : RSt} {t : Th} (O : ROk s) (ht : t ∈ s.all) (hp : PilO s.lo t false) : t ∈ s.lo := by
  rcases List.mem_append.mp ht with h | h
  · exact h
  · rcases hp.2 rfl with z | ⟨u, h0, hu⟩
    · rw [O.lo_nil z] at ht; cases ht
    · rw [O.ord u (List.mem_of_getElem? h0) t h] at hu; cases hu
theorem ROk.isHi {s : RSt} {t : Th} (O : ROk s) (ht : t ∈ s.all) (hp : PilO s.lo t true) : t ∈ s.hi := by
  rcases List.mem_append.mp ht with h | h
  · obtain ⟨u, h0, hu⟩ := hp.1 rfl
    rcases top_lo O.flo h0 t h with rfl | g
    · rw [pLt_irr] at hu; cases hu
    · rw [pLt_asym _ _ g] at hu; cases hu
  · exact h
theorem ROk.takeLo {s : RSt} {t : Th} {lo2 : List Th} (O : ROk s) (pm : s.lo.Perm (t :: lo2)) (fl : Form (ahP true) lo2) : ROk0 { s with lo := lo2 } ∧ s.all.Perm (t :: (lo2 ++ s.hi)) := by
  have pm2 : s.all.Perm (t :: (lo2 ++ s.hi)) := pm.append_right s.hi
  have nd := nod_perm pm2.symm O.nod
  rw [List.map_cons, List.nodup_cons] at nd
  exact ⟨⟨O.sh, fun u hu => O.rng u (pm2.mem_iff.mpr (List.mem_cons_of_mem _ hu)), nd.2, fl, O.fhi, fun a ha b hb => O.ord a (pm.mem_iff.mpr (List.mem_cons_of_mem _ ha)) b hb, O.wb⟩, pm2⟩
theorem ROk.takeHi {s : RSt} {t : Th} {hi2 : List Th} (O : ROk s) (pm : s.hi.Perm (t :: hi2)) (fh : Form (ahP false) hi2) : ROk0 { s with hi := hi2 } ∧ s.all.Perm (t :: (s.lo ++ hi2)) := by
  have pm2 : s.all.Perm (t :: (s.lo ++ hi2)) := (List.Perm.append_left s.lo pm).trans List.perm_middle
  have nd := nod_perm pm2.symm O.nod
  rw [List.map_cons, List.nodup_cons] at nd
  exact ⟨⟨O.sh, fun u hu => O.rng u (pm2.mem_iff.mpr (List.mem_cons_of_mem _ hu)), nd.2, O.flo, fh, fun a ha b hb => O.ord a ha b (pm.mem_iff.mpr (List.mem_cons_of_mem _ hb)), O.wb⟩, pm2⟩
end L2

set_option Elab.async false
set_option linter.all false
set_option maxRecDepth 100000
set_option maxHeartbeats 4000000
local macro_rules | `(tactic| wtm_at "side") => `(tactic| first | ((with_unfolding_all show (0 : Int) < _); omega) | ((with_unfolding_all refine ⟨⟨?_, ?_⟩, ?_, ?_⟩) <;> omega) | ((with_unfolding_all refine ⟨?_, ?_⟩) <;> omega))
local macro_rules | `(tactic| wtm_at "ite") => `(tactic| first | (refine L2.rd_iteP ?_ ?_; (omega)) | (refine L2.rd_iteN ?_ ?_; (omega)) | refine L2.rd_ite (fun _ => ?_) (fun _ => ?_))
local macro_rules | `(tactic| wtm_at "rd1") => `(tactic| with_reducible first
  | refine L2.rd_seq ?_ | refine L2.rd_asg ?_ | refine L2.rd_op ?_ | refine L2.rd_var (by with_unfolding_all exact rfl) ?_ | refine L2.rd_c ?_
  | refine L2.rd_I0 ?_ | (refine L2.rd_I ?_ ?_; (wtm_at "side")) | refine L2.rd_eqI ?_ | refine L2.rd_neI ?_ | refine L2.rd_U ?_ | refine L2.rd_un ?_ | refine L2.rd_eqB ?_ | refine L2.rd_neB ?_
  | refine L2.rd_ifS ?_ | refine L2.rd_test ?_ | refine L2.rd_tB ?_ | refine L2.rd_and ?_ | refine L2.rd_or ?_ | refine L2.rd_not ?_ | refine L2.rd_andV ?_ | refine L2.rd_orV ?_ | refine L2.rd_notV ?_ | refine L2.rd_if ?_ | refine L2.rd_chain ?_
  | refine L2.rd_k ?_ | refine L2.iteT ?_ | refine L2.iteF ?_ | refine L2.rd_iteTn ?_ | refine L2.rd_iteFn ?_ | refine L2.rd_nnite ?_ | refine L2.rd_nite ?_
  | refine L2.rd_set (by simp only [List.set_cons_succ, List.set_cons_zero]; with_unfolding_all rfl) ?_ | refine L2.rd_drop ?_ | refine L2.rd_ret ?_ | refine L2.rd_retN ?_ | refine L2.rd_next ?_
  | refine L2.rd_methD ?_ | refine L2.rd_fld ?_ | refine L2.rd_fldS ?_ | refine L2.rd_fldaug ?_ | refine L2.rd_add ?_ | refine L2.rd_subI ?_ | refine L2.rd_mk ?_ | refine L2.rd_bm0 ?_ | refine L2.rd_bm ?_
  | refine L2.rd_sub ?_ | refine L2.rd_dput ?_ | refine L2.rd_dget ?_ | refine L2.rd_din ?_ | refine L2.rd_dnin ?_ | refine L2.rd_dpop ?_ | refine L2.rd_for ?_ | refine L2.rd_rng1 ?_ | refine L2.rd_rng2 ?_ | refine L2.rd_iL ?_ | refine L2.rd_iE ?_ | refine L2.rd_iZ ?_
  | refine L2.rd_cons ?_ | refine L2.rd_nil ?_ | refine L2.rd_call ?_ | refine L2.rd_cb ?_ | refine L2.rd_lst ?_ | refine L2.rd_tup ?_
  | wtm_at "ite")
local macro_rules | `(tactic| wtm_at "rd") => `(tactic| repeat' (wtm_at "rd1"))

namespace K05
open PySem L2 Hm
def top (i : Nat) : Stmt := PySem.Challenge.pw_midpile_k05_numbers_of_comings.main.body.getD i (.Pass ⟨0, 0, 0, 0⟩)
abbrev s_Pile___init__ : Stmt := inClass (top 9) 0
abbrev s_Pile_ahead : Stmt := inClass (top 9) 1
abbrev s_Pile_many : Stmt := inClass (top 9) 2
abbrev s_Pile_top : Stmt := inClass (top 9) 4
abbrev s_Pile_put : Stmt := inClass (top 9) 6
abbrev s_Pile_take : Stmt := inClass (top 9) 7
abbrev s_Pile_fill : Stmt := inClass (top 9) 8
abbrev s_Pile_rise : Stmt := inClass (top 9) 9
abbrev s_Pile_is_ahead_of_upper : Stmt := inClass (top 9) 10
abbrev s_Pile_sink : Stmt := inClass (top 9) 11
abbrev s_Pile_place_under : Stmt := inClass (top 9) 12
abbrev s_Pile_lay : Stmt := inClass (top 9) 13
abbrev s_Turned_ahead : Stmt := inClass (top 10) 0
abbrev s_check_share : Stmt := top 12
abbrev s_place : Stmt := top 13
abbrev s_move_top : Stmt := top 15
abbrev s_Midrow___init__ : Stmt := inClass (top 16) 0
abbrev s_Midrow_many : Stmt := inClass (top 16) 1
abbrev s_Midrow_put : Stmt := inClass (top 16) 2
abbrev s_Midrow_take : Stmt := inClass (top 16) 3
abbrev s_Midrow_number_of : Stmt := inClass (top 16) 4
abbrev s_Midrow_oldest : Stmt := inClass (top 16) 5
abbrev s_Midrow_share : Stmt := inClass (top 16) 6
abbrev s_Midrow_pile_of : Stmt := inClass (top 16) 10
abbrev s_Midrow_settle : Stmt := inClass (top 16) 11
abbrev s__law_at : Stmt := top 18
abbrev s__law_is : Stmt := top 19
abbrev s__law_number : Stmt := top 20
abbrev s__law_no_number : Stmt := top 21
abbrev s__law_no_take : Stmt := top 22
abbrev s__law_no_oldest : Stmt := top 23
abbrev s__law_look : Stmt := top 24
abbrev s__law_taken : Stmt := top 25
abbrev s__law_asked : Stmt := top 26
abbrev s__law_put : Stmt := top 27
abbrev s_law : Stmt := top 28
theorem sc_Pile___init__ : FnScope ["self"] ["self"] (defScope s_Pile___init__) := ⟨rfl, rfl, rfl, by decide +kernel, rfl, by decide +kernel, by decide +kernel⟩
theorem sc_Pile_ahead : FnScope ["self", "one", "other"] ["self", "one", "other"] (defScope s_Pile_ahead) := ⟨rfl, rfl, rfl, by decide +kernel, rfl, by decide +kernel, by decide +kernel⟩
theorem sc_Pile_many : FnScope ["self"] ["self"] (defScope s_Pile_many) := ⟨rfl, rfl, rfl, by decide +kernel, rfl, by decide +kernel, by decide +kernel⟩
theorem sc_Pile_top : FnScope ["self"] ["self"] (defScope s_Pile_top) := ⟨rfl, rfl, rfl, by decide +kernel, rfl, by decide +kernel, by decide +kernel⟩
theorem sc_Pile_put : FnScope ["self", "thing"] ["self", "thing"] (defScope s_Pile_put) := ⟨rfl, rfl, rfl, by decide +kernel, rfl, by decide +kernel, by decide +kernel⟩
theorem sc_Pile_take : FnScope ["self", "coming", "at", "thing", "last"] ["self", "coming"] (defScope s_Pile_take) := ⟨rfl, rfl, rfl, by decide +kernel, rfl, by decide +kernel, by decide +kernel⟩
theorem sc_Pile_fill : FnScope ["self", "thing", "at"] ["self", "thing", "at"] (defScope s_Pile_fill) := ⟨rfl, rfl, rfl, by decide +kernel, rfl, by decide +kernel, by decide +kernel⟩
theorem sc_Pile_rise : FnScope ["self", "thing", "at", "upper"] ["self", "thing", "at"] (defScope s_Pile_rise) := ⟨rfl, rfl, rfl, by decide +kernel, rfl, by decide +kernel, by decide +kernel⟩
theorem sc_Pile_is_ahead_of_upper : FnScope ["self", "thing", "at"] ["self", "thing", "at"] (defScope s_Pile_is_ahead_of_upper) := ⟨rfl, rfl, rfl, by decide +kernel, rfl, by decide +kernel, by decide +kernel⟩
theorem sc_Pile_sink : FnScope ["self", "thing", "at", "under"] ["self", "thing", "at"] (defScope s_Pile_sink) := ⟨rfl, rfl, rfl, by decide +kernel, rfl, by decide +kernel, by decide +kernel⟩
theorem sc_Pile_place_under : FnScope ["self", "at", "left", "right"] ["self", "at"] (defScope s_Pile_place_under) := ⟨rfl, rfl, rfl, by decide +kernel, rfl, by decide +kernel, by decide +kernel⟩
theorem sc_Pile_lay : FnScope ["self", "thing", "at"] ["self", "thing", "at"] (defScope s_Pile_lay) := ⟨rfl, rfl, rfl, by decide +kernel, rfl, by decide +kernel, by decide +kernel⟩
theorem sc_Turned_ahead : FnScope ["self", "one", "other"] ["self", "one", "other"] (defScope s_Turned_ahead) := ⟨rfl, rfl, rfl, by decide +kernel, rfl, by decide +kernel, by decide +kernel⟩
theorem sc_check_share : FnScope ["part", "whole"] ["part", "whole"] (defScope s_check_share) := ⟨rfl, rfl, rfl, by decide +kernel, rfl, by decide +kernel, by decide +kernel⟩
theorem sc_place : FnScope ["many", "part", "whole", "rounded_up"] ["many", "part", "whole"] (defScope s_place) := ⟨rfl, rfl, rfl, by decide +kernel, rfl, by decide +kernel, by decide +kernel⟩
theorem sc_move_top : FnScope ["source", "target"] ["source", "target"] (defScope s_move_top) := ⟨rfl, rfl, rfl, by decide +kernel, rfl, by decide +kernel, by decide +kernel⟩
theorem sc_Midrow___init__ : FnScope ["self", "part", "whole"] ["self", "part", "whole"] (defScope s_Midrow___init__) := ⟨rfl, rfl, rfl, by decide +kernel, rfl, by decide +kernel, by decide +kernel⟩
theorem sc_Midrow_many : FnScope ["self"] ["self"] (defScope s_Midrow_many) := ⟨rfl, rfl, rfl, by decide +kernel, rfl, by decide +kernel, by decide +kernel⟩
theorem sc_Midrow_put : FnScope ["self", "number", "coming", "thing"] ["self", "number"] (defScope s_Midrow_put) := ⟨rfl, rfl, rfl, by decide +kernel, rfl, by decide +kernel, by decide +kernel⟩
theorem sc_Midrow_take : FnScope ["self", "coming", "number"] ["self", "coming"] (defScope s_Midrow_take) := ⟨rfl, rfl, rfl, by decide +kernel, rfl, by decide +kernel, by decide +kernel⟩
theorem sc_Midrow_number_of : FnScope ["self", "coming"] ["self", "coming"] (defScope s_Midrow_number_of) := ⟨rfl, rfl, rfl, by decide +kernel, rfl, by decide +kernel, by decide +kernel⟩
theorem sc_Midrow_oldest : FnScope ["self"] ["self"] (defScope s_Midrow_oldest) := ⟨rfl, rfl, rfl, by decide +kernel, rfl, by decide +kernel, by decide +kernel⟩
theorem sc_Midrow_share : FnScope ["self"] ["self"] (defScope s_Midrow_share) := ⟨rfl, rfl, rfl, by decide +kernel, rfl, by decide +kernel, by decide +kernel⟩
theorem sc_Midrow_pile_of : FnScope ["self", "thing"] ["self", "thing"] (defScope s_Midrow_pile_of) := ⟨rfl, rfl, rfl, by decide +kernel, rfl, by decide +kernel, by decide +kernel⟩
theorem sc_Midrow_settle : FnScope ["self", "wanted"] ["self"] (defScope s_Midrow_settle) := ⟨rfl, rfl, rfl, by decide +kernel, rfl, by decide +kernel, by decide +kernel⟩
theorem sc__law_at : FnScope ["_law_script", "_law_k"] ["_law_script", "_law_k"] (defScope s__law_at) := ⟨rfl, rfl, rfl, by decide +kernel, rfl, by decide +kernel, by decide +kernel⟩
theorem sc__law_is : FnScope ["_law_found", "_law_due"] ["_law_found", "_law_due"] (defScope s__law_is) := ⟨rfl, rfl, rfl, by decide +kernel, rfl, by decide +kernel, by decide +kernel⟩
theorem sc__law_number : FnScope ["_law_load", "_law_rest"] ["_law_load"] (defScope s__law_number) := ⟨rfl, rfl, rfl, by decide +kernel, rfl, by decide +kernel, by decide +kernel⟩
theorem sc__law_no_number : FnScope ["_law_row", "_law_coming", "e", "_law_others"] ["_law_row", "_law_coming"] (defScope s__law_no_number) := ⟨rfl, rfl, rfl, by decide +kernel, rfl, by decide +kernel, by decide +kernel⟩
theorem sc__law_no_take : FnScope ["_law_row", "_law_coming", "e", "_law_others"] ["_law_row", "_law_coming"] (defScope s__law_no_take) := ⟨rfl, rfl, rfl, by decide +kernel, rfl, by decide +kernel, by decide +kernel⟩
theorem sc__law_no_oldest : FnScope ["_law_row", "e", "_law_others"] ["_law_row"] (defScope s__law_no_oldest) := ⟨rfl, rfl, rfl, by decide +kernel, rfl, by decide +kernel, by decide +kernel⟩
theorem sc__law_look : FnScope ["_law_row", "_law_kept", "_law_load", "_law_one"] ["_law_row", "_law_kept", "_law_load"] (defScope s__law_look) := ⟨rfl, rfl, rfl, by decide +kernel, rfl, by decide +kernel, by decide +kernel⟩
theorem sc__law_taken : FnScope ["_law_row", "_law_kept", "_law_at_here", "_law_one"] ["_law_row", "_law_kept", "_law_at_here"] (defScope s__law_taken) := ⟨rfl, rfl, rfl, by decide +kernel, rfl, by decide +kernel, by decide +kernel⟩
theorem sc__law_asked : FnScope ["_law_row", "_law_kept", "_law_coming", "_law_at_here", "_law_k", "_law_one"] ["_law_row", "_law_kept", "_law_coming"] (defScope s__law_asked) := ⟨rfl, rfl, rfl, by decide +kernel, rfl, by decide +kernel, by decide +kernel⟩
theorem sc__law_put : FnScope ["_law_row", "_law_kept", "_law_came", "_law_number_here"] ["_law_row", "_law_kept", "_law_came", "_law_number_here"] (defScope s__law_put) := ⟨rfl, rfl, rfl, by decide +kernel, rfl, by decide +kernel, by decide +kernel⟩
theorem sc_law : FnScope ["_law_script", "_law_whole", "_law_rows", "_law_kept", "_law_came", "_law_cell", "_law_at_here", "_law_way", "_law_load", "_law_good", "_law_far"] ["_law_script"] (defScope s_law) := ⟨rfl, rfl, rfl, by decide +kernel, rfl, by decide +kernel, by decide +kernel⟩
structure Lk where
  MidError : Addr
  NoShare : Addr
  NoThing : Addr
  Empty : Addr
  Twice : Addr
  NoWidth : Addr
  Pile : Addr
  Turned : Addr
  Midrow : Addr
  a_Pile___init__ : Addr
  d_Pile___init__ : FuncData
  a_Pile_ahead : Addr
  d_Pile_ahead : FuncData
  a_Pile_many : Addr
  d_Pile_many : FuncData
  a_Pile_top : Addr
  d_Pile_top : FuncData
  a_Pile_put : Addr
  d_Pile_put : FuncData
  a_Pile_take : Addr
  d_Pile_take : FuncData
  a_Pile_fill : Addr
  d_Pile_fill : FuncData
  a_Pile_rise : Addr
  d_Pile_rise : FuncData
  a_Pile_is_ahead_of_upper : Addr
  d_Pile_is_ahead_of_upper : FuncData
  a_Pile_sink : Addr
  d_Pile_sink : FuncData
  a_Pile_place_under : Addr
  d_Pile_place_under : FuncData
  a_Pile_lay : Addr
  d_Pile_lay : FuncData
  a_Turned_ahead : Addr
  d_Turned_ahead : FuncData
  a_check_share : Addr
  d_check_share : FuncData
  a_place : Addr
  d_place : FuncData
  a_move_top : Addr
  d_move_top : FuncData
  a_Midrow___init__ : Addr
  d_Midrow___init__ : FuncData
  v_Midrow___init__ : List Value
  a_Midrow_many : Addr
  d_Midrow_many : FuncData
  a_Midrow_put : Addr
  d_Midrow_put : FuncData
  a_Midrow_take : Addr
  d_Midrow_take : FuncData
  a_Midrow_number_of : Addr
  d_Midrow_number_of : FuncData
  a_Midrow_oldest : Addr
  d_Midrow_oldest : FuncData
  a_Midrow_share : Addr
  d_Midrow_share : FuncData
  a_Midrow_pile_of : Addr
  d_Midrow_pile_of : FuncData
  a_Midrow_settle : Addr
  d_Midrow_settle : FuncData
  a__law_at : Addr
  d__law_at : FuncData
  a__law_is : Addr
  d__law_is : FuncData
  a__law_number : Addr
  d__law_number : FuncData
  a__law_no_number : Addr
  d__law_no_number : FuncData
  a__law_no_take : Addr
  d__law_no_take : FuncData
  a__law_no_oldest : Addr
  d__law_no_oldest : FuncData
  a__law_look : Addr
  d__law_look : FuncData
  a__law_taken : Addr
  d__law_taken : FuncData
  a__law_asked : Addr
  d__law_asked : FuncData
  a__law_put : Addr
  d__law_put : FuncData
  a_law : Addr
  d_law : FuncData
structure Txt (K : PySem.W.Frag) (mg : Str → Option Value) (L : Lk) : Prop where
  z_len : mg "len" = none
  z_max : mg "max" = none
  z_min : mg "min" = none
  z_isinstance : mg "isinstance" = none
  z_int : mg "int" = none
  z_bool : mg "bool" = none
  z_enumerate : mg "enumerate" = none
  z_ValueError : mg "ValueError" = none
  m_MidError : mg "MidError" = some (.ref L.MidError)
  m_NoShare : mg "NoShare" = some (.ref L.NoShare)
  m_NoThing : mg "NoThing" = some (.ref L.NoThing)
  m_Empty : mg "Empty" = some (.ref L.Empty)
  m_Twice : mg "Twice" = some (.ref L.Twice)
  m_NoWidth : mg "NoWidth" = some (.ref L.NoWidth)
  m_Pile : mg "Pile" = some (.ref L.Pile)
  m_Turned : mg "Turned" = some (.ref L.Turned)
  m_Midrow : mg "Midrow" = some (.ref L.Midrow)
  x_NoShare : ExcC K L.NoShare
  e_NoShare : ExcK K L.NoShare
  x_NoThing : ExcC K L.NoThing
  e_NoThing : ExcK K L.NoThing
  x_Empty : ExcC K L.Empty
  e_Empty : ExcK K L.Empty
  x_Twice : ExcC K L.Twice
  e_Twice : ExcK K L.Twice
  ka_Empty : PySem.W.kitAny K (.ref L.Empty) ([L.NoShare, L.NoThing, L.NoWidth, L.Twice].map Value.ref) = some false
  ks_Empty : PySem.W.kitOne K (.ref L.Empty) (.ref L.Empty) = some true
  kv_Empty : PySem.W.kitOne K (.ref L.Empty) (.type "ValueError") = some true
  tk_Empty : Takes K L.Empty L.MidError
  ka_NoThing : PySem.W.kitAny K (.ref L.NoThing) ([L.NoShare, L.Empty, L.NoWidth, L.Twice].map Value.ref) = some false
  ks_NoThing : PySem.W.kitOne K (.ref L.NoThing) (.ref L.NoThing) = some true
  kv_NoThing : PySem.W.kitOne K (.ref L.NoThing) (.type "ValueError") = some true
  tk_NoThing : Takes K L.NoThing L.MidError
  cl_Pile : Cls K L.Pile
  na_Pile_held : NoAttr K L.Pile "held"
  na_Pile_high : NoAttr K L.Pile "high"
  na_Pile_last_coming : NoAttr K L.Pile "last_coming"
  na_Pile_low : NoAttr K L.Pile "low"
  na_Pile_numbers : NoAttr K L.Pile "numbers"
  na_Pile_part : NoAttr K L.Pile "part"
  na_Pile_spots : NoAttr K L.Pile "spots"
  na_Pile_total : NoAttr K L.Pile "total"
  na_Pile_whole : NoAttr K L.Pile "whole"
  cl_Turned : Cls K L.Turned
  na_Turned_held : NoAttr K L.Turned "held"
  na_Turned_high : NoAttr K L.Turned "high"
  na_Turned_last_coming : NoAttr K L.Turned "last_coming"
  na_Turned_low : NoAttr K L.Turned "low"
  na_Turned_numbers : NoAttr K L.Turned "numbers"
  na_Turned_part : NoAttr K L.Turned "part"
  na_Turned_spots : NoAttr K L.Turned "spots"
  na_Turned_total : NoAttr K L.Turned "total"
  na_Turned_whole : NoAttr K L.Turned "whole"
  cl_Midrow : Cls K L.Midrow
  na_Midrow_held : NoAttr K L.Midrow "held"
  na_Midrow_high : NoAttr K L.Midrow "high"
  na_Midrow_last_coming : NoAttr K L.Midrow "last_coming"
  na_Midrow_low : NoAttr K L.Midrow "low"
  na_Midrow_numbers : NoAttr K L.Midrow "numbers"
  na_Midrow_part : NoAttr K L.Midrow "part"
  na_Midrow_spots : NoAttr K L.Midrow "spots"
  na_Midrow_total : NoAttr K L.Midrow "total"
  na_Midrow_whole : NoAttr K L.Midrow "whole"
  ne_Pile_Turned : L.Pile ≠ L.Turned
  k_Pile___init__ : PySem.W.keepIn K (.ref L.a_Pile___init__) = true
  b_Pile___init__ : Binds K L.d_Pile___init__ ["self"] []
  f_Pile___init__ : Fun K "__init__" "Pile.__init__" s_Pile___init__ L.a_Pile___init__ L.d_Pile___init__
  k_Pile_ahead : PySem.W.keepIn K (.ref L.a_Pile_ahead) = true
  b_Pile_ahead : Binds K L.d_Pile_ahead ["self", "one", "other"] []
  f_Pile_ahead : Fun K "ahead" "Pile.ahead" s_Pile_ahead L.a_Pile_ahead L.d_Pile_ahead
  k_Pile_many : PySem.W.keepIn K (.ref L.a_Pile_many) = true
  b_Pile_many : Binds K L.d_Pile_many ["self"] []
  f_Pile_many : Fun K "many" "Pile.many" s_Pile_many L.a_Pile_many L.d_Pile_many
  k_Pile_top : PySem.W.keepIn K (.ref L.a_Pile_top) = true
  b_Pile_top : Binds K L.d_Pile_top ["self"] []
  f_Pile_top : Fun K "top" "Pile.top" s_Pile_top L.a_Pile_top L.d_Pile_top
  k_Pile_put : PySem.W.keepIn K (.ref L.a_Pile_put) = true
  b_Pile_put : Binds K L.d_Pile_put ["self", "thing"] []
  f_Pile_put : Fun K "put" "Pile.put" s_Pile_put L.a_Pile_put L.d_Pile_put
  k_Pile_take : PySem.W.keepIn K (.ref L.a_Pile_take) = true
  b_Pile_take : Binds K L.d_Pile_take ["self", "coming"] []
  f_Pile_take : Fun K "take" "Pile.take" s_Pile_take L.a_Pile_take L.d_Pile_take
  k_Pile_fill : PySem.W.keepIn K (.ref L.a_Pile_fill) = true
  b_Pile_fill : Binds K L.d_Pile_fill ["self", "thing", "at"] []
  f_Pile_fill : Fun K "fill" "Pile.fill" s_Pile_fill L.a_Pile_fill L.d_Pile_fill
  k_Pile_rise : PySem.W.keepIn K (.ref L.a_Pile_rise) = true
  b_Pile_rise : Binds K L.d_Pile_rise ["self", "thing", "at"] []
  f_Pile_rise : Fun K "rise" "Pile.rise" s_Pile_rise L.a_Pile_rise L.d_Pile_rise
  k_Pile_is_ahead_of_upper : PySem.W.keepIn K (.ref L.a_Pile_is_ahead_of_upper) = true
  b_Pile_is_ahead_of_upper : Binds K L.d_Pile_is_ahead_of_upper ["self", "thing", "at"] []
  f_Pile_is_ahead_of_upper : Fun K "is_ahead_of_upper" "Pile.is_ahead_of_upper" s_Pile_is_ahead_of_upper L.a_Pile_is_ahead_of_upper L.d_Pile_is_ahead_of_upper
  k_Pile_sink : PySem.W.keepIn K (.ref L.a_Pile_sink) = true
  b_Pile_sink : Binds K L.d_Pile_sink ["self", "thing", "at"] []
  f_Pile_sink : Fun K "sink" "Pile.sink" s_Pile_sink L.a_Pile_sink L.d_Pile_sink
  k_Pile_place_under : PySem.W.keepIn K (.ref L.a_Pile_place_under) = true
  b_Pile_place_under : Binds K L.d_Pile_place_under ["self", "at"] []
  f_Pile_place_under : Fun K "place_under" "Pile.place_under" s_Pile_place_under L.a_Pile_place_under L.d_Pile_place_under
  k_Pile_lay : PySem.W.keepIn K (.ref L.a_Pile_lay) = true
  b_Pile_lay : Binds K L.d_Pile_lay ["self", "thing", "at"] []
  f_Pile_lay : Fun K "lay" "Pile.lay" s_Pile_lay L.a_Pile_lay L.d_Pile_lay
  k_Turned_ahead : PySem.W.keepIn K (.ref L.a_Turned_ahead) = true
  b_Turned_ahead : Binds K L.d_Turned_ahead ["self", "one", "other"] []
  f_Turned_ahead : Fun K "ahead" "Turned.ahead" s_Turned_ahead L.a_Turned_ahead L.d_Turned_ahead
  m_check_share : mg "check_share" = some (.ref L.a_check_share)
  k_check_share : PySem.W.keepIn K (.ref L.a_check_share) = true
  b_check_share : Binds K L.d_check_share ["part", "whole"] []
  f_check_share : Fun K "check_share" "check_share" s_check_share L.a_check_share L.d_check_share
  m_place : mg "place" = some (.ref L.a_place)
  k_place : PySem.W.keepIn K (.ref L.a_place) = true
  b_place : Binds K L.d_place ["many", "part", "whole"] []
  f_place : Fun K "place" "place" s_place L.a_place L.d_place
  m_move_top : mg "move_top" = some (.ref L.a_move_top)
  k_move_top : PySem.W.keepIn K (.ref L.a_move_top) = true
  b_move_top : Binds K L.d_move_top ["source", "target"] []
  f_move_top : Fun K "move_top" "move_top" s_move_top L.a_move_top L.d_move_top
  k_Midrow___init__ : PySem.W.keepIn K (.ref L.a_Midrow___init__) = true
  b_Midrow___init__ : Binds K L.d_Midrow___init__ ["self", "part", "whole"] []
  f_Midrow___init__ : FunD K "__init__" "Midrow.__init__" s_Midrow___init__ L.a_Midrow___init__ L.d_Midrow___init__ L.v_Midrow___init__
  b_Midrow___init___1 : Binds K L.d_Midrow___init__ ["self", "part", "whole"] (L.v_Midrow___init__.drop 1)
  v_Midrow___init___1 : Vals [.int 2] (L.v_Midrow___init__.drop 1)
  b_Midrow___init___2 : Binds K L.d_Midrow___init__ ["self", "part", "whole"] (L.v_Midrow___init__.drop 0)
  v_Midrow___init___2 : Vals [.int 1, .int 2] (L.v_Midrow___init__.drop 0)
  k_Midrow_many : PySem.W.keepIn K (.ref L.a_Midrow_many) = true
  b_Midrow_many : Binds K L.d_Midrow_many ["self"] []
  f_Midrow_many : Fun K "many" "Midrow.many" s_Midrow_many L.a_Midrow_many L.d_Midrow_many
  k_Midrow_put : PySem.W.keepIn K (.ref L.a_Midrow_put) = true
  b_Midrow_put : Binds K L.d_Midrow_put ["self", "number"] []
  f_Midrow_put : Fun K "put" "Midrow.put" s_Midrow_put L.a_Midrow_put L.d_Midrow_put
  k_Midrow_take : PySem.W.keepIn K (.ref L.a_Midrow_take) = true
  b_Midrow_take : Binds K L.d_Midrow_take ["self", "coming"] []
  f_Midrow_take : Fun K "take" "Midrow.take" s_Midrow_take L.a_Midrow_take L.d_Midrow_take
  k_Midrow_number_of : PySem.W.keepIn K (.ref L.a_Midrow_number_of) = true
  b_Midrow_number_of : Binds K L.d_Midrow_number_of ["self", "coming"] []
  f_Midrow_number_of : Fun K "number_of" "Midrow.number_of" s_Midrow_number_of L.a_Midrow_number_of L.d_Midrow_number_of
  k_Midrow_oldest : PySem.W.keepIn K (.ref L.a_Midrow_oldest) = true
  b_Midrow_oldest : Binds K L.d_Midrow_oldest ["self"] []
  f_Midrow_oldest : Fun K "oldest" "Midrow.oldest" s_Midrow_oldest L.a_Midrow_oldest L.d_Midrow_oldest
  k_Midrow_share : PySem.W.keepIn K (.ref L.a_Midrow_share) = true
  b_Midrow_share : Binds K L.d_Midrow_share ["self"] []
  f_Midrow_share : Fun K "share" "Midrow.share" s_Midrow_share L.a_Midrow_share L.d_Midrow_share
  k_Midrow_pile_of : PySem.W.keepIn K (.ref L.a_Midrow_pile_of) = true
  b_Midrow_pile_of : Binds K L.d_Midrow_pile_of ["self", "thing"] []
  f_Midrow_pile_of : Fun K "pile_of" "Midrow.pile_of" s_Midrow_pile_of L.a_Midrow_pile_of L.d_Midrow_pile_of
  k_Midrow_settle : PySem.W.keepIn K (.ref L.a_Midrow_settle) = true
  b_Midrow_settle : Binds K L.d_Midrow_settle ["self"] []
  f_Midrow_settle : Fun K "settle" "Midrow.settle" s_Midrow_settle L.a_Midrow_settle L.d_Midrow_settle
  m__law_at : mg "_law_at" = some (.ref L.a__law_at)
  k__law_at : PySem.W.keepIn K (.ref L.a__law_at) = true
  b__law_at : Binds K L.d__law_at ["_law_script", "_law_k"] []
  f__law_at : Fun K "_law_at" "_law_at" s__law_at L.a__law_at L.d__law_at
  m__law_is : mg "_law_is" = some (.ref L.a__law_is)
  k__law_is : PySem.W.keepIn K (.ref L.a__law_is) = true
  b__law_is : Binds K L.d__law_is ["_law_found", "_law_due"] []
  f__law_is : Fun K "_law_is" "_law_is" s__law_is L.a__law_is L.d__law_is
  m__law_number : mg "_law_number" = some (.ref L.a__law_number)
  k__law_number : PySem.W.keepIn K (.ref L.a__law_number) = true
  b__law_number : Binds K L.d__law_number ["_law_load"] []
  f__law_number : Fun K "_law_number" "_law_number" s__law_number L.a__law_number L.d__law_number
  m__law_no_number : mg "_law_no_number" = some (.ref L.a__law_no_number)
  k__law_no_number : PySem.W.keepIn K (.ref L.a__law_no_number) = true
  b__law_no_number : Binds K L.d__law_no_number ["_law_row", "_law_coming"] []
  f__law_no_number : Fun K "_law_no_number" "_law_no_number" s__law_no_number L.a__law_no_number L.d__law_no_number
  m__law_no_take : mg "_law_no_take" = some (.ref L.a__law_no_take)
  k__law_no_take : PySem.W.keepIn K (.ref L.a__law_no_take) = true
  b__law_no_take : Binds K L.d__law_no_take ["_law_row", "_law_coming"] []
  f__law_no_take : Fun K "_law_no_take" "_law_no_take" s__law_no_take L.a__law_no_take L.d__law_no_take
  m__law_no_oldest : mg "_law_no_oldest" = some (.ref L.a__law_no_oldest)
  k__law_no_oldest : PySem.W.keepIn K (.ref L.a__law_no_oldest) = true
  b__law_no_oldest : Binds K L.d__law_no_oldest ["_law_row"] []
  f__law_no_oldest : Fun K "_law_no_oldest" "_law_no_oldest" s__law_no_oldest L.a__law_no_oldest L.d__law_no_oldest
  m__law_look : mg "_law_look" = some (.ref L.a__law_look)
  k__law_look : PySem.W.keepIn K (.ref L.a__law_look) = true
  b__law_look : Binds K L.d__law_look ["_law_row", "_law_kept", "_law_load"] []
  f__law_look : Fun K "_law_look" "_law_look" s__law_look L.a__law_look L.d__law_look
  m__law_taken : mg "_law_taken" = some (.ref L.a__law_taken)
  k__law_taken : PySem.W.keepIn K (.ref L.a__law_taken) = true
  b__law_taken : Binds K L.d__law_taken ["_law_row", "_law_kept", "_law_at_here"] []
  f__law_taken : Fun K "_law_taken" "_law_taken" s__law_taken L.a__law_taken L.d__law_taken
  m__law_asked : mg "_law_asked" = some (.ref L.a__law_asked)
  k__law_asked : PySem.W.keepIn K (.ref L.a__law_asked) = true
  b__law_asked : Binds K L.d__law_asked ["_law_row", "_law_kept", "_law_coming"] []
  f__law_asked : Fun K "_law_asked" "_law_asked" s__law_asked L.a__law_asked L.d__law_asked
  m__law_put : mg "_law_put" = some (.ref L.a__law_put)
  k__law_put : PySem.W.keepIn K (.ref L.a__law_put) = true
  b__law_put : Binds K L.d__law_put ["_law_row", "_law_kept", "_law_came", "_law_number_here"] []
  f__law_put : Fun K "_law_put" "_law_put" s__law_put L.a__law_put L.d__law_put
  m_law : mg "law" = some (.ref L.a_law)
  k_law : PySem.W.keepIn K (.ref L.a_law) = true
  b_law : Binds K L.d_law ["_law_script"] []
  f_law : Fun K "law" "law" s_law L.a_law L.d_law
  mk_Pile : Mk K L.Pile L.a_Pile___init__
  me_Pile_ahead : Meth K L.Pile "ahead" L.a_Pile_ahead
  me_Pile_many : Meth K L.Pile "many" L.a_Pile_many
  me_Pile_top : Meth K L.Pile "top" L.a_Pile_top
  me_Pile_put : Meth K L.Pile "put" L.a_Pile_put
  me_Pile_take : Meth K L.Pile "take" L.a_Pile_take
  me_Pile_fill : Meth K L.Pile "fill" L.a_Pile_fill
  me_Pile_rise : Meth K L.Pile "rise" L.a_Pile_rise
  me_Pile_is_ahead_of_upper : Meth K L.Pile "is_ahead_of_upper" L.a_Pile_is_ahead_of_upper
  me_Pile_sink : Meth K L.Pile "sink" L.a_Pile_sink
  me_Pile_place_under : Meth K L.Pile "place_under" L.a_Pile_place_under
  me_Pile_lay : Meth K L.Pile "lay" L.a_Pile_lay
  mk_Turned : Mk K L.Turned L.a_Pile___init__
  me_Turned_ahead : Meth K L.Turned "ahead" L.a_Turned_ahead
  me_Turned_many : Meth K L.Turned "many" L.a_Pile_many
  me_Turned_top : Meth K L.Turned "top" L.a_Pile_top
  me_Turned_put : Meth K L.Turned "put" L.a_Pile_put
  me_Turned_take : Meth K L.Turned "take" L.a_Pile_take
  me_Turned_fill : Meth K L.Turned "fill" L.a_Pile_fill
  me_Turned_rise : Meth K L.Turned "rise" L.a_Pile_rise
  me_Turned_is_ahead_of_upper : Meth K L.Turned "is_ahead_of_upper" L.a_Pile_is_ahead_of_upper
  me_Turned_sink : Meth K L.Turned "sink" L.a_Pile_sink
  me_Turned_place_under : Meth K L.Turned "place_under" L.a_Pile_place_under
  me_Turned_lay : Meth K L.Turned "lay" L.a_Pile_lay
  mk_Midrow : Mk K L.Midrow L.a_Midrow___init__
  me_Midrow_many : Meth K L.Midrow "many" L.a_Midrow_many
  me_Midrow_put : Meth K L.Midrow "put" L.a_Midrow_put
  me_Midrow_take : Meth K L.Midrow "take" L.a_Midrow_take
  me_Midrow_number_of : Meth K L.Midrow "number_of" L.a_Midrow_number_of
  me_Midrow_oldest : Meth K L.Midrow "oldest" L.a_Midrow_oldest
  me_Midrow_share : Meth K L.Midrow "share" L.a_Midrow_share
  me_Midrow_pile_of : Meth K L.Midrow "pile_of" L.a_Midrow_pile_of
  me_Midrow_settle : Meth K L.Midrow "settle" L.a_Midrow_settle
/-! ### what a pile promises -/
def clsOf (L : Lk) (tn : Bool) : Addr := if tn = true then L.Turned else L.Pile
def okP (L : Lk) (C : Addr) : Prop := C = L.Pile ∨ C = L.Turned
theorem clsOf_ok (L : Lk) (tn : Bool) : okP L (clsOf L tn) := by cases tn; exact .inl rfl; exact .inr rfl
structure Raw (L : Lk) (H : Hp) (p dx l d : Addr) (tn : Bool) (tot : Int) (us : List Th) (kvs : List (Key × V)) : Prop where
  hp : H p = some (.ins (clsOf L tn) dx [("held", .ref l), ("spots", .ref d), ("total", .int tot)])
  hx : H dx = some (.own p)
  hl : ∃ xs, H l = some (.lst xs) ∧ Paired (kPair.R H) xs us
  hd : H d = some (.dK kvs)
theorem Raw.keep {L : Lk} {H H' : Hp} {p dx l d : Addr} {tn : Bool} {tot : Int} {us : List Th} {kvs : List (Key × V)} (R : Raw L H p dx l d tn tot us kvs) (h : ∀ b o, b ∈ [p, dx, l, d] → H b = some o → H' b = some o) (ht : ∀ b xs, H b = some (.tup xs) → H' b = some (.tup xs)) : Raw L H' p dx l d tn tot us kvs := by
  obtain ⟨xs, h3, h4⟩ := R.hl
  exact ⟨h _ _ (by simp) R.hp, h _ _ (by simp) R.hx, ⟨xs, h _ _ (by simp) h3, pairs_keep ht h4⟩, h _ _ (by simp) R.hd⟩
section
variable {L : Lk} {H : Hp} {p dx l d : Addr} {tn : Bool} {tot : Int} {us : List Th} {kvs : List (Key × V)}
theorem fr_set {F : List Addr} {H : Hp} {b : Addr} {o u : HO} (hb : b ∈ F) (h : H b = some u) (hu : ∀ xs, u ≠ .tup xs) : Fr F F H (upd H b o) :=
  ⟨fun c v hc q => by rw [upd_ne (fun e => hc (by rw [e]; exact hb))]; exact q, fun c zs q => by rw [upd_ne (fun e => hu zs (by rw [e] at q; rw [h] at q; exact Option.some.inj q))]; exact q, fun c hc => .inl hc⟩
theorem Raw.setL (R : Raw L H p dx l d tn tot us kvs) {ys : List V} {us' : List Th} (hp : Paired (kPair.R H) ys us') : Raw L (upd H l (.lst ys)) p dx l d tn tot us' kvs ∧ Fr [p, dx, l, d] [p, dx, l, d] H (upd H l (.lst ys)) := by
  obtain ⟨xs, h3, h4⟩ := R.hl
  have f : Fr [p, dx, l, d] [p, dx, l, d] H (upd H l (.lst ys)) := fr_set (by simp) h3 (by simp)
  refine ⟨⟨?_, ?_, ⟨ys, upd_same, pairs_keep f.tup hp⟩, ?_⟩, f⟩
  · rw [upd_ne (ne_of R.hp h3 (by simp))]; exact R.hp
  · rw [upd_ne (ne_of R.hx h3 (by simp))]; exact R.hx
  · rw [upd_ne (ne_of R.hd h3 (by simp))]; exact R.hd
theorem Raw.setD (R : Raw L H p dx l d tn tot us kvs) {kvs' : List (Key × V)} : Raw L (upd H d (.dK kvs')) p dx l d tn tot us kvs' ∧ Fr [p, dx, l, d] [p, dx, l, d] H (upd H d (.dK kvs')) := by
  obtain ⟨xs, h3, h4⟩ := R.hl
  have f : Fr [p, dx, l, d] [p, dx, l, d] H (upd H d (.dK kvs')) := fr_set (by simp) R.hd (by simp)
  refine ⟨⟨?_, ?_, ⟨xs, ?_, pairs_keep f.tup h4⟩, upd_same⟩, f⟩
  · rw [upd_ne (ne_of R.hp R.hd (by simp))]; exact R.hp
  · rw [upd_ne (ne_of R.hx R.hd (by simp))]; exact R.hx
  · rw [upd_ne (ne_of h3 R.hd (by simp))]; exact h3
theorem Raw.setP (R : Raw L H p dx l d tn tot us kvs) {tot' : Int} : Raw L (upd H p (.ins (clsOf L tn) dx (putF "total" (.int tot') [("held", .ref l), ("spots", .ref d), ("total", .int tot)]))) p dx l d tn tot' us kvs ∧ Fr [p, dx, l, d] [p, dx, l, d] H (upd H p (.ins (clsOf L tn) dx (putF "total" (.int tot') [("held", .ref l), ("spots", .ref d), ("total", .int tot)]))) := by
  obtain ⟨xs, h3, h4⟩ := R.hl
  have f : Fr [p, dx, l, d] [p, dx, l, d] H (upd H p (.ins (clsOf L tn) dx (putF "total" (.int tot') [("held", .ref l), ("spots", .ref d), ("total", .int tot)]))) := fr_set (by simp) R.hp (by simp)
  refine ⟨⟨by rw [upd_same]; rfl, ?_, ⟨xs, ?_, pairs_keep f.tup h4⟩, ?_⟩, f⟩
  · rw [upd_ne (ne_of R.hx R.hp (by simp))]; exact R.hx
  · rw [upd_ne (ne_of h3 R.hp (by simp))]; exact h3
  · rw [upd_ne (ne_of R.hd R.hp (by simp))]; exact R.hd
end
structure Rep (L : Lk) (H : Hp) (p : Addr) (tn : Bool) (F : List Addr) (ts : List Th) : Prop where
  ex : ∃ dx l d kvs, F = [p, dx, l, d] ∧ Raw L H p dx l d tn (ts.map (·.1)).sum ts kvs ∧ SpotsOk kvs ts
  form : Form (ahP tn) ts
  nod : (ts.map (·.2)).Nodup
theorem Rep.dom {L : Lk} {H : Hp} {p : Addr} {tn : Bool} {F : List Addr} {ts : List Th} (R : Rep L H p tn F ts) : ∀ b ∈ F, H b ≠ none := by
  obtain ⟨dx, l, d, kvs, rfl, h, _⟩ := R.ex
  obtain ⟨xs, h3, _⟩ := h.hl
  intro b hb
  simp only [List.mem_cons, List.not_mem_nil, or_false] at hb
  rcases hb with rfl | rfl | rfl | rfl
  · rw [h.hp]; simp
  · rw [h.hx]; simp
  · rw [h3]; simp
  · rw [h.hd]; simp
theorem Rep.keep {L : Lk} {H H' : Hp} {p : Addr} {tn : Bool} {F : List Addr} {ts : List Th} (R : Rep L H p tn F ts) (h : ∀ b o, b ∈ F → H b = some o → H' b = some o) (ht : ∀ b xs, H b = some (.tup xs) → H' b = some (.tup xs)) : Rep L H' p tn F ts := by
  obtain ⟨dx, l, d, kvs, e, h1, h6⟩ := R.ex
  subst e
  exact ⟨⟨dx, l, d, kvs, rfl, h1.keep h ht, h6⟩, R.form, R.nod⟩
theorem Rep.same {L : Lk} {H H' : Hp} {p : Addr} {tn : Bool} {F : List Addr} {ts : List Th} (R : Rep L H p tn F ts) (s : Same H H') : Rep L H' p tn F ts := R.keep (fun b o _ q => s b o q) s.tup
def PlM (m : Str) : Prop := m ≠ "held" ∧ m ≠ "spots" ∧ m ≠ "total"
theorem Raw.at {L : Lk} {H : Hp} {p dx l d : Addr} {tn : Bool} {tot : Int} {us : List Th} {kvs : List (Key × V)} (R : Raw L H p dx l d tn tot us kvs) : ∃ fs, H p = some (.ins (clsOf L tn) dx fs) ∧ ∀ m, PlM m → fs.lookup m = none :=
  ⟨_, R.hp, fun m hm => by obtain ⟨a, b, c⟩ := hm; simp [List.lookup, beq_eq_false_iff_ne.mpr a, beq_eq_false_iff_ne.mpr b, beq_eq_false_iff_ne.mpr c]⟩
theorem Rep.at {L : Lk} {H : Hp} {p : Addr} {tn : Bool} {F : List Addr} {ts : List Th} (R : Rep L H p tn F ts) : ∃ dx fs, H p = some (.ins (clsOf L tn) dx fs) ∧ ∀ m, PlM m → fs.lookup m = none := by
  obtain ⟨dx, l, d, kvs, rfl, h1, _⟩ := R.ex
  obtain ⟨fs, h⟩ := h1.at
  exact ⟨_, fs, h⟩
def spPInit (L : Lk) : Sp := fun vs H Q _ => ∃ p dx tn, vs = [.ref p] ∧ H p = some (.ins (clsOf L tn) dx []) ∧ H dx = some (.own p) ∧
  ∀ H' F, Rep L H' p tn F [] → (∀ b o, b ≠ p → H b = some o → H' b = some o) → (∀ b ∈ F, b = p ∨ b = dx ∨ H b = none) → Q .non H'
def spAhead (L : Lk) (C : Addr) : Sp := fun vs H Q _ => ∃ p tn x y a b, C = clsOf L tn ∧ vs = [.ref p, x, y] ∧ kPair.R H x a ∧ kPair.R H y b ∧ Q (.bl (ahd tn a b)) H
def spMany (L : Lk) : Sp := fun vs H Q _ => ∃ p tn F ts, vs = [.ref p] ∧ Rep L H p tn F ts ∧ Q (.int (ts.length : Nat)) H
def spWeight (L : Lk) : Sp := fun vs H Q _ => ∃ p tn F ts, vs = [.ref p] ∧ Rep L H p tn F ts ∧ Q (.int (ts.map (·.1)).sum) H
def spTold (L : Lk) : Sp := fun vs H Q _ => ∃ p tn F ts, vs = [.ref p] ∧ Rep L H p tn F ts ∧ ∀ H' l xs, Same H H' → H l = none → H' l = some (.lst xs) → Paired (kPair.R H') xs ts → Q (.ref l) H'
def spPut (L : Lk) : Sp := fun vs H Q E => ∃ p x t tn F ts, vs = [.ref p, x] ∧ Rep L H p tn F ts ∧ kPair.R H x t ∧ ts.length < 1000 ∧
  ((∃ u ∈ ts, u.2 = t.2) → ∀ H', Same H H' → E (.ref L.Twice) none H') ∧
  ((∀ u ∈ ts, u.2 ≠ t.2) → ∀ H' F' ts', Rep L H' p tn F' ts' → Fr F F' H H' → ts'.Perm (t :: ts) → chg ts ts' ≤ bits ts.length → Q .non H')
def spTake (L : Lk) : Sp := fun vs H Q E => ∃ p c tn F ts, vs = [.ref p, .int c] ∧ Rep L H p tn F ts ∧ ts.length < 1000 ∧
  ((∀ u ∈ ts, u.2 ≠ c) → ∀ H', Same H H' → E (.ref L.NoThing) none H') ∧
  (∀ t ∈ ts, t.2 = c → ∀ H' F' ts' x, Rep L H' p tn F' ts' → Fr F F' H H' → ts.Perm (t :: ts') → chg ts ts' ≤ bits ts.length → kPair.R H' x t → Q x H')
def spTop (L : Lk) : Sp := fun vs H Q E => ∃ p tn F ts, vs = [.ref p] ∧ Rep L H p tn F ts ∧ (ts = [] → ∀ H', Same H H' → E (.ref L.Empty) none H') ∧ ∀ x t, ts[0]? = some t → kPair.R H x t → Q x H
/-! ### how a row lies in the heap -/
def rfs (s : RSt) (pl ph nd : Addr) : List (Str × V) := [("part", .int s.part), ("whole", .int s.whole), ("low", .ref pl), ("high", .ref ph), ("numbers", .ref nd), ("last_coming", .int (s.came : Nat))]
structure RRaw (L : Lk) (H : Hp) (r dx pl ph nd : Addr) (Fl Fh : List Addr) (s : RSt) (kvs : List (Key × V)) : Prop where
  hr : H r = some (.ins L.Midrow dx (rfs s pl ph nd))
  hx : H dx = some (.own r)
  hn : H nd = some (.dK kvs)
  lo : Rep L H pl true Fl s.lo
  hi : Rep L H ph false Fh s.hi
  dj : ∀ b ∈ Fl, b ∉ Fh
  nl : ∀ b ∈ Fl, b ≠ r ∧ b ≠ dx ∧ b ≠ nd
  nh : ∀ b ∈ Fh, b ≠ r ∧ b ≠ dx ∧ b ≠ nd
abbrev RF (r dx nd : Addr) (Fl Fh : List Addr) : List Addr := r :: dx :: nd :: (Fl ++ Fh)
def RRep (L : Lk) (H : Hp) (r : Addr) (F : List Addr) (s : RSt) : Prop := ∃ dx pl ph nd Fl Fh kvs, F = RF r dx nd Fl Fh ∧ RRaw L H r dx pl ph nd Fl Fh s kvs ∧ NumOk kvs s.all ∧ ROk s
section
variable {L : Lk} {H H' : Hp} {r dx pl ph nd : Addr} {Fl Fh Fl' Fh' : List Addr} {s s' : RSt} {kvs kvs' : List (Key × V)}
theorem RRep.ok {F : List Addr} (R : RRep L H r F s) : ROk s := by
  obtain ⟨_, _, _, _, _, _, _, _, _, _, O⟩ := R
  exact O
theorem RRaw.dom (R : RRaw L H r dx pl ph nd Fl Fh s kvs) : ∀ b ∈ RF r dx nd Fl Fh, H b ≠ none := fun b hb => by
  simp only [List.mem_cons, List.mem_append] at hb
  rcases hb with rfl | rfl | rfl | hb | hb
  · rw [R.hr]; simp
  · rw [R.hx]; simp
  · rw [R.hn]; simp
  · exact R.lo.dom b hb
  · exact R.hi.dom b hb
theorem RRep.dom {F : List Addr} (R : RRep L H r F s) : ∀ b ∈ F, H b ≠ none := by
  obtain ⟨_, _, _, _, _, _, _, rfl, R, _⟩ := R
  exact R.dom
theorem RRaw.keep (R : RRaw L H r dx pl ph nd Fl Fh s kvs) (h : ∀ b o, b ∈ RF r dx nd Fl Fh → H b = some o → H' b = some o) (ht : ∀ b xs, H b = some (.tup xs) → H' b = some (.tup xs)) : RRaw L H' r dx pl ph nd Fl Fh s kvs :=
  ⟨h _ _ (by simp) R.hr, h _ _ (by simp) R.hx, h _ _ (by simp) R.hn, R.lo.keep (fun b o hb => h b o (by simp [hb])) ht, R.hi.keep (fun b o hb => h b o (by simp [hb])) ht, R.dj, R.nl, R.nh⟩
theorem RRep.keep {F : List Addr} (R : RRep L H r F s) (h : ∀ b o, b ∈ F → H b = some o → H' b = some o) (ht : ∀ b xs, H b = some (.tup xs) → H' b = some (.tup xs)) : RRep L H' r F s := by
  obtain ⟨dx, pl, ph, nd, Fl, Fh, kvs, rfl, R, N, O⟩ := R
  exact ⟨dx, pl, ph, nd, Fl, Fh, kvs, rfl, R.keep h ht, N, O⟩
/-- the low pile has changed -/
theorem RRaw.low {lo' : List Th} (R : RRaw L H r dx pl ph nd Fl Fh s kvs) (P : Rep L H' pl true Fl' lo') (f : Fr Fl Fl' H H') : RRaw L H' r dx pl ph nd Fl' Fh { s with lo := lo' } kvs ∧ Fr (RF r dx nd Fl Fh) (RF r dx nd Fl' Fh) H H' := by
  have n1 : r ∉ Fl := fun z => (R.nl r z).1 rfl
  have n2 : dx ∉ Fl := fun z => (R.nl dx z).2.1 rfl
  have n3 : nd ∉ Fl := fun z => (R.nl nd z).2.2 rfl
  refine ⟨⟨f.keep _ _ n1 R.hr, f.keep _ _ n2 R.hx, f.keep _ _ n3 R.hn, P, R.hi.keep (fun b o hb h => f.keep b o (fun z => R.dj b z hb) h) f.tup, fun b hb hb2 => ?_, fun b hb => ?_, R.nh⟩, ⟨fun b o hb h => f.keep b o (fun z => hb (by simp [z])) h, f.tup, fun b hb => ?_⟩⟩
  · rcases f.grow b hb with z | z
    · exact R.dj b z hb2
    · exact R.hi.dom b hb2 z
  · rcases f.grow b hb with z | z
    · exact R.nl b z
    · exact ⟨fun e => (by rw [e, R.hr] at z; cases z), fun e => (by rw [e, R.hx] at z; cases z), fun e => (by rw [e, R.hn] at z; cases z)⟩
  · simp only [List.mem_cons, List.mem_append] at hb ⊢
    rcases hb with z | z | z | z | z
    · exact .inl (.inl z)
    · exact .inl (.inr (.inl z))
    · exact .inl (.inr (.inr (.inl z)))
    · rcases f.grow b z with y | y
      · exact .inl (.inr (.inr (.inr (.inl y))))
      · exact .inr y
    · exact .inl (.inr (.inr (.inr (.inr z))))
theorem RRaw.high {hi' : List Th} (R : RRaw L H r dx pl ph nd Fl Fh s kvs) (P : Rep L H' ph false Fh' hi') (f : Fr Fh Fh' H H') : RRaw L H' r dx pl ph nd Fl Fh' { s with hi := hi' } kvs ∧ Fr (RF r dx nd Fl Fh) (RF r dx nd Fl Fh') H H' := by
  have n1 : r ∉ Fh := fun z => (R.nh r z).1 rfl
  have n2 : dx ∉ Fh := fun z => (R.nh dx z).2.1 rfl
  have n3 : nd ∉ Fh := fun z => (R.nh nd z).2.2 rfl
  refine ⟨⟨f.keep _ _ n1 R.hr, f.keep _ _ n2 R.hx, f.keep _ _ n3 R.hn, R.lo.keep (fun b o hb h => f.keep b o (fun z => R.dj b hb z) h) f.tup, P, fun b hb hb2 => ?_, R.nl, fun b hb => ?_⟩, ⟨fun b o hb h => f.keep b o (fun z => hb (by simp [z])) h, f.tup, fun b hb => ?_⟩⟩
  · rcases f.grow b hb2 with z | z
    · exact R.dj b hb z
    · exact R.lo.dom b hb z
  · rcases f.grow b hb with z | z
    · exact R.nh b z
    · exact ⟨fun e => (by rw [e, R.hr] at z; cases z), fun e => (by rw [e, R.hx] at z; cases z), fun e => (by rw [e, R.hn] at z; cases z)⟩
  · simp only [List.mem_cons, List.mem_append] at hb ⊢
    rcases hb with z | z | z | z | z
    · exact .inl (.inl z)
    · exact .inl (.inr (.inl z))
    · exact .inl (.inr (.inr (.inl z)))
    · exact .inl (.inr (.inr (.inr (.inl z))))
    · rcases f.grow b z with y | y
      · exact .inl (.inr (.inr (.inr (.inr y))))
      · exact .inr y
/-- the numbers have changed -/
theorem RRaw.setN (R : RRaw L H r dx pl ph nd Fl Fh s kvs) : RRaw L (upd H nd (.dK kvs')) r dx pl ph nd Fl Fh s kvs' ∧ Fr (RF r dx nd Fl Fh) (RF r dx nd Fl Fh) H (upd H nd (.dK kvs')) := by
  have f : Fr (RF r dx nd Fl Fh) (RF r dx nd Fl Fh) H (upd H nd (.dK kvs')) := fr_set (by simp) R.hn (by simp)
  refine ⟨⟨?_, ?_, upd_same, R.lo.keep (fun b o hb h => ?_) f.tup, R.hi.keep (fun b o hb h => ?_) f.tup, R.dj, R.nl, R.nh⟩, f⟩
  · rw [upd_ne (ne_of R.hr R.hn (by simp))]; exact R.hr
  · rw [upd_ne (ne_of R.hx R.hn (by simp))]; exact R.hx
  · rw [upd_ne (R.nl b hb).2.2]; exact h
  · rw [upd_ne (R.nh b hb).2.2]; exact h
/-- the row's own fields have changed -/
theorem RRaw.setR (R : RRaw L H r dx pl ph nd Fl Fh s kvs) (e1 : s'.lo = s.lo) (e2 : s'.hi = s.hi) : RRaw L (upd H r (.ins L.Midrow dx (rfs s' pl ph nd))) r dx pl ph nd Fl Fh s' kvs ∧ Fr (RF r dx nd Fl Fh) (RF r dx nd Fl Fh) H (upd H r (.ins L.Midrow dx (rfs s' pl ph nd))) := by
  have f : Fr (RF r dx nd Fl Fh) (RF r dx nd Fl Fh) H (upd H r (.ins L.Midrow dx (rfs s' pl ph nd))) := fr_set (by simp) R.hr (by simp)
  refine ⟨⟨upd_same, ?_, ?_, ?_, ?_, R.dj, R.nl, R.nh⟩, f⟩
  · rw [upd_ne (ne_of R.hx R.hr (by simp))]; exact R.hx
  · rw [upd_ne (ne_of R.hn R.hr (by simp))]; exact R.hn
  · rw [e1]; exact R.lo.keep (fun b o hb h => by rw [upd_ne (R.nl b hb).1]; exact h) f.tup
  · rw [e2]; exact R.hi.keep (fun b o hb h => by rw [upd_ne (R.nh b hb).1]; exact h) f.tup
def RwM (m : Str) : Prop := m ≠ "part" ∧ m ≠ "whole" ∧ m ≠ "low" ∧ m ≠ "high" ∧ m ≠ "numbers" ∧ m ≠ "last_coming"
theorem RRaw.at (R : RRaw L H r dx pl ph nd Fl Fh s kvs) : ∃ fs, H r = some (.ins L.Midrow dx fs) ∧ ∀ m, RwM m → fs.lookup m = none :=
  ⟨_, R.hr, fun m hm => by
    obtain ⟨a, b, c, d, e, f⟩ := hm
    simp [rfs, List.lookup, beq_eq_false_iff_ne.mpr a, beq_eq_false_iff_ne.mpr b, beq_eq_false_iff_ne.mpr c, beq_eq_false_iff_ne.mpr d, beq_eq_false_iff_ne.mpr e, beq_eq_false_iff_ne.mpr f]⟩
theorem RRep.at {F : List Addr} (R : RRep L H r F s) : ∃ dx fs, H r = some (.ins L.Midrow dx fs) ∧ ∀ m, RwM m → fs.lookup m = none := by
  obtain ⟨dx, pl, ph, nd, Fl, Fh, kvs, rfl, R, N, O⟩ := R
  obtain ⟨fs, h⟩ := R.at
  exact ⟨dx, fs, h⟩
def okR (L : Lk) (C : Addr) : Prop := C = L.Midrow
end
section
variable {P : Program} {w : World} {K : PySem.W.Frag} {mg : Str → Option Value} {base : Heap} {L : Lk}
/-! ### the pile's program: made, ahead, lay, rise, put -/
theorem cl_of (T : Txt K mg L) (tn : Bool) : Cls K (clsOf L tn) := by cases tn; exact T.cl_Pile; exact T.cl_Turned
theorem na_held (T : Txt K mg L) (tn : Bool) : NoAttr K (clsOf L tn) "held" := by cases tn; exact T.na_Pile_held; exact T.na_Turned_held
theorem na_spots (T : Txt K mg L) (tn : Bool) : NoAttr K (clsOf L tn) "spots" := by cases tn; exact T.na_Pile_spots; exact T.na_Turned_spots
theorem na_total (T : Txt K mg L) (tn : Bool) : NoAttr K (clsOf L tn) "total" := by cases tn; exact T.na_Pile_total; exact T.na_Turned_total
theorem ok_Pile___init__ (T : Txt K mg L) : FnOk P w K mg base (CXE P w) 2 L.a_Pile___init__ L.d_Pile___init__ ["self"] (spPInit L) := by
  refine T.f_Pile___init__.ok0 sc_Pile___init__ (fun vs H Q E h => ?_) (fun cdv A outer s H vs Q E hr h => ?_)
  · obtain ⟨p, dx, tn, rfl, _⟩ := h
    rfl
  · obtain ⟨p, dx, tn, rfl, hp, hx, q⟩ := h
    refine ⟨_, (pss_cons (ps_fldK K (pv 0) (pe_lst pa_nil) rfl)
      (pss_cons (ps_fldK K (pv 0) pe_dnewK rfl)
      (pss_one (ps_fldK K (pv 0) pe_int rfl)))), ?_⟩
    refine rd_start (σ := [some _]) rfl ?_
    wtm_at "rd"
    refine ⟨by decide, fun l hl => ?_⟩
    have npl : p ≠ l := ne_of_none hp hl
    have nxl : dx ≠ l := ne_of_none hx hl
    have nxp : dx ≠ p := ne_of hx hp (by simp)
    wtm_at "rd"
    refine ⟨_, _, _, _, rfl, by rw [upd_ne npl]; exact hp, cl_of T tn, na_held T tn, by decide, ?_⟩
    wtm_at "rd"
    intro d hd
    have npd : p ≠ d := ne_of_none upd_same hd
    rw [upd_ne (Ne.symm npd)] at hd
    have nld : l ≠ d := ne_of_none upd_same hd
    rw [upd_ne (Ne.symm nld)] at hd
    have nxd : dx ≠ d := ne_of_none hx hd
    wtm_at "rd"
    refine ⟨_, _, _, _, rfl, (upd_ne npd).trans upd_same, cl_of T tn, na_spots T tn, (by decide : (1 : Nat) < 1000), ?_⟩
    wtm_at "rd"
    refine ⟨_, _, _, _, rfl, upd_same, cl_of T tn, na_total T tn, (by decide : (2 : Nat) < 1000), ?_⟩
    refine q _ [p, dx, l, d] ⟨⟨dx, l, d, [], rfl, ⟨by rw [upd_same]; rfl, ?_, ⟨[], ?_, .nil⟩, ?_⟩, ⟨.nil, fun _ h => (by cases h), fun i t h => (by cases h)⟩⟩, fun k hk a b h => (by cases h), .nil⟩ (fun b o hb h => ?_) fun b hb => ?_
    · rw [upd_ne nxp, upd_ne nxp, upd_ne nxd, upd_ne nxp, upd_ne nxl]; exact hx
    · rw [upd_ne (Ne.symm npl), upd_ne (Ne.symm npl), upd_ne nld, upd_ne (Ne.symm npl)]; exact upd_same
    · rw [upd_ne (Ne.symm npd), upd_ne (Ne.symm npd)]; exact upd_same
    · have n1 := ne_of_none h hl
      have n2 := ne_of_none h hd
      rw [upd_ne hb, upd_ne hb, upd_ne n2, upd_ne hb, upd_ne n1]; exact h
    · simp only [List.mem_cons, List.not_mem_nil, or_false] at hb
      rcases hb with rfl | rfl | rfl | rfl
      · exact .inl rfl
      · exact .inr (.inl rfl)
      · exact .inr (.inr hl)
      · exact .inr (.inr hd)
def spAh (tn : Bool) : Sp := fun vs H Q _ => ∃ p x y a b, vs = [.ref p, x, y] ∧ kPair.R H x a ∧ kPair.R H y b ∧ Q (.bl (ahd tn a b)) H
theorem ok_Pile_ahead (T : Txt K mg L) : FnOk P w K mg base (CXE P w) 2 L.a_Pile_ahead L.d_Pile_ahead ["self", "one", "other"] (spAh false) := by
  refine T.f_Pile_ahead.ok0 sc_Pile_ahead (fun vs H Q E h => ?_) (fun cdv A outer s H vs Q E hr h => ?_)
  · obtain ⟨p, x, y, a, b, rfl, _⟩ := h
    rfl
  · obtain ⟨p, x, y, a, b, rfl, hx, hy, q⟩ := h
    refine ⟨_, (pss_one (ps_ret (pe_cmpR (op_ltTK K (hu_0 hr)) (pv 1) (pv 2) (nomark _)))), ?_⟩
    refine rd_start (σ := [some _, some _, some _]) rfl ?_
    wtm_at "rd"
    exact rd_ltP hx hy q
theorem ok_Turned_ahead (T : Txt K mg L) : FnOk P w K mg base (CXE P w) 2 L.a_Turned_ahead L.d_Turned_ahead ["self", "one", "other"] (spAh true) := by
  refine T.f_Turned_ahead.ok0 sc_Turned_ahead (fun vs H Q E h => ?_) (fun cdv A outer s H vs Q E hr h => ?_)
  · obtain ⟨p, x, y, a, b, rfl, _⟩ := h
    rfl
  · obtain ⟨p, x, y, a, b, rfl, hx, hy, q⟩ := h
    refine ⟨_, (pss_one (ps_ret (pe_cmpR (op_ltTK K (hu_0 hr)) (pv 2) (pv 1) (nomark _)))), ?_⟩
    refine rd_start (σ := [some _, some _, some _]) rfl ?_
    wtm_at "rd"
    exact rd_ltP hy hx q
theorem mo_pile_ahead (T : Txt K mg L) : ∀ C, okP L C → MOk P w K mg base (CXE P w) 2 C "ahead" ["self", "one", "other"] [] (spAhead L C) := by
  rintro C (rfl | rfl)
  · refine ⟨_, _, T.cl_Pile, T.me_Pile_ahead, (ok_Pile_ahead T).imp ?_, T.b_Pile_ahead⟩
    rintro vs H Q E ⟨p, tn, x, y, a, b, e, h⟩
    cases tn
    · exact ⟨p, x, y, a, b, h⟩
    · exact absurd e T.ne_Pile_Turned
  · refine ⟨_, _, T.cl_Turned, T.me_Turned_ahead, (ok_Turned_ahead T).imp ?_, T.b_Turned_ahead⟩
    rintro vs H Q E ⟨p, tn, x, y, a, b, e, h⟩
    cases tn
    · exact absurd e.symm T.ne_Pile_Turned
    · exact ⟨p, x, y, a, b, h⟩
def spLay (L : Lk) : Sp := fun vs H Q _ => ∃ p x k t tn dx l d tot us kvs, vs = [.ref p, x, .int (k : Nat)] ∧ Raw L H p dx l d tn tot us kvs ∧ k < us.length ∧ kvs.length < sizeLine ∧ kPair.R H x t ∧
  ∀ H', Raw L H' p dx l d tn tot (us.set k t) (putK kvs (.inl t.2) (.int (k : Nat))) → Fr [p, dx, l, d] [p, dx, l, d] H H' → Q .non H'
theorem ok_Pile_lay (T : Txt K mg L) : FnOk P w K mg base (CXE P w) 2 L.a_Pile_lay L.d_Pile_lay ["self", "thing", "at"] (spLay L) := by
  refine T.f_Pile_lay.ok0 sc_Pile_lay (fun vs H Q E h => ?_) (fun cdv A outer s H vs Q E hr h => ?_)
  · obtain ⟨p, x, k, t, tn, dx, l, d, tot, us, kvs, rfl, _⟩ := h
    rfl
  · obtain ⟨p, x, k, t, tn, dx, l, d, tot, us, kvs, rfl, R, hk, hz, hx, q⟩ := h
    refine ⟨_, (pss_cons (ps_asg (pv 1) (pg_sub (pe_fldK K (pv 0) rfl) (pv 2) set_list))
      (pss_one (ps_dput (hu_of hr) (pe_fldK K (pv 0) rfl) (pe_ix (ix_tupK K) (pv 1) pe_int (fun _ _ => rfl)) (pv 2) rfl))), ?_⟩
    refine rd_start (σ := [some _, some _, some _]) rfl ?_
    obtain ⟨xs, h3, h4⟩ := R.hl
    have lx := h4.len
    have h1 := R.hp
    have h5 := R.hd
    have nld : l ≠ d := ne_of h3 h5 (by simp)
    have npl : p ≠ l := ne_of h1 h3 (by simp)
    have npd : p ≠ d := ne_of h1 h5 (by simp)
    have nxl : dx ≠ l := ne_of R.hx h3 (by simp)
    have nxd : dx ≠ d := ne_of R.hx h5 (by simp)
    have h5' : upd H l (.lst (xs.set k x)) d = some (.dK kvs) := by rw [upd_ne (Ne.symm nld)]; exact h5
    have t' : ∀ b zs, H b = some (.tup zs) → upd H l (.lst (xs.set k x)) b = some (.tup zs) := fun b zs hb => by rw [upd_ne (ne_of hb h3 (by simp))]; exact hb
    wtm_at "rd"
    refine ⟨_, _, _, _, _, rfl, h1, cl_of T tn, na_held T tn, rfl, ?_⟩
    wtm_at "rd"
    refine ⟨l, xs, _, k, rfl, rfl, h3, ?_, ?_⟩
    · unfold ixN; simp; omega
    wtm_at "rd"
    refine ⟨_, _, _, _, _, rfl, by rw [upd_ne npl]; exact h1, cl_of T tn, na_spots T tn, rfl, ?_⟩
    wtm_at "rd"
    refine rd_ixP1 (pairs_tup t' hx) ?_
    refine ⟨d, _, rfl, DPut.k (k := .inl t.2) h5' hz, q _ ⟨?_, ?_, ⟨xs.set k x, ?_, ?_⟩, upd_same⟩ ⟨fun b o hb ho => ?_, fun b zs hb => ?_, fun b hb => .inl hb⟩⟩
    · rw [upd_ne npd, upd_ne npl]; exact h1
    · rw [upd_ne nxd, upd_ne nxl]; exact R.hx
    · rw [upd_ne nld]; exact upd_same
    · refine pairs_keep (H := H) (fun b zs hb => ?_) (Paired.set k h4 hx)
      rw [upd_ne (ne_of hb h5 (by simp))]; exact t' b zs hb
    · simp only [List.mem_cons, List.not_mem_nil, or_false, not_or] at hb
      rw [upd_ne hb.2.2.2, upd_ne hb.2.2.1]; exact ho
    · rw [upd_ne (ne_of hb h5 (by simp))]; exact t' b zs hb
theorem mo_of (T : Txt K mg L) {n : Nat} {m : Str} {f : Addr} {fd : FuncData} {ps : List Str} {sp : Sp} (h : FnOk P w K mg base (CXE P w) n f fd ps sp) (b : Binds K fd ps []) (m1 : Meth K L.Pile m f) (m2 : Meth K L.Turned m f) : ∀ C, okP L C → MOk P w K mg base (CXE P w) n C m ps [] sp := by
  rintro C (rfl | rfl)
  · exact ⟨_, _, T.cl_Pile, m1, h, b⟩
  · exact ⟨_, _, T.cl_Turned, m2, h, b⟩
theorem mo_pile_lay (T : Txt K mg L) : ∀ C, okP L C → MOk P w K mg base (CXE P w) 2 C "lay" ["self", "thing", "at"] [] (spLay L) := mo_of T (ok_Pile_lay T) T.b_Pile_lay T.me_Pile_lay T.me_Turned_lay
theorem use_raw {H : Hp} {p dx l d : Addr} {tn : Bool} {tot : Int} {us : List Th} {kvs : List (Key × V)} {m : Str} {G : Addr → Prop} (R : Raw L H p dx l d tn tot us kvs) (hm : PlM m) (q : G (clsOf L tn)) : ∃ a C dx fs, V.ref p = V.ref a ∧ H a = some (.ins C dx fs) ∧ okP L C ∧ fs.lookup m = none ∧ G C := by
  obtain ⟨fs, hp, h⟩ := R.at
  exact ⟨p, _, dx, fs, rfl, hp, clsOf_ok L tn, h m hm, q⟩
theorem rd_rix {H : Hp} {Q : VK} {p dx l d : Addr} {tn : Bool} {tot : Int} {us : List Th} {kvs : List (Key × V)} {u : Th} {i : Nat} (R : Raw L H p dx l d tn tot us kvs) (hi : us[i]? = some u) (q : ∀ x, kPair.R H x u → Q x H) : rIxL K (.ref l) (.int (i : Nat)) H Q := by
  obtain ⟨xs, h3, h4⟩ := R.hl
  exact rd_ixLP (SqL.of h3) h4 hi q
def spUpper (L : Lk) : Sp := fun vs H Q _ => ∃ p x k t tn dx l d tot us kvs, vs = [.ref p, x, .int (k : Nat)] ∧ Raw L H p dx l d tn tot us kvs ∧ kPair.R H x t ∧ k < us.length ∧
  (k = 0 → Q (.bl false) H) ∧ ∀ u, 0 < k → us[(k - 1) / 2]? = some u → Q (.bl (ahd tn t u)) H
theorem ok_Pile_is_ahead_of_upper (T : Txt K mg L) : FnOk P w K mg base (CXE P w) 4 L.a_Pile_is_ahead_of_upper L.d_Pile_is_ahead_of_upper ["self", "thing", "at"] (spUpper L) := by
  refine T.f_Pile_is_ahead_of_upper.ok0 sc_Pile_is_ahead_of_upper (fun vs H Q E h => ?_) (fun cdv A outer s H vs Q E hr h => ?_)
  · obtain ⟨p, x, k, t, tn, dx, l, d, tot, us, kvs, rfl, _⟩ := h
    rfl
  · obtain ⟨p, x, k, t, tn, dx, l, d, tot, us, kvs, rfl, R, hx, hk, q0, q1⟩ := h
    refine ⟨_, (pss_one (ps_ret (pe_and (pe_cmpR op_gt (pv 2) pe_int (nomark _)) (pe_one (pe_methD (pv 0) (mo_pile_ahead (K := K) T) (hr.mono (by decide)) .nil pass0X (pa_cons (pv 1) (pa_cons (pe_ix (ix_listK K) (pe_fldK K (pv 0) rfl) (pe_op op_fdivB (pe_op op_sub (pv 2) pe_int) pe_int) (fun _ _ => rfl)) pa_nil))))))), ?_⟩
    refine rd_start (σ := [some _, some _, some _]) rfl ?_
    wtm_at "rd"
    · have hk' : (0 : Nat) < k := by omega
      have gi : (k - 1) / 2 < us.length := by omega
      refine use_raw R ⟨by decide, by decide, by decide⟩ ?_
      wtm_at "rd"
      refine ⟨_, _, _, _, _, rfl, R.hp, cl_of T tn, na_held T tn, rfl, ?_⟩
      wtm_at "rd"
      rw [show ((k : Int) - 1) / 2 = (((k - 1) / 2 : Nat) : Int) by omega]
      refine rd_rix R (List.getElem?_eq_getElem gi) fun y hy => ?_
      wtm_at "rd"
      exact ⟨p, tn, x, y, _, _, rfl, rfl, hx, hy, q1 _ hk' (List.getElem?_eq_getElem gi)⟩
    · exact q0 (by omega)
theorem mo_pile_is_ahead_of_upper (T : Txt K mg L) : ∀ C, okP L C → MOk P w K mg base (CXE P w) 4 C "is_ahead_of_upper" ["self", "thing", "at"] [] (spUpper L) := mo_of T (ok_Pile_is_ahead_of_upper T) T.b_Pile_is_ahead_of_upper T.me_Pile_is_ahead_of_upper T.me_Turned_is_ahead_of_upper
theorem use_lay {H : Hp} {p dx l d : Addr} {x : V} {k : Nat} {t : Th} {tn : Bool} {tot : Int} {us : List Th} {kvs : List (Key × V)} {Q : VK} {E : XK} (R : Raw L H p dx l d tn tot us kvs) (hx : kPair.R H x t) (hk : k < us.length) (hz : us.length < 2000)
    (S : SpotsAt kvs (us.set k t) k) (nd : ((us.set k t).map (·.2)).Nodup) (ht : tot = ((us.set k t).map (·.1)).sum) (hF : Form (ahP tn) (us.set k t))
    (q : ∀ H', Rep L H' p tn [p, dx, l, d] (us.set k t) → Fr [p, dx, l, d] [p, dx, l, d] H H' → Q .non H') : spLay L (.ref p :: ([x, .int (k : Nat)] ++ [])) H Q E := by
  have ln := S.len
  rw [List.length_set] at ln
  have z2 : (2000 : Nat) < sizeLine := by decide
  refine ⟨p, x, k, t, tn, dx, l, d, tot, us, kvs, rfl, R, hk, by omega, hx, fun H' R' f' => q H' ⟨⟨dx, l, d, _, rfl, ?_, S.lay nd (List.getElem?_set_self hk)⟩, hF, nd⟩ f'⟩
  rw [← ht]; exact R'
def spRise (L : Lk) : Sp := fun vs H Q _ => ∃ p x k t tn dx l d tot us kvs, vs = [.ref p, x, .int (k : Nat)] ∧ Raw L H p dx l d tn tot us kvs ∧ kPair.R H x t ∧ k < us.length ∧ us.length < 2000 ∧
  Up (ahP tn) (us.set k t) k ∧ SpotsAt kvs (us.set k t) k ∧ ((us.set k t).map (·.2)).Nodup ∧ tot = ((us.set k t).map (·.1)).sum ∧
  ∀ H' ts', Rep L H' p tn [p, dx, l, d] ts' → Fr [p, dx, l, d] [p, dx, l, d] H H' → ts'.Perm (us.set k t) → (∀ i a b, (us.set k t)[i]? = some a → ts'[i]? = some b → a ≠ b → i ∈ path k) → Q .non H'
theorem ok_Pile_rise (T : Txt K mg L) : FnOk P w K mg base (CXE P w) 6 L.a_Pile_rise L.d_Pile_rise ["self", "thing", "at"] (spRise L) := by
  refine T.f_Pile_rise.ok0 sc_Pile_rise (fun vs H Q E h => ?_) (fun cdv A outer s H vs Q E hr h => ?_)
  · obtain ⟨p, x, k, t, tn, dx, l, d, tot, us, kvs, rfl, _⟩ := h
    rfl
  · obtain ⟨p, x, k0, t, tn, dx, l, d, tot, us0, kvs0, rfl, R0, hx0, hk0, hz, hU0, hS0, hN0, hT0, q⟩ := h
    refine ⟨_, (pss_cons (ps_while PassesOwn.never (pt_val (pe_methD (pv 0) (mo_pile_is_ahead_of_upper (K := K) T) (hr.mono (by decide)) .nil pass0X (pa_cons (pv 1) (pa_cons (pv 2) pa_nil)))) (pss_cons (ps_set (i := 3) sc_Pile_rise.nd rfl (Or.inl rfl) (pe_op op_fdivB (pe_op op_sub (pv 2) pe_int) pe_int))
      (pss_cons (ps_expr (pe_methD (pv 0) (mo_pile_lay (K := K) T) (hr.mono (by decide)) .nil pass0X (pa_cons (pe_ix (ix_listK K) (pe_fldK K (pv 0) rfl) (pv 3) (fun _ _ => rfl)) (pa_cons (pv 2) pa_nil))))
      (pss_one (ps_set (i := 2) sc_Pile_rise.nd rfl (Or.inl rfl) (pv 3))))))
      (pss_one (ps_expr (pe_methD (pv 0) (mo_pile_lay (K := K) T) (hr.mono (by decide)) .nil pass0X (pa_cons (pv 1) (pa_cons (pv 2) pa_nil)))))), ?_⟩
    refine rd_start (σ := [some _, some _, some _, none]) rfl ?_
    have O := ahP_ord tn
    wtm_at "rd"
    refine rd_while (fun m σ' H' => ∃ k us kvs o, m = k ∧ σ' = [some (.ref p), some x, some (.int (k : Nat)), o] ∧ Raw L H' p dx l d tn tot us kvs ∧ k < us.length ∧ us.length = us0.length ∧ Fr [p, dx, l, d] [p, dx, l, d] H H' ∧
      Up (ahP tn) (us.set k t) k ∧ SpotsAt kvs (us.set k t) k ∧ (us.set k t).Perm (us0.set k0 t) ∧ (∀ i ∈ path k, i ∈ path k0) ∧ ∀ i a b, (us0.set k0 t)[i]? = some a → (us.set k t)[i]? = some b → a ≠ b → i ∈ path k0)
      k0 ⟨k0, us0, kvs0, _, rfl, rfl, R0, hk0, rfl, .of_same (Same.refl _), hU0, hS0, .refl _, fun _ h => h, fun i a b ha hb hn => ?_⟩ ?_
    · rw [ha] at hb; cases hb; exact absurd rfl hn
    rintro m _ H1 ⟨k, us, kvs, o, rfl, rfl, R, hk, hlen, fr, hU, hS, hP, hpa, hch⟩
    have hx := pairs_tup fr.tup hx0
    have hN := nod_perm hP hN0
    have gk : (us.set m t)[m]? = some t := List.getElem?_set_self hk
    have hlv : (us.set m t).length = us.length := List.length_set
    wtm_at "rd"
    refine use_raw R ⟨by decide, by decide, by decide⟩ ?_
    wtm_at "rd"
    refine ⟨p, x, m, t, tn, dx, l, d, tot, us, kvs, rfl, R, hx, hk, fun e0 => ⟨_, rfl, iteF ?_⟩, fun u hm hu => ?_⟩
    · wtm_at "rd"
      refine use_raw R ⟨by decide, by decide, by decide⟩ ?_
      wtm_at "rd"
      refine use_lay R hx hk (by omega) hS hN (hT0.trans (sum_perm hP).symm) (hU.form fun h => absurd h (by omega)) fun H' R' f' => ?_
      exact q H' _ R' (fr.trans f') hP hch
    · have hu' : (us.set m t)[(m - 1) / 2]? = some u := by rw [List.getElem?_set_ne (by omega)]; exact hu
      cases e : ahd tn t u with
      | false =>
        refine ⟨_, rfl, iteF ?_⟩
        wtm_at "rd"
        refine use_raw R ⟨by decide, by decide, by decide⟩ ?_
        wtm_at "rd"
        refine use_lay R hx hk (by omega) hS hN (hT0.trans (sum_perm hP).symm) (hU.form fun h a b ha hb => ?_) fun H' R' f' => ?_
        · rw [gk] at ha; cases ha
          rw [hu'] at hb; cases hb
          intro z; unfold ahP at z; rw [e] at z; cases z
        · exact q H' _ R' (fr.trans f') hP hch
      | true =>
        refine ⟨_, rfl, iteT ⟨_, fun _ _ h => h, ?_⟩⟩
        wtm_at "rd"
        refine use_raw R ⟨by decide, by decide, by decide⟩ ?_
        wtm_at "rd"
        refine ⟨_, _, _, _, _, rfl, R.hp, cl_of T tn, na_held T tn, rfl, ?_⟩
        wtm_at "rd"
        rw [show ((m : Int) - 1) / 2 = (((m - 1) / 2 : Nat) : Int) by omega]
        refine rd_rix R hu fun y hy => ?_
        wtm_at "rd"
        have ln := hS.len
        have z2 : (2000 : Nat) < sizeLine := by decide
        refine ⟨p, y, m, u, tn, dx, l, d, tot, us, kvs, rfl, R, hk, by omega, hy, fun H' R' f' => ?_⟩
        wtm_at "rd"
        have hsw : (us.set m u).set ((m - 1) / 2) t = swap (us.set m t) m ((m - 1) / 2) t u := by
          unfold swap; rw [List.set_set]
        refine ⟨(m - 1) / 2, by omega, (m - 1) / 2, us.set m u, _, _, rfl, rfl, R', ?_, ?_, fr.trans f', ?_⟩
        · rw [List.length_set]; omega
        · rw [List.length_set]; exact hlen
        rw [hsw]
        refine ⟨hU.step O hm gk hu' e, hS.move hN gk hu' (by omega), (swap_perm gk hu' (by omega)).trans hP, fun i hi => hpa i (path_up hm hi), fun i a b ha hb hn => ?_⟩
        rw [swap_get gk hu'] at hb
        by_cases e1 : i = (m - 1) / 2
        · rw [e1]; exact hpa _ (path_up hm (path_self _))
        · rw [if_neg e1] at hb
          by_cases e2 : i = m
          · rw [e2]; exact hpa _ (path_self _)
          · rw [if_neg e2] at hb
            exact hch i a b ha hb hn
theorem mo_pile_rise (T : Txt K mg L) : ∀ C, okP L C → MOk P w K mg base (CXE P w) 6 C "rise" ["self", "thing", "at"] [] (spRise L) := mo_of T (ok_Pile_rise T) T.b_Pile_rise T.me_Pile_rise T.me_Turned_rise
theorem ok_Pile_put (T : Txt K mg L) : FnOk P w K mg base (CXE P w) 10 L.a_Pile_put L.d_Pile_put ["self", "thing"] (spPut L) := by
  refine T.f_Pile_put.okX sc_Pile_put (fun vs H Q E h => ?_) (fun cdv A outer s H vs Q E hr h => ?_)
  · obtain ⟨p, x, t, tn, F, ts, rfl, _⟩ := h
    rfl
  · obtain ⟨p, x, t, tn, F, ts, rfl, R, hx, hlen, qE, q⟩ := h
    refine ⟨_, (pss_cons (ps_if (pt_cmp (pc_din (hu_of hr) (pe_ix (ix_tupK K) (pv 1) pe_int (fun _ _ => rfl)) (pe_fldK K (pv 0) rfl))) (pss_one (ps_raise1 T.x_Twice T.m_Twice (by rfl) pe_str)) pss_nil)
      (pss_cons (ps_expr (pe_bmK K PySem.F.plainAttrs_list PySem.F.slot_list_append PySem.F.type_list_append mt_append (pe_fldK K (pv 0) rfl) (pa_cons (pv 1) pa_nil)))
      (pss_cons (ps_fldaugK K (pv 0) (pe_ix (ix_tupK K) (pv 1) pe_int (fun _ _ => rfl)) in_add)
      (pss_one (ps_expr (pe_methD (pv 0) (mo_pile_rise (K := K) T) (hr.mono (by decide)) .nil pass0X (pa_cons (pv 1) (pa_cons (pe_op op_sub (pe_callB (call_lenK K) (by rfl) T.z_len bt_len (pa_cons (pe_fldK K (pv 0) rfl) pa_nil)) pe_int) pa_nil)))))))), ?_⟩
    refine rd_start (σ := [some _, some _]) rfl ?_
    obtain ⟨dx, l, d, kvs, rfl, R1, S⟩ := R.ex
    wtm_at "rd"
    refine rd_ixP1 hx ?_
    wtm_at "rd"
    refine ⟨_, _, _, _, _, rfl, R1.hp, cl_of T tn, na_spots T tn, rfl, ?_⟩
    wtm_at "rd"
    refine ⟨d, _, rfl, DGet.k (k := .inl t.2) R1.hd, ?_⟩
    wtm_at "rd"
    by_cases hh : ∃ u ∈ ts, u.2 = t.2
    · obtain ⟨u, hu, eu⟩ := hh
      obtain ⟨i, _, hv⟩ := S.has hu
      rw [eu] at hv
      rw [hv]
      refine iteT ?_
      wtm_at "rd"
      exact qE ⟨u, hu, eu⟩ _ (Same.refl _)
    · have hf : ∀ u ∈ ts, u.2 ≠ t.2 := fun u hu e => hh ⟨u, hu, e⟩
      rw [S.hasNot hf]
      refine iteF ?_
      wtm_at "rd"
      obtain ⟨xs, h3, h4⟩ := R1.hl
      have lx := h4.len
      have z2 : (2000 : Nat) < sizeLine := by decide
      refine ⟨_, _, _, _, _, rfl, R1.hp, cl_of T tn, na_held T tn, rfl, ?_⟩
      wtm_at "rd"
      refine ⟨.inl ⟨rfl, _, SqL.of h3⟩, ?_⟩
      wtm_at "rd"
      refine ⟨l, xs, x, rfl, rfl, h3, by omega, ?_⟩
      obtain ⟨R2, f2⟩ := R1.setL (h4.app (.cons hx .nil))
      have hx2 := pairs_tup f2.tup hx
      generalize L2.upd H l (.lst (xs ++ [x])) = H2 at *
      wtm_at "rd"
      refine ⟨_, _, _, _, _, rfl, R2.hp, cl_of T tn, na_total T tn, rfl, ?_⟩
      wtm_at "rd"
      refine rd_ixP0 hx2 ?_
      wtm_at "rd"
      refine ⟨_, _, R2.hp, (by decide : (3 : Nat) < 1000), ?_⟩
      obtain ⟨R3, f3⟩ := R2.setP (tot' := (ts.map (·.1)).sum + t.1)
      have hx3 := pairs_tup f3.tup hx2
      generalize L2.upd H2 p _ = H3 at *
      wtm_at "rd"
      refine use_raw R3 ⟨by decide, by decide, by decide⟩ ?_
      wtm_at "rd"
      refine ⟨_, _, _, _, _, rfl, R3.hp, cl_of T tn, na_held T tn, rfl, ?_⟩
      wtm_at "rd"
      obtain ⟨ys, g3, g4⟩ := R3.hl
      have ly := g4.len
      rw [List.length_append, List.length_singleton] at ly
      refine rd_lenL (SqL.of g3) ?_
      wtm_at "rd"
      rw [show ((ys.length : Nat) : Int) - 1 = ((ts.length : Nat) : Int) by omega]
      have es : (ts ++ [t]).set ts.length t = ts ++ [t] := set_same (by simp)
      have nd : ((ts ++ [t]).map (·.2)).Nodup := by
        rw [List.map_append]
        exact nd_snoc R.nod fun z => by
          obtain ⟨u, hu, e⟩ := List.mem_map.mp z
          exact hf u hu e
      refine ⟨p, x, ts.length, t, tn, dx, l, d, _, ts ++ [t], kvs, rfl, R3, hx3, by simp, by simp; omega, ?_⟩
      rw [es]
      refine ⟨R.form.push t, S.push t, nd, by simp, fun H' ts' R' f' hp hc => ?_⟩
      exact q hf H' _ ts' R' (f2.trans (f3.trans f')) (hp.trans (List.perm_append_singleton _ _)) (chg_put hc)
theorem mo_pile_put (T : Txt K mg L) : ∀ C, okP L C → MOk P w K mg base (CXE P w) 10 C "put" ["self", "thing"] [] (spPut L) := mo_of T (ok_Pile_put T) T.b_Pile_put T.me_Pile_put T.me_Turned_put
/-! ### the pile's program: place_under, sink, fill, take -/
def UV (tn : Bool) (us : List Th) (k : Nat) (v : V) : Prop := (v = .non ∧ us.length ≤ 2 * k + 1) ∨ ∃ (c : Nat) (b : Th), v = .int (c : Nat) ∧ 0 < c ∧ (c - 1) / 2 = k ∧ us[c]? = some b ∧ ∀ j d, 0 < j → (j - 1) / 2 = k → us[j]? = some d → ¬ ahP tn d b
def spUnder (L : Lk) : Sp := fun vs H Q _ => ∃ p k tn dx l d tot us kvs, vs = [.ref p, .int (k : Nat)] ∧ Raw L H p dx l d tn tot us kvs ∧ us.length < 2000 ∧ k < us.length ∧ ∀ v, UV tn us k v → Q v H
theorem ok_Pile_place_under (T : Txt K mg L) : FnOk P w K mg base (CXE P w) 4 L.a_Pile_place_under L.d_Pile_place_under ["self", "at"] (spUnder L) := by
  refine T.f_Pile_place_under.ok0 sc_Pile_place_under (fun vs H Q E h => ?_) (fun cdv A outer s H vs Q E hr h => ?_)
  · obtain ⟨p, k, tn, dx, l, d, tot, us, kvs, rfl, _⟩ := h
    rfl
  · obtain ⟨p, k, tn, dx, l, d, tot, us, kvs, rfl, R, hz, hk, q⟩ := h
    refine ⟨_, (pss_cons (ps_set (i := 2) sc_Pile_place_under.nd rfl (Or.inl rfl) (pe_op op_add (pe_op op_mulB pe_int (pv 1)) pe_int))
      (pss_cons (ps_set (i := 3) sc_Pile_place_under.nd rfl (Or.inl rfl) (pe_op op_add (pv 2) pe_int))
      (pss_cons (ps_if (pt_cmpR op_ge (pv 2) (pe_callB (call_lenK K) (by rfl) T.z_len bt_len (pa_cons (pe_fldK K (pv 0) rfl) pa_nil)) (nomark _)) (pss_one (ps_ret pe_non)) pss_nil)
      (pss_cons (ps_if (PW.pt (pw_and (pt_cmpR op_lt (pv 3) (pe_callB (call_lenK K) (by rfl) T.z_len bt_len (pa_cons (pe_fldK K (pv 0) rfl) pa_nil)) (nomark _)) (pw_and1 (pt_val (pe_methD (pv 0) (mo_pile_ahead (K := K) T) (hr.mono (by decide)) .nil pass0X (pa_cons (pe_ix (ix_listK K) (pe_fldK K (pv 0) rfl) (pv 3) (fun _ _ => rfl)) (pa_cons (pe_ix (ix_listK K) (pe_fldK K (pv 0) rfl) (pv 2) (fun _ _ => rfl)) pa_nil))))))) (pss_one (ps_ret (pv 3))) pss_nil)
      (pss_one (ps_ret (pv 2))))))), ?_⟩
    refine rd_start (σ := [some _, some _, none, none]) rfl ?_
    obtain ⟨xs, h3, h4⟩ := R.hl
    have lx := h4.len
    have O := ahP_ord tn
    wtm_at "rd"
    refine ⟨_, _, _, _, _, rfl, R.hp, cl_of T tn, na_held T tn, rfl, ?_⟩
    wtm_at "rd"
    refine rd_lenL (SqL.of h3) ?_
    wtm_at "rd"
    · exact q _ (.inl ⟨rfl, by omega⟩)
    · rename_i hlt
      have gl : us[2 * k + 1]? = some _ := List.getElem?_eq_getElem (by omega)
      generalize us[2 * k + 1]'(by omega) = a at gl
      refine ⟨_, _, _, _, _, rfl, R.hp, cl_of T tn, na_held T tn, rfl, ?_⟩
      wtm_at "rd"
      refine rd_lenL (SqL.of h3) ?_
      wtm_at "rd"
      · have gr : us[2 * k + 2]? = some _ := List.getElem?_eq_getElem (by omega)
        generalize us[2 * k + 2]'(by omega) = b at gr
        have two : ∀ j c, 0 < j → (j - 1) / 2 = k → us[j]? = some c → c = a ∨ c = b := fun j c hj e hc => by
          have : j = 2 * k + 1 ∨ j = 2 * k + 2 := by omega
          rcases this with rfl | rfl
          · rw [gl] at hc; cases hc; exact .inl rfl
          · rw [gr] at hc; cases hc; exact .inr rfl
        refine use_raw R ⟨by decide, by decide, by decide⟩ ?_
        wtm_at "rd"
        refine ⟨_, _, _, _, _, rfl, R.hp, cl_of T tn, na_held T tn, rfl, ?_⟩
        wtm_at "rd"
        rw [show (2 * (k : Int) + 1 + 1) = ((2 * k + 2 : Nat) : Int) by omega, show (2 * (k : Int) + 1) = ((2 * k + 1 : Nat) : Int) by omega]
        refine rd_rix R gr fun y hy => ?_
        wtm_at "rd"
        refine ⟨_, _, _, _, _, rfl, R.hp, cl_of T tn, na_held T tn, rfl, ?_⟩
        wtm_at "rd"
        refine rd_rix R gl fun x hx => ?_
        wtm_at "rd"
        refine ⟨p, tn, y, x, b, a, rfl, rfl, hy, hx, ⟨_, rfl, ?_⟩⟩
        cases e : ahd tn b a with
        | true =>
          refine iteT ?_
          wtm_at "rd"
          refine q _ (.inr ⟨2 * k + 2, b, rfl, by omega, by omega, gr, fun j c hj ej hc => ?_⟩)
          rcases two j c hj ej hc with rfl | rfl
          · exact O.asym e
          · exact O.irr _
        | false =>
          refine iteF ?_
          wtm_at "rd"
          refine q _ (.inr ⟨2 * k + 1, a, rfl, by omega, by omega, gl, fun j c hj ej hc => ?_⟩)
          rcases two j c hj ej hc with rfl | rfl
          · exact O.irr _
          · unfold ahP; rw [e]; simp
      · rw [show (2 * (k : Int) + 1) = ((2 * k + 1 : Nat) : Int) by omega]
        refine q _ (.inr ⟨2 * k + 1, a, rfl, by omega, by omega, gl, fun j c hj ej hc => ?_⟩)
        have hj2 : j < us.length := (List.getElem?_eq_some_iff.mp hc).1
        have : j = 2 * k + 1 := by omega
        rw [this, gl] at hc; cases hc
        exact O.irr _
theorem mo_pile_place_under (T : Txt K mg L) : ∀ C, okP L C → MOk P w K mg base (CXE P w) 4 C "place_under" ["self", "at"] [] (spUnder L) := mo_of T (ok_Pile_place_under T) T.b_Pile_place_under T.me_Pile_place_under T.me_Turned_place_under
def spSink (L : Lk) : Sp := fun vs H Q _ => ∃ p x k t tn dx l d tot us kvs, vs = [.ref p, x, .int (k : Nat)] ∧ Raw L H p dx l d tn tot us kvs ∧ kPair.R H x t ∧ k < us.length ∧ us.length < 2000 ∧
  Down (ahP tn) (us.set k t) k ∧ SpotsAt kvs (us.set k t) k ∧ ((us.set k t).map (·.2)).Nodup ∧ tot = ((us.set k t).map (·.1)).sum ∧
  ∀ H' ts' e, Rep L H' p tn [p, dx, l, d] ts' → Fr [p, dx, l, d] [p, dx, l, d] H H' → ts'.Perm (us.set k t) → e < us.length → k ∈ path e → (∀ i a b, (us.set k t)[i]? = some a → ts'[i]? = some b → a ≠ b → i ∈ path e) → Q .non H'
theorem ok_Pile_sink (T : Txt K mg L) : FnOk P w K mg base (CXE P w) 6 L.a_Pile_sink L.d_Pile_sink ["self", "thing", "at"] (spSink L) := by
  refine T.f_Pile_sink.ok0 sc_Pile_sink (fun vs H Q E h => ?_) (fun cdv A outer s H vs Q E hr h => ?_)
  · obtain ⟨p, x, k, t, tn, dx, l, d, tot, us, kvs, rfl, _⟩ := h
    rfl
  · obtain ⟨p, x, k0, t, tn, dx, l, d, tot, us0, kvs0, rfl, R0, hx0, hk0, hz, hU0, hS0, hN0, hT0, q⟩ := h
    refine ⟨_, (pss_cons (ps_set (i := 3) sc_Pile_sink.nd rfl (Or.inl rfl) (pe_methD (pv 0) (mo_pile_place_under (K := K) T) (hr.mono (by decide)) .nil pass0X (pa_cons (pv 2) pa_nil)))
      (pss_cons (ps_while PassesOwn.never (PW.pt (pw_and (pt_cmpR op_notN (pv 3) pe_non (nomark _)) (pw_and1 (pt_val (pe_methD (pv 0) (mo_pile_ahead (K := K) T) (hr.mono (by decide)) .nil pass0X (pa_cons (pe_ix (ix_listK K) (pe_fldK K (pv 0) rfl) (pv 3) (fun _ _ => rfl)) (pa_cons (pv 1) pa_nil))))))) (pss_cons (ps_expr (pe_methD (pv 0) (mo_pile_lay (K := K) T) (hr.mono (by decide)) .nil pass0X (pa_cons (pe_ix (ix_listK K) (pe_fldK K (pv 0) rfl) (pv 3) (fun _ _ => rfl)) (pa_cons (pv 2) pa_nil))))
      (pss_cons (ps_set (i := 2) sc_Pile_sink.nd rfl (Or.inl rfl) (pv 3))
      (pss_one (ps_set (i := 3) sc_Pile_sink.nd rfl (Or.inl rfl) (pe_methD (pv 0) (mo_pile_place_under (K := K) T) (hr.mono (by decide)) .nil pass0X (pa_cons (pv 2) pa_nil)))))))
      (pss_one (ps_expr (pe_methD (pv 0) (mo_pile_lay (K := K) T) (hr.mono (by decide)) .nil pass0X (pa_cons (pv 1) (pa_cons (pv 2) pa_nil))))))), ?_⟩
    refine rd_start (σ := [some _, some _, some _, none]) rfl ?_
    have O := ahP_ord tn
    wtm_at "rd"
    refine use_raw R0 ⟨by decide, by decide, by decide⟩ ?_
    wtm_at "rd"
    refine ⟨p, k0, tn, dx, l, d, tot, us0, kvs0, rfl, R0, hz, hk0, fun v0 hv0 => ?_⟩
    wtm_at "rd"
    refine rd_while (fun m σ' H' => ∃ k us kvs v, m = us0.length - k ∧ σ' = [some (.ref p), some x, some (.int (k : Nat)), some v] ∧ Raw L H' p dx l d tn tot us kvs ∧ UV tn us k v ∧ k < us.length ∧ us.length = us0.length ∧ Fr [p, dx, l, d] [p, dx, l, d] H H' ∧
      Down (ahP tn) (us.set k t) k ∧ SpotsAt kvs (us.set k t) k ∧ (us.set k t).Perm (us0.set k0 t) ∧ k0 ∈ path k ∧ ∀ i a b, (us0.set k0 t)[i]? = some a → (us.set k t)[i]? = some b → a ≠ b → i ∈ path k)
      (us0.length - k0) ⟨k0, us0, kvs0, _, rfl, rfl, R0, hv0, hk0, rfl, .of_same (Same.refl _), hU0, hS0, .refl _, path_self _, fun i a b ha hb hn => ?_⟩ ?_
    · rw [ha] at hb; cases hb; exact absurd rfl hn
    rintro m _ H1 ⟨k, us, kvs, v, rfl, rfl, R, hv, hk, hlen, fr, hU, hS, hP, hpa, hch⟩
    have hx := pairs_tup fr.tup hx0
    have hN := nod_perm hP hN0
    have gk : (us.set k t)[k]? = some t := List.getElem?_set_self hk
    have hlv : (us.set k t).length = us.length := List.length_set
    wtm_at "rd"
    have fin : Form (ahP tn) (us.set k t) → spLay L (.ref p :: ([x, .int (k : Nat)] ++ [])) H1 (fun v H' => Q .non H') E0 := fun hF =>
      use_lay R hx hk (by omega) hS hN (hT0.trans (sum_perm hP).symm) hF fun H' R' f' => q H' _ k R' (fr.trans f') hP (by omega) hpa hch
    rcases hv with ⟨rfl, hend⟩ | ⟨c, b, rfl, hc0, hck, gb, best⟩
    · refine ⟨rfl, _, rfl, iteF (iteF ?_)⟩
      wtm_at "rd"
      refine use_raw R ⟨by decide, by decide, by decide⟩ ?_
      wtm_at "rd"
      refine fin (hU.form fun j hj e a b ha hb => ?_)
      have : j < (us.set k t).length := (List.getElem?_eq_some_iff.mp ha).1
      omega
    · have hb' : (us.set k t)[c]? = some b := by rw [List.getElem?_set_ne (by omega)]; exact gb
      have hcl : c < us.length := (List.getElem?_eq_some_iff.mp gb).1
      have best' : ∀ j d, 0 < j → (j - 1) / 2 = k → (us.set k t)[j]? = some d → ¬ ahP tn d b := fun j d hj e hd => by
        rw [List.getElem?_set_ne (by omega)] at hd
        exact best j d hj e hd
      refine ⟨rfl, _, rfl, iteT ?_⟩
      wtm_at "rd"
      refine use_raw R ⟨by decide, by decide, by decide⟩ ?_
      wtm_at "rd"
      refine ⟨_, _, _, _, _, rfl, R.hp, cl_of T tn, na_held T tn, rfl, ?_⟩
      wtm_at "rd"
      refine rd_rix R gb fun y hy => ?_
      wtm_at "rd"
      refine ⟨p, tn, y, x, b, t, rfl, rfl, hy, hx, ⟨_, rfl, ?_⟩⟩
      cases e : ahd tn b t with
      | false =>
        refine iteF ?_
        wtm_at "rd"
        refine use_raw R ⟨by decide, by decide, by decide⟩ ?_
        wtm_at "rd"
        refine fin (hU.form fun j hj ej a a2 ha ha2 => ?_)
        rw [ej, gk] at ha2; cases ha2
        refine O.ntr (best' j a hj ej ha) (fun z => ?_)
        unfold ahP at z; rw [e] at z; cases z
      | true =>
        refine iteT ⟨_, fun _ _ h => h, ?_⟩
        wtm_at "rd"
        refine use_raw R ⟨by decide, by decide, by decide⟩ ?_
        wtm_at "rd"
        refine ⟨_, _, _, _, _, rfl, R.hp, cl_of T tn, na_held T tn, rfl, ?_⟩
        wtm_at "rd"
        refine rd_rix R gb fun y2 hy2 => ?_
        wtm_at "rd"
        have ln := hS.len
        have z2 : (2000 : Nat) < sizeLine := by decide
        refine ⟨p, y2, k, b, tn, dx, l, d, tot, us, kvs, rfl, R, hk, by omega, hy2, fun H' R' f' => ?_⟩
        wtm_at "rd"
        refine use_raw R' ⟨by decide, by decide, by decide⟩ ?_
        wtm_at "rd"
        refine ⟨p, c, tn, dx, l, d, tot, _, _, rfl, R', by rw [List.length_set]; omega, by rw [List.length_set]; omega, fun v2 hv2 => ?_⟩
        wtm_at "rd"
        have hsw : (us.set k b).set c t = swap (us.set k t) k c t b := by
          unfold swap; rw [List.set_set]
        refine ⟨us0.length - c, by omega, c, us.set k b, _, _, rfl, rfl, R', hv2, ?_, ?_, fr.trans f', ?_⟩
        · rw [List.length_set]; omega
        · rw [List.length_set]; exact hlen
        rw [hsw]
        have up : ∀ i ∈ path k, i ∈ path c := fun i hi => path_up hc0 (by rw [hck]; exact hi)
        refine ⟨hU.step O hc0 hck gk hb' e best', hS.move hN gk hb' (by omega), (swap_perm gk hb' (by omega)).trans hP, up _ hpa, fun i a a2 ha ha2 hn => ?_⟩
        rw [swap_get gk hb'] at ha2
        by_cases e1 : i = c
        · rw [e1]; exact path_self _
        · rw [if_neg e1] at ha2
          by_cases e2 : i = k
          · rw [e2]; exact up _ (path_self _)
          · rw [if_neg e2] at ha2
            exact up _ (hch i a a2 ha ha2 hn)
theorem mo_pile_sink (T : Txt K mg L) : ∀ C, okP L C → MOk P w K mg base (CXE P w) 6 C "sink" ["self", "thing", "at"] [] (spSink L) := mo_of T (ok_Pile_sink T) T.b_Pile_sink T.me_Pile_sink T.me_Turned_sink
def spFill (L : Lk) : Sp := fun vs H Q _ => ∃ p x k t tn dx l d tot us kvs, vs = [.ref p, x, .int (k : Nat)] ∧ Raw L H p dx l d tn tot us kvs ∧ kPair.R H x t ∧ k < us.length ∧ us.length < 2000 ∧
  Hole (ahP tn) (us.set k t) k ∧ SpotsAt kvs (us.set k t) k ∧ ((us.set k t).map (·.2)).Nodup ∧ tot = ((us.set k t).map (·.1)).sum ∧
  ∀ H' ts' e, Rep L H' p tn [p, dx, l, d] ts' → Fr [p, dx, l, d] [p, dx, l, d] H H' → ts'.Perm (us.set k t) → e < us.length → k ∈ path e → (∀ i a b, (us.set k t)[i]? = some a → ts'[i]? = some b → a ≠ b → i ∈ path e) → Q .non H'
theorem ok_Pile_fill (T : Txt K mg L) : FnOk P w K mg base (CXE P w) 8 L.a_Pile_fill L.d_Pile_fill ["self", "thing", "at"] (spFill L) := by
  refine T.f_Pile_fill.ok0 sc_Pile_fill (fun vs H Q E h => ?_) (fun cdv A outer s H vs Q E hr h => ?_)
  · obtain ⟨p, x, k, t, tn, dx, l, d, tot, us, kvs, rfl, _⟩ := h
    rfl
  · obtain ⟨p, x, k, t, tn, dx, l, d, tot, us, kvs, rfl, R, hx, hk, hz, hU, hS, hN, hT, q⟩ := h
    refine ⟨_, (pss_one (ps_if (pt_val (pe_methD (pv 0) (mo_pile_is_ahead_of_upper (K := K) T) (hr.mono (by decide)) .nil pass0X (pa_cons (pv 1) (pa_cons (pv 2) pa_nil)))) (pss_one (ps_expr (pe_methD (pv 0) (mo_pile_rise (K := K) T) (hr.mono (by decide)) .nil pass0X (pa_cons (pv 1) (pa_cons (pv 2) pa_nil))))) (pss_one (ps_expr (pe_methD (pv 0) (mo_pile_sink (K := K) T) (hr.mono (by decide)) .nil pass0X (pa_cons (pv 1) (pa_cons (pv 2) pa_nil))))))), ?_⟩
    refine rd_start (σ := [some _, some _, some _]) rfl ?_
    have O := ahP_ord tn
    have gk : (us.set k t)[k]? = some t := List.getElem?_set_self hk
    wtm_at "rd"
    refine use_raw R ⟨by decide, by decide, by decide⟩ ?_
    wtm_at "rd"
    refine ⟨p, x, k, t, tn, dx, l, d, tot, us, kvs, rfl, R, hx, hk, fun e0 => ⟨_, rfl, iteF ?_⟩, fun u hm hu => ⟨_, rfl, ?_⟩⟩
    · wtm_at "rd"
      refine use_raw R ⟨by decide, by decide, by decide⟩ ?_
      wtm_at "rd"
      exact ⟨p, x, k, t, tn, dx, l, d, tot, us, kvs, rfl, R, hx, hk, hz, hU.down (fun h => absurd h (by omega)), hS, hN, hT, q⟩
    · have hu' : (us.set k t)[(k - 1) / 2]? = some u := by rw [List.getElem?_set_ne (by omega)]; exact hu
      cases e : ahd tn t u with
      | true =>
        refine iteT ?_
        wtm_at "rd"
        refine use_raw R ⟨by decide, by decide, by decide⟩ ?_
        wtm_at "rd"
        exact ⟨p, x, k, t, tn, dx, l, d, tot, us, kvs, rfl, R, hx, hk, hz, hU.up O gk hu' hm e, hS, hN, hT, fun H' ts' R' f' hp hc => q H' ts' k R' f' hp hk (path_self _) hc⟩
      | false =>
        refine iteF ?_
        wtm_at "rd"
        refine use_raw R ⟨by decide, by decide, by decide⟩ ?_
        wtm_at "rd"
        refine ⟨p, x, k, t, tn, dx, l, d, tot, us, kvs, rfl, R, hx, hk, hz, hU.down (fun _ a b ha hb => ?_), hS, hN, hT, q⟩
        rw [gk] at ha; cases ha
        rw [hu'] at hb; cases hb
        unfold ahP; rw [e]; simp
theorem mo_pile_fill (T : Txt K mg L) : ∀ C, okP L C → MOk P w K mg base (CXE P w) 8 C "fill" ["self", "thing", "at"] [] (spFill L) := mo_of T (ok_Pile_fill T) T.b_Pile_fill T.me_Pile_fill T.me_Turned_fill
theorem ok_Pile_take (T : Txt K mg L) : FnOk P w K mg base (CXE P w) 10 L.a_Pile_take L.d_Pile_take ["self", "coming"] (spTake L) := by
  refine T.f_Pile_take.okX sc_Pile_take (fun vs H Q E h => ?_) (fun cdv A outer s H vs Q E hr h => ?_)
  · obtain ⟨p, c, tn, F, ts, rfl, _⟩ := h
    rfl
  · obtain ⟨p, c, tn, F, ts, rfl, R, hlen, qE, q⟩ := h
    refine ⟨_, (pss_cons (ps_if (pt_cmp (pc_dnotin (hu_of hr) (pv 1) (pe_fldK K (pv 0) rfl))) (pss_one (ps_raise1 T.x_NoThing T.m_NoThing (by rfl) pe_str)) pss_nil)
      (pss_cons (ps_set (i := 2) sc_Pile_take.nd rfl (Or.inl rfl) (pe_dpop1 (pe_fldK K (pv 0) rfl) (pv 1) ⟨rfl, rfl, rfl, rfl⟩))
      (pss_cons (ps_set (i := 3) sc_Pile_take.nd rfl (Or.inl rfl) (pe_ix (ix_listK K) (pe_fldK K (pv 0) rfl) (pv 2) (fun _ _ => rfl)))
      (pss_cons (ps_fldaugK K (pv 0) (pe_ix (ix_tupK K) (pv 3) pe_int (fun _ _ => rfl)) in_sub)
      (pss_cons (ps_set (i := 4) sc_Pile_take.nd rfl (Or.inl rfl) (pe_bm0K K PySem.F.plainAttrs_list PySem.F.slot_list_pop PySem.F.type_list_pop mt_pop (pe_fldK K (pv 0) rfl)))
      (pss_join (ps_if (pt_cmpR op_lt (pv 2) (pe_callB (call_lenK K) (by rfl) T.z_len bt_len (pa_cons (pe_fldK K (pv 0) rfl) pa_nil)) (nomark _)) (pss_one (ps_expr (pe_methD (pv 0) (mo_pile_fill (K := K) T) (hr.mono (by decide)) .nil pass0X (pa_cons (pv 4) (pa_cons (pv 2) pa_nil))))) pss_nil)
      (pss_one (ps_ret (pv 3))))))))), ?_⟩
    refine rd_start (σ := [some _, some _, none, none, none]) rfl ?_
    obtain ⟨dx, l, d, kvs, rfl, R1, S⟩ := R.ex
    wtm_at "rd"
    refine ⟨_, _, _, _, _, rfl, R1.hp, cl_of T tn, na_spots T tn, rfl, ?_⟩
    wtm_at "rd"
    refine ⟨d, _, rfl, DGet.k (k := .inl c) R1.hd, ?_⟩
    wtm_at "rd"
    by_cases hh : ∀ u ∈ ts, u.2 ≠ c
    · rw [S.hasNot hh]
      wtm_at "rd"
      exact qE hh _ (Same.refl _)
    · have hh : ∃ t ∈ ts, t.2 = c := by
        by_cases z : ∃ t ∈ ts, t.2 = c
        · exact z
        · exact absurd (fun u hu e => z ⟨u, hu, e⟩) hh
      obtain ⟨t, ht, rfl⟩ := hh
      obtain ⟨k, hk, hv⟩ := S.has ht
      have hkl : k < ts.length := (List.getElem?_eq_some_iff.mp hk).1
      rw [hv]
      wtm_at "rd"
      refine iteF ?_
      wtm_at "rd"
      refine ⟨_, _, _, _, _, rfl, R1.hp, cl_of T tn, na_spots T tn, rfl, ?_⟩
      refine ⟨d, rfl, .inl ⟨_, .inl R1.hd⟩, ?_⟩
      wtm_at "rd"
      refine ⟨kvs, .inl t.2, _, R1.hd, rfl, hv, ?_⟩
      obtain ⟨R2, f2⟩ := R1.setD (kvs' := dropK kvs (.inl t.2))
      generalize L2.upd H d _ = H2 at *
      wtm_at "rd"
      refine ⟨_, _, _, _, _, rfl, R2.hp, cl_of T tn, na_held T tn, rfl, ?_⟩
      wtm_at "rd"
      refine rd_rix R2 hk fun x hx => ?_
      wtm_at "rd"
      refine ⟨_, _, _, _, _, rfl, R2.hp, cl_of T tn, na_total T tn, rfl, ?_⟩
      wtm_at "rd"
      refine rd_ixP0 hx ?_
      wtm_at "rd"
      refine ⟨_, _, R2.hp, (by decide : (3 : Nat) < 1000), ?_⟩
      obtain ⟨R3, f3⟩ := R2.setP (tot' := (ts.map (·.1)).sum - t.1)
      have hx3 := pairs_tup f3.tup hx
      generalize L2.upd H2 p _ = H3 at *
      wtm_at "rd"
      refine ⟨_, _, _, _, _, rfl, R3.hp, cl_of T tn, na_held T tn, rfl, ?_⟩
      obtain ⟨xs, h3, h4⟩ := R3.hl
      have lx := h4.len
      refine ⟨.inl ⟨rfl, _, SqL.of h3⟩, ?_⟩
      have gu : ts[ts.length - 1]? = some _ := List.getElem?_eq_getElem (by omega)
      generalize ts[ts.length - 1]'(by omega) = u at gu
      obtain ⟨y, gy, hy⟩ := h4.get' gu
      refine ⟨l, xs, y, rfl, rfl, h3, by rw [lx]; exact gy, ?_⟩
      obtain ⟨R4, f4⟩ := R3.setL (Paired.dropLast h4)
      have hx4 := pairs_tup f4.tup hx3
      have hy4 := pairs_tup f4.tup hy
      have F4 := f2.trans (f3.trans f4)
      generalize L2.upd H3 l _ = H4 at *
      have ld : ts.dropLast.length = ts.length - 1 := List.length_dropLast
      have gd : ∀ i, i < ts.length - 1 → ts.dropLast[i]? = ts[i]? := fun i hi => by rw [List.getElem?_dropLast, if_pos hi]
      wtm_at "rd"
      refine rd_join (fun σ' H' => ∃ ts' y', σ' = [some (.ref p), some (.int t.2), some (.int (k : Nat)), some x, some y'] ∧ Rep L H' p tn [p, dx, l, d] ts' ∧ Fr [p, dx, l, d] [p, dx, l, d] H H' ∧ ts.Perm (t :: ts') ∧ chg ts ts' ≤ bits ts.length ∧ kPair.R H' x t) ?_ ?_
      · wtm_at "rd"
        refine ⟨_, _, _, _, _, rfl, R4.hp, cl_of T tn, na_held T tn, rfl, ?_⟩
        wtm_at "rd"
        obtain ⟨ys, g3, g4⟩ := R4.hl
        have ly := g4.len
        refine rd_lenL (SqL.of g3) ?_
        wtm_at "rd"
        · have hkn : k < ts.length - 1 := by omega
          refine use_raw R4 ⟨by decide, by decide, by decide⟩ ?_
          wtm_at "rd"
          have pm := take_perm hk gu hkn
          have nd : ((ts.dropLast.set k u).map (·.2)).Nodup := by
            have := nod_perm pm.symm R.nod
            rw [List.map_cons] at this
            exact (List.nodup_cons.mp this).2
          refine ⟨p, y, k, u, tn, dx, l, d, _, ts.dropLast, _, rfl, R4, hy4, by omega, by omega, (R.form.pop).put (ahP_ord tn) k u, S.take R.nod hk gu hkn, nd, ?_, fun H' ts' e R' f' hp he hke hch => ?_⟩
          · rw [sum_perm pm, List.map_cons, List.sum_cons]; omega
          · wtm_at "rd"
            refine ⟨ts', y, rfl, R', F4.trans f', pm.trans (hp.symm.cons t), chg_takeP (e := e) (by omega) fun i a b ha hb hn => ?_, pairs_tup f'.tup hx4⟩
            by_cases ei : i = k
            · rw [ei]; exact hke
            · refine hch i a b ?_ hb hn
              have hi : i < ts'.length := (List.getElem?_eq_some_iff.mp hb).1
              have hl' := hp.length_eq
              rw [List.length_set] at hl'
              rw [List.getElem?_set_ne (Ne.symm ei), gd i (by omega)]
              exact ha
        · have hkn : k = ts.length - 1 := by omega
          have gt : ts[ts.length - 1]? = some t := by rw [← hkn]; exact hk
          have pm := last_perm gt
          have nd : (ts.dropLast.map (·.2)).Nodup := by
            have := nod_perm pm.symm R.nod
            rw [List.map_cons] at this
            exact (List.nodup_cons.mp this).2
          refine ⟨ts.dropLast, y, rfl, ⟨⟨dx, l, d, _, rfl, ?_, S.takeLast R.nod gt⟩, R.form.pop, nd⟩, F4, pm, chg_takeP (e := k) hkl fun i a b ha hb hn => ?_, hx4⟩
          · have : (ts.dropLast.map (·.1)).sum = (ts.map (·.1)).sum - t.1 := by rw [sum_perm pm, List.map_cons, List.sum_cons]; omega
            rw [this]; exact R4
          · have hi : i < ts.dropLast.length := (List.getElem?_eq_some_iff.mp hb).1
            rw [gd i (by omega), ha] at hb
            cases hb
            exact absurd rfl hn
      · rintro _ H' ⟨ts', y', rfl, R', f', pm, hc, hx'⟩
        wtm_at "rd"
        exact q t ht rfl H' _ ts' x R' f' pm hc hx'
theorem mo_pile_take (T : Txt K mg L) : ∀ C, okP L C → MOk P w K mg base (CXE P w) 10 C "take" ["self", "coming"] [] (spTake L) := mo_of T (ok_Pile_take T) T.b_Pile_take T.me_Pile_take T.me_Turned_take
theorem ok_Pile_many (T : Txt K mg L) : FnOk P w K mg base (CXE P w) 2 L.a_Pile_many L.d_Pile_many ["self"] (spMany L) := by
  refine T.f_Pile_many.ok0 sc_Pile_many (fun vs H Q E h => ?_) (fun cdv A outer s H vs Q E hr h => ?_)
  · obtain ⟨p, tn, F, ts, rfl, _⟩ := h
    rfl
  · obtain ⟨p, tn, F, ts, rfl, R, q⟩ := h
    refine ⟨_, (pss_one (ps_ret (pe_callB (call_lenK K) (by rfl) T.z_len bt_len (pa_cons (pe_fldK K (pv 0) rfl) pa_nil)))), ?_⟩
    refine rd_start (σ := [some _]) rfl ?_
    obtain ⟨dx, l, d, kvs, rfl, R1, S⟩ := R.ex
    obtain ⟨xs, h3, h4⟩ := R1.hl
    wtm_at "rd"
    refine ⟨_, _, _, _, _, rfl, R1.hp, cl_of T tn, na_held T tn, rfl, ?_⟩
    wtm_at "rd"
    refine rd_lenL (SqL.of h3) ?_
    rw [h4.len]
    exact q
theorem mo_pile_many (T : Txt K mg L) : ∀ C, okP L C → MOk P w K mg base (CXE P w) 2 C "many" ["self"] [] (spMany L) := mo_of T (ok_Pile_many T) T.b_Pile_many T.me_Pile_many T.me_Turned_many
theorem ok_Pile_top (T : Txt K mg L) : FnOk P w K mg base (CXE P w) 2 L.a_Pile_top L.d_Pile_top ["self"] (spTop L) := by
  refine T.f_Pile_top.okX sc_Pile_top (fun vs H Q E h => ?_) (fun cdv A outer s H vs Q E hr h => ?_)
  · obtain ⟨p, tn, F, ts, rfl, _⟩ := h
    rfl
  · obtain ⟨p, tn, F, ts, rfl, R, qE, q⟩ := h
    refine ⟨_, (pss_cons (ps_if (pt_cmpR op_eq (pe_callB (call_lenK K) (by rfl) T.z_len bt_len (pa_cons (pe_fldK K (pv 0) rfl) pa_nil)) pe_int (nomark _)) (pss_one (ps_raise1 T.x_Empty T.m_Empty (by rfl) pe_str)) pss_nil)
      (pss_one (ps_ret (pe_ix (ix_listK K) (pe_fldK K (pv 0) rfl) pe_int (fun _ _ => rfl))))), ?_⟩
    refine rd_start (σ := [some _]) rfl ?_
    obtain ⟨dx, l, d, kvs, rfl, R1, S⟩ := R.ex
    obtain ⟨xs, h3, h4⟩ := R1.hl
    have lx := h4.len
    wtm_at "rd"
    refine ⟨_, _, _, _, _, rfl, R1.hp, cl_of T tn, na_held T tn, rfl, ?_⟩
    wtm_at "rd"
    refine rd_lenL (SqL.of h3) ?_
    wtm_at "rd"
    · exact qE (List.eq_nil_of_length_eq_zero (by omega)) _ (Same.refl _)
    · refine ⟨_, _, _, _, _, rfl, R1.hp, cl_of T tn, na_held T tn, rfl, ?_⟩
      wtm_at "rd"
      have l0 : 0 < ts.length := by omega
      exact rd_ixLP (i := 0) (SqL.of h3) h4 (List.getElem?_eq_getElem l0) fun x hx => q x _ (List.getElem?_eq_getElem l0) hx
theorem mo_pile_top (T : Txt K mg L) : ∀ C, okP L C → MOk P w K mg base (CXE P w) 2 C "top" ["self"] [] (spTop L) := mo_of T (ok_Pile_top T) T.b_Pile_top T.me_Pile_top T.me_Turned_top
/-! ### the share's place -/
def spCheck (L : Lk) : Sp := fun vs H Q E => ∃ p w : Int, vs = [.int p, .int w] ∧ (Share p w → Q .non H) ∧ (¬ Share p w → E (.ref L.NoShare) none H)
def spPlace (L : Lk) : Sp := fun vs H Q E => ∃ m p w : Int, vs = [.int m, .int p, .int w] ∧ 0 ≤ m ∧ m < 2 ^ 250 ∧ w < 2 ^ 250 ∧ (Share p w → Q (.int (Mp.placeF m p w)) H) ∧ (¬ Share p w → E (.ref L.NoShare) none H)
theorem ok_check_share (T : Txt K mg L) : FnOk P w K mg base (CXE P w) 1 L.a_check_share L.d_check_share ["part", "whole"] (spCheck L) := by
  refine T.f_check_share.okX sc_check_share (fun vs H Q E h => ?_) (fun cdv A outer s H vs Q E hr h => ?_)
  · obtain ⟨p, w, rfl, _⟩ := h
    rfl
  · obtain ⟨p, w, rfl, h1, h2⟩ := h
    refine ⟨_, (pss_one (ps_if (PW.pt (pw_or (pt_cmpR op_lt (pv 1) pe_int (nomark _)) (pw_or (pt_cmpR op_lt (pv 0) pe_int (nomark _)) (pw_or1 (pt_cmpR op_gt (pv 0) (pv 1) (nomark _)))))) (pss_one (ps_raise1 T.x_NoShare T.m_NoShare (by rfl) pe_str)) pss_nil)), ?_⟩
    refine rd_start (σ := [some _, some _]) rfl ?_
    wtm_at "rd"
    · exact h2 (by unfold Share; omega)
    · exact h2 (by unfold Share; omega)
    · exact h2 (by unfold Share; omega)
    · exact h1 (by unfold Share; omega)
theorem use_check {p w : Int} {H : Hp} {Q : VK} {E : XK} (h1 : Share p w → Q .non H) (h2 : ¬ Share p w → E (.ref L.NoShare) none H) : spCheck L ([.int p, .int w] ++ []) H Q E := ⟨p, w, rfl, h1, h2⟩
theorem ok_place (T : Txt K mg L) : FnOk P w K mg base (CXE P w) 2 L.a_place L.d_place ["many", "part", "whole"] (spPlace L) := by
  refine T.f_place.okX sc_place (fun vs H Q E h => ?_) (fun cdv A outer s H vs Q E hr h => ?_)
  · obtain ⟨m, p, w, rfl, _⟩ := h
    rfl
  · obtain ⟨m, p, w, rfl, h0, h01, h02, h1, h2⟩ := h
    refine ⟨_, (pss_cons (ps_expr (pe_call (ok_check_share (K := K) T) (hr.mono (by decide)) (by rfl) T.m_check_share T.k_check_share T.b_check_share .nil passX (pa_cons (pv 1) (pa_cons (pv 2) pa_nil))))
      (pss_cons (ps_if (pt_cmpR op_eq (pv 0) pe_int (nomark _)) (pss_one (ps_ret pe_int)) pss_nil)
      (pss_cons (ps_set (i := 3) sc_place.nd rfl (Or.inl rfl) (pe_op op_fdivB (pe_op op_sub (pe_op op_add (pe_op op_mulB (pv 0) (pv 1)) (pv 2)) pe_int) (pv 2)))
      (pss_one (ps_ret (pe_callB (call_max2 rfl) (by rfl) T.z_max bt_max (pa_cons pe_int (pa_cons (pv 3) pa_nil)))))))), ?_⟩
    refine rd_start (σ := [some _, some _, some _, none]) rfl ?_
    wtm_at "rd"
    refine use_check (fun hs => ?_) h2
    have hs' := hs
    unfold Share at hs'
    wtm_at "rd"
    · subst m
      exact h1 hs
    · refine ⟨_, _, rfl, ?_⟩
      have e := h1 hs
      unfold Mp.placeF at e
      rw [if_neg (by omega)] at e
      exact e
theorem use_place {m p w : Int} {H : Hp} {Q : VK} {E : XK} (h0 : 0 ≤ m) (h1 : m < 2 ^ 250) (h2 : w < 2 ^ 250) (h3 : Share p w → Q (.int (Mp.placeF m p w)) H) (h4 : ¬ Share p w → E (.ref L.NoShare) none H) : spPlace L ([.int m, .int p, .int w] ++ []) H Q E := ⟨m, p, w, rfl, h0, h1, h2, h3, h4⟩
end
end K05

set_option Elab.async false
set_option linter.all false
set_option maxRecDepth 100000
set_option maxHeartbeats 4000000

namespace K05
open PySem L2 Hm
theorem RRep.same {L : Lk} {H H' : Hp} {r : Addr} {F : List Addr} {s : RSt} (R : RRep L H r F s) (e : Same H H') : RRep L H' r F s := R.keep (fun b o _ q => e b o q) e.tup
def spRInit (L : Lk) : Sp := fun vs H Q E => ∃ r dx p w, vs = [.ref r, .int p, .int w] ∧ H r = some (.ins L.Midrow dx []) ∧ H dx = some (.own r) ∧ w < 2 ^ 250 ∧
  (Share p w → ∀ H' F, RRep L H' r F ⟨p, w, 0, [], []⟩ → (∀ b o, b ≠ r → H b = some o → H' b = some o) → (∀ b ∈ F, b = r ∨ b = dx ∨ H b = none) → Q .non H') ∧
  (¬ Share p w → ∀ H', (∀ b o, b ≠ r → H b = some o → H' b = some o) → E (.ref L.NoShare) none H')
def spRMany (L : Lk) : Sp := fun vs H Q _ => ∃ r F s, vs = [.ref r] ∧ RRep L H r F s ∧ ∀ H' F', RRep L H' r F' s → Fr F F' H H' → Q (.int (s.all.length : Nat)) H'
def spRPut (L : Lk) : Sp := fun vs H Q _ => ∃ r n F s, vs = [.ref r, .int n] ∧ RRep L H r F s ∧ s.came < 900 ∧
  ∀ H' F' s', RRep L H' r F' s' → Fr F F' H H' → s'.part = s.part → s'.whole = s.whole → s'.came = s.came + 1 → s'.all.Perm ((n, ((s.came + 1 : Nat) : Int)) :: s.all) → chg s.lo s'.lo ≤ 4 * bits s.all.length → chg s.hi s'.hi ≤ 4 * bits s.all.length → Q (.int ((s.came + 1 : Nat) : Int)) H'
def spRTake (L : Lk) : Sp := fun vs H Q E => ∃ r c F s, vs = [.ref r, .int c] ∧ RRep L H r F s ∧ s.came < 900 ∧
  ((∀ u ∈ s.all, u.2 ≠ c) → ∀ H' F', RRep L H' r F' s → Fr F F' H H' → E (.ref L.NoThing) none H') ∧
  (∀ t ∈ s.all, t.2 = c → ∀ H' F' s', RRep L H' r F' s' → Fr F F' H H' → s'.part = s.part → s'.whole = s.whole → s'.came = s.came → s.all.Perm (t :: s'.all) → chg s.lo s'.lo ≤ 4 * bits s.all.length → chg s.hi s'.hi ≤ 4 * bits s.all.length → Q (.int t.1) H')
def spRNum (L : Lk) : Sp := fun vs H Q E => ∃ r c F s, vs = [.ref r, .int c] ∧ RRep L H r F s ∧
  ((∀ u ∈ s.all, u.2 ≠ c) → ∀ H' F', RRep L H' r F' s → Fr F F' H H' → E (.ref L.NoThing) none H') ∧
  (∀ t ∈ s.all, t.2 = c → ∀ H' F', RRep L H' r F' s → Fr F F' H H' → Q (.int t.1) H')
def spROldest (L : Lk) : Sp := fun vs H Q E => ∃ r F s, vs = [.ref r] ∧ RRep L H r F s ∧
  (s.all = [] → ∀ H' F', RRep L H' r F' s → Fr F F' H H' → E (.ref L.Empty) none H') ∧
  (∀ t ∈ s.all, (∀ u ∈ s.all, t.2 ≤ u.2) → ∀ H' F', RRep L H' r F' s → Fr F F' H H' → Q (.int t.2) H')
section
variable {P : Program} {w : World} {K : PySem.W.Frag} {mg : Str → Option Value} {base : Heap} {L : Lk}
theorem use_init {tn : Bool} {C : Addr} (eC : C = clsOf L tn) {H : Hp} {Q : Addr → Hp → Prop} {E : XK} (q : ∀ x F H2, Rep L H2 x tn F [] → Fr [] F H H2 → Q x H2) : ∀ x dx, H x = none → H dx = none → dx ≠ x →
    spPInit L (.ref x :: ([] ++ [])) (upd (upd H dx (.own x)) x (.ins C dx [])) (fun v H2 => v = .non ∧ Q x H2) E := by
  intro x dx hx hdx hne
  subst eC
  refine ⟨x, dx, tn, rfl, upd_same, by rw [upd_ne hne]; exact upd_same, fun H2 F R k g => ⟨rfl, q x F H2 R ?_⟩⟩
  have keep : ∀ b o, H b = some o → H2 b = some o := fun b o hb => k b o (ne_of_none hb hx) (by rw [upd_ne (ne_of_none hb hx), upd_ne (ne_of_none hb hdx)]; exact hb)
  refine ⟨fun b o _ hb => keep b o hb, fun b xs hb => keep b _ hb, fun b hb => .inr ?_⟩
  rcases g b hb with rfl | rfl | h
  · exact hx
  · exact hdx
  · by_cases e1 : b = x
    · rw [e1]; exact hx
    · by_cases e2 : b = dx
      · rw [e2]; exact hdx
      · rw [upd_ne e1, upd_ne e2] at h; exact h
theorem Rep.upd {H : Hp} {p b : Addr} {tn : Bool} {F : List Addr} {ts : List Th} {xs ys : List V} (R : Rep L H p tn F ts) (hb : b ∉ F) (h : H b = some (.lst xs)) : Rep L (upd H b (.lst ys)) p tn F ts :=
  R.keep (fun c o hc q => by rw [upd_ne (fun e => hb (by rw [← e]; exact hc))]; exact q) (fun c zs q => by rw [upd_ne (ne_of q h (by simp))]; exact q)
theorem use_meth {H : Hp} {p : Addr} {tn : Bool} {F : List Addr} {ts : List Th} {m : Str} {G : Addr → Prop} (R : Rep L H p tn F ts) (hm : PlM m) (q : ∀ C, G C) : ∃ a C dx fs, V.ref p = V.ref a ∧ H a = some (.ins C dx fs) ∧ okP L C ∧ fs.lookup m = none ∧ G C := by
  obtain ⟨dx, fs, hp, h⟩ := R.at
  exact ⟨p, _, dx, fs, rfl, hp, clsOf_ok L tn, h m hm, q _⟩
theorem use_told {H : Hp} {p : Addr} {tn : Bool} {F : List Addr} {ts : List Th} {Q : VK} {E : XK} (R : Rep L H p tn F ts) (q : ∀ H' l xs, Same H H' → H l = none → H' l = some (.lst xs) → Paired (kPair.R H') xs ts → Q (.ref l) H') : spTold L (.ref p :: ([] ++ [])) H Q E := ⟨p, tn, F, ts, rfl, R, q⟩
theorem use_many {H : Hp} {p : Addr} {tn : Bool} {F : List Addr} {ts : List Th} {Q : VK} {E : XK} (R : Rep L H p tn F ts) (q : Q (.int (ts.length : Nat)) H) : spMany L (.ref p :: ([] ++ [])) H Q E := ⟨p, tn, F, ts, rfl, R, q⟩
theorem use_weight {H : Hp} {p : Addr} {tn : Bool} {F : List Addr} {ts : List Th} {Q : VK} {E : XK} (R : Rep L H p tn F ts) (q : Q (.int (ts.map (·.1)).sum) H) : spWeight L (.ref p :: ([] ++ [])) H Q E := ⟨p, tn, F, ts, rfl, R, q⟩
/-! ### the row's program -/
theorem use_methP {H : Hp} {p : Addr} {tn : Bool} {F : List Addr} {ts : List Th} {m : Str} {G : Addr → Prop} (R : Rep L H p tn F ts) (hm : PlM m) (q : G (clsOf L tn)) : ∃ a C dx fs, V.ref p = V.ref a ∧ H a = some (.ins C dx fs) ∧ okP L C ∧ fs.lookup m = none ∧ G C := by
  obtain ⟨dx, fs, hp, h⟩ := R.at
  exact ⟨p, _, dx, fs, rfl, hp, clsOf_ok L tn, h m hm, q⟩
theorem use_topP {H : Hp} {p : Addr} {tn : Bool} {F : List Addr} {ts : List Th} {t : Th} {Q : VK} {E : XK} (R : Rep L H p tn F ts) (h0 : ts[0]? = some t) (q : ∀ x, kPair.R H x t → Q x H) : spTop L (.ref p :: ([] ++ [])) H Q E :=
  ⟨p, tn, F, ts, rfl, R, (fun z => by rw [z] at h0; cases h0), fun x u hu hx => by rw [h0] at hu; cases hu; exact q x hx⟩
def spMove (L : Lk) : Sp := fun vs H Q _ => ∃ p q tn un F1 F2 ts us t, vs = [.ref p, .ref q] ∧ Rep L H p tn F1 ts ∧ Rep L H q un F2 us ∧ (∀ b ∈ F2, b ∉ F1) ∧ ts[0]? = some t ∧ (∀ u ∈ us, u.2 ≠ t.2) ∧ ts.length < 1000 ∧ us.length < 1000 ∧
  ∀ H1 H2 F1' F2' ts' us', Rep L H1 p tn F1' ts' → Fr F1 F1' H H1 → Rep L H2 q un F2' us' → Fr F2 F2' H1 H2 → ts.Perm (t :: ts') → us'.Perm (t :: us) → chg ts ts' ≤ bits ts.length → chg us us' ≤ bits us.length → Q .non H2
theorem ok_move_top (T : Txt K mg L) : FnOk P w K mg base (CXE P w) 12 L.a_move_top L.d_move_top ["source", "target"] (spMove L) := by
  refine T.f_move_top.ok0 sc_move_top (fun vs H Q E h => ?_) (fun cdv A outer s H vs Q E hr h => ?_)
  · obtain ⟨p, q, tn, un, F1, F2, ts, us, t, rfl, _⟩ := h
    rfl
  · obtain ⟨p, q, tn, un, F1, F2, ts, us, t, rfl, R1, R2, dj, h0, hf, l1, l2, k⟩ := h
    refine ⟨_, (pss_one (ps_expr (pe_methD (pv 1) (mo_pile_put (K := K) T) (hr.mono (by decide)) .nil pass0X (pa_cons (pe_methD (pv 0) (mo_pile_take (K := K) T) (hr.mono (by decide)) .nil pass0X (pa_cons (pe_ix (ix_tupK K) (pe_methD0 (pv 0) (mo_pile_top (K := K) T) (hr.mono (by decide)) .nil pass0X) pe_int (fun _ _ => rfl)) pa_nil)) pa_nil)))), ?_⟩
    refine rd_start (σ := [some _, some _]) rfl ?_
    wtm_at "rd"
    refine use_methP R2 ⟨by decide, by decide, by decide⟩ ?_
    wtm_at "rd"
    refine use_methP R1 ⟨by decide, by decide, by decide⟩ ?_
    wtm_at "rd"
    refine use_methP R1 ⟨by decide, by decide, by decide⟩ ?_
    wtm_at "rd"
    refine use_topP R1 h0 fun x hx => ?_
    wtm_at "rd"
    refine rd_ixP1 hx ?_
    wtm_at "rd"
    refine ⟨p, t.2, tn, F1, ts, rfl, R1, l1, fun z => absurd rfl (z t (List.mem_of_getElem? h0)), fun t' ht' e => ?_⟩
    obtain rfl := nodup_inj R1.nod ht' (List.mem_of_getElem? h0) e
    intro H1 F1' ts' y R1' f1 pm hc hy
    have R2' := R2.keep (fun b o hb h => f1.keep b o (dj b hb) h) f1.tup
    wtm_at "rd"
    refine ⟨q, y, t', un, F2, us, rfl, R2', hy, l2, fun ⟨u, hu, e⟩ => absurd e (hf u hu), fun _ H2 F2' us' R2'' f2 pm2 hc2 => ?_⟩
    exact k H1 H2 F1' F2' ts' us' R1' f1 R2'' f2 pm pm2 hc hc2
theorem use_move {H : Hp} {p q : Addr} {tn un : Bool} {F1 F2 : List Addr} {ts us : List Th} {t : Th} {Q : VK} {E : XK} (R1 : Rep L H p tn F1 ts) (R2 : Rep L H q un F2 us) (dj : ∀ b ∈ F2, b ∉ F1) (h0 : ts[0]? = some t) (hf : ∀ u ∈ us, u.2 ≠ t.2) (l1 : ts.length < 1000) (l2 : us.length < 1000)
    (k : ∀ H1 H2 F1' F2' ts' us', Rep L H1 p tn F1' ts' → Fr F1 F1' H H1 → Rep L H2 q un F2' us' → Fr F2 F2' H1 H2 → ts.Perm (t :: ts') → us'.Perm (t :: us) → chg ts ts' ≤ bits ts.length → chg us us' ≤ bits us.length → Q .non H2) : spMove L ([.ref p, .ref q] ++ []) H Q E :=
  ⟨p, q, tn, un, F1, F2, ts, us, t, rfl, R1, R2, dj, h0, hf, l1, l2, k⟩
theorem mo_row {T : Txt K mg L} {n : Nat} {m : Str} {f : Addr} {fd : FuncData} {ps : List Str} {sp : Sp} (h : FnOk P w K mg base (CXE P w) n f fd ps sp) (b : Binds K fd ps []) (m1 : Meth K L.Midrow m f) : ∀ C, okR L C → MOk P w K mg base (CXE P w) n C m ps [] sp := by
  rintro C rfl
  exact ⟨_, _, T.cl_Midrow, m1, h, b⟩
theorem use_rraw {H : Hp} {r dx pl ph nd : Addr} {Fl Fh : List Addr} {s : RSt} {kvs : List (Key × V)} {m : Str} {G : Addr → Prop} (R : RRaw L H r dx pl ph nd Fl Fh s kvs) (hm : RwM m) (q : G L.Midrow) : ∃ a C dx fs, V.ref r = V.ref a ∧ H a = some (.ins C dx fs) ∧ okR L C ∧ fs.lookup m = none ∧ G C := by
  obtain ⟨fs, hp, h⟩ := R.at
  exact ⟨r, _, dx, fs, rfl, hp, rfl, h m hm, q⟩
theorem ok_Midrow___init__ (T : Txt K mg L) : FnOk P w K mg base (CXE P w) 12 L.a_Midrow___init__ L.d_Midrow___init__ ["self", "part", "whole"] (spRInit L) := by
  refine T.f_Midrow___init__.okX sc_Midrow___init__ (fun vs H Q E h => ?_) (fun cdv A outer s H vs Q E hr h => ?_)
  · obtain ⟨r, dx, p, w, rfl, _⟩ := h
    rfl
  · obtain ⟨r, dx, p, wh, rfl, hp, hx, hw, q, qE⟩ := h
    refine ⟨_, (pss_cons (ps_expr (pe_call (ok_check_share (K := K) T) (hr.mono (by decide)) (by rfl) T.m_check_share T.k_check_share T.b_check_share .nil passX (pa_cons (pv 1) (pa_cons (pv 2) pa_nil))))
      (pss_cons (ps_fldK K (pv 0) (pv 1) rfl)
      (pss_cons (ps_fldK K (pv 0) (pv 2) rfl)
      (pss_cons (ps_fldK K (pv 0) (pe_make0 T.mk_Turned (ok_Pile___init__ (K := K) T) (hr.mono (by decide)) (by rfl) T.m_Turned T.b_Pile___init__ .nil pass0X) rfl)
      (pss_cons (ps_fldK K (pv 0) (pe_make0 T.mk_Pile (ok_Pile___init__ (K := K) T) (hr.mono (by decide)) (by rfl) T.m_Pile T.b_Pile___init__ .nil pass0X) rfl)
      (pss_cons (ps_fldK K (pv 0) pe_dnewK rfl)
      (pss_one (ps_fldK K (pv 0) pe_int rfl)))))))), ?_⟩
    refine rd_start (σ := [some _, some _, some _]) rfl ?_
    wtm_at "rd"
    refine use_check (fun hs => ?_) fun hs => qE hs H fun b o _ h => h
    wtm_at "rd"
    refine ⟨_, _, _, _, rfl, hp, T.cl_Midrow, T.na_Midrow_part, by decide, ?_⟩
    wtm_at "rd"
    refine ⟨_, _, _, _, rfl, upd_same, T.cl_Midrow, T.na_Midrow_whole, (by decide : (1 : Nat) < 1000), ?_⟩
    have nxr : dx ≠ r := ne_of hx hp (by simp)
    have k1 : ∀ b o, b ≠ r → H b = some o → upd (upd H r (.ins L.Midrow dx (putF "part" (.int p) []))) r (.ins L.Midrow dx (putF "whole" (.int wh) (putF "part" (.int p) []))) b = some o := fun b o hb h => by rw [upd_ne hb, upd_ne hb]; exact h
    have n1 : ∀ b, upd (upd H r (.ins L.Midrow dx (putF "part" (.int p) []))) r (.ins L.Midrow dx (putF "whole" (.int wh) (putF "part" (.int p) []))) b = none → H b = none := fun b hb => by
      cases e : H b with
      | none => rfl
      | some o =>
        by_cases eb : b = r
        · subst eb; rw [upd_same] at hb; cases hb
        · rw [k1 b o eb e] at hb; cases hb
    have h1 : upd (upd H r (.ins L.Midrow dx (putF "part" (.int p) []))) r (.ins L.Midrow dx (putF "whole" (.int wh) (putF "part" (.int p) []))) r = some (.ins L.Midrow dx [("part", .int p), ("whole", .int wh)]) := by rw [upd_same]; rfl
    have x1 := k1 dx _ nxr hx
    generalize upd (upd H r (.ins L.Midrow dx (putF "part" (.int p) []))) r (.ins L.Midrow dx (putF "whole" (.int wh) (putF "part" (.int p) []))) = H1 at *
    wtm_at "rd"
    refine use_init (tn := true) rfl fun pl Fl H2 RL f2 => ?_
    have h2 := f2.keep _ _ (by simp) h1
    have x2 := f2.keep _ _ (by simp) x1
    have dl := RL.dom
    have nl : ∀ b ∈ Fl, H1 b = none := fun b hb => (f2.grow b hb).resolve_left (by simp)
    wtm_at "rd"
    refine ⟨_, _, _, _, rfl, h2, T.cl_Midrow, T.na_Midrow_low, (by decide : (2 : Nat) < 1000), ?_⟩
    have rl : r ∉ Fl := fun z => by have := nl r z; rw [h1] at this; cases this
    have RL3 := RL.keep (H' := upd H2 r (.ins L.Midrow dx (putF "low" (.ref pl) [("part", .int p), ("whole", .int wh)]))) (fun b o hb h => by rw [upd_ne (fun e => rl (by rw [← e]; exact hb))]; exact h) (fun b xs h => by rw [upd_ne (ne_of h h2 (by simp))]; exact h)
    have h3 : upd H2 r (.ins L.Midrow dx (putF "low" (.ref pl) [("part", .int p), ("whole", .int wh)])) r = some (.ins L.Midrow dx [("part", .int p), ("whole", .int wh), ("low", .ref pl)]) := by rw [upd_same]; rfl
    have k3 : ∀ b o, b ≠ r → H1 b = some o → upd H2 r (.ins L.Midrow dx (putF "low" (.ref pl) [("part", .int p), ("whole", .int wh)])) b = some o := fun b o hb h => by rw [upd_ne hb]; exact f2.keep b o (by simp) h
    have x3 := k3 dx _ nxr x1
    generalize upd H2 r (.ins L.Midrow dx (putF "low" (.ref pl) [("part", .int p), ("whole", .int wh)])) = H3 at *
    wtm_at "rd"
    refine use_init (tn := false) rfl fun ph Fh H4 RH f4 => ?_
    have h4 := f4.keep _ _ (by simp) h3
    have x4 := f4.keep _ _ (by simp) x3
    have nh : ∀ b ∈ Fh, H3 b = none := fun b hb => (f4.grow b hb).resolve_left (by simp)
    have RL4 := RL3.keep (H' := H4) (fun b o _ h => f4.keep b o (by simp) h) f4.tup
    wtm_at "rd"
    refine ⟨_, _, _, _, rfl, h4, T.cl_Midrow, T.na_Midrow_high, (by decide : (3 : Nat) < 1000), ?_⟩
    have rh : r ∉ Fh := fun z => by have := nh r z; rw [h3] at this; cases this
    have t5 : ∀ b xs, H4 b = some (.tup xs) → upd H4 r (.ins L.Midrow dx (putF "high" (.ref ph) [("part", .int p), ("whole", .int wh), ("low", .ref pl)])) b = some (.tup xs) := fun b xs h => by rw [upd_ne (ne_of h h4 (by simp))]; exact h
    have RL5 := RL4.keep (H' := upd H4 r (.ins L.Midrow dx (putF "high" (.ref ph) [("part", .int p), ("whole", .int wh), ("low", .ref pl)]))) (fun b o hb h => by rw [upd_ne (fun e => rl (by rw [← e]; exact hb))]; exact h) t5
    have RH5 := RH.keep (H' := upd H4 r (.ins L.Midrow dx (putF "high" (.ref ph) [("part", .int p), ("whole", .int wh), ("low", .ref pl)]))) (fun b o hb h => by rw [upd_ne (fun e => rh (by rw [← e]; exact hb))]; exact h) t5
    have h5 : upd H4 r (.ins L.Midrow dx (putF "high" (.ref ph) [("part", .int p), ("whole", .int wh), ("low", .ref pl)])) r = some (.ins L.Midrow dx [("part", .int p), ("whole", .int wh), ("low", .ref pl), ("high", .ref ph)]) := by rw [upd_same]; rfl
    have k5 : ∀ b o, b ≠ r → H3 b = some o → upd H4 r (.ins L.Midrow dx (putF "high" (.ref ph) [("part", .int p), ("whole", .int wh), ("low", .ref pl)])) b = some o := fun b o hb h => by rw [upd_ne hb]; exact f4.keep b o (by simp) h
    have x5 := k5 dx _ nxr x3
    generalize upd H4 r (.ins L.Midrow dx (putF "high" (.ref ph) [("part", .int p), ("whole", .int wh), ("low", .ref pl)])) = H5 at *
    wtm_at "rd"
    intro nd hnd
    have nrn : r ≠ nd := ne_of_none h5 hnd
    have nxn : dx ≠ nd := ne_of_none x5 hnd
    have s6 := same_new hnd (.dK [])
    wtm_at "rd"
    refine ⟨_, _, _, _, rfl, s6 _ _ h5, T.cl_Midrow, T.na_Midrow_numbers, (by decide : (4 : Nat) < 1000), ?_⟩
    have h6 := s6 _ _ h5
    have x6 := s6 _ _ x5
    have RL6 := RL5.same s6
    have RH6 := RH5.same s6
    have d6 : upd H5 nd (.dK []) nd = some (.dK []) := upd_same
    have bl : ∀ b ∈ Fl, H5 b ≠ none := RL5.dom
    have bh : ∀ b ∈ Fh, H5 b ≠ none := RH5.dom
    wtm_at "rd"
    refine ⟨_, _, _, _, rfl, upd_same, T.cl_Midrow, T.na_Midrow_last_coming, (by decide : (5 : Nat) < 1000), ?_⟩
    rw [upd_upd]
    generalize upd H5 nd (.dK []) = H6 at *
    have tt : ∀ o, ∀ b xs, H6 b = some (.tup xs) → upd H6 r o b = some (.tup xs) := fun o b xs h => by rw [upd_ne (ne_of h h6 (by simp))]; exact h
    refine q hs _ (RF r dx nd Fl Fh) ⟨dx, pl, ph, nd, Fl, Fh, [], rfl, ⟨by rw [upd_same]; rfl, by rw [upd_ne nxr]; exact x6, by rw [upd_ne (Ne.symm nrn)]; exact d6, RL6.keep (fun b o hb h => ?_) (tt _), RH6.keep (fun b o hb h => ?_) (tt _), fun b hb hb2 => ?_, fun b hb => ⟨?_, ?_, ?_⟩, fun b hb => ⟨?_, ?_, ?_⟩⟩, ⟨.nil, fun _ h => (by cases h), fun _ h => (by cases h)⟩, ⟨⟨hs, fun _ h => (by cases h), .nil, fun _ _ _ _ h => (by cases h), fun _ _ _ _ h => (by cases h), fun _ h => (by cases h), hw⟩, ?_⟩⟩ (fun b o hb h => ?_) fun b hb => ?_
    · rw [upd_ne (fun e => rl (by rw [← e]; exact hb))]; exact h
    · rw [upd_ne (fun e => rh (by rw [← e]; exact hb))]; exact h
    · exact RL3.dom b hb (nh b hb2)
    · rintro rfl; exact rl hb
    · rintro rfl; have := nl _ hb; rw [x1] at this; cases this
    · rintro rfl; exact bl _ hb hnd
    · rintro rfl; exact rh hb
    · rintro rfl; have := nh _ hb; rw [x3] at this; cases this
    · rintro rfl; exact bh _ hb hnd
    · show ((0 : Nat) : Int) = Mp.placeF ((0 : Nat) : Int) p wh
      unfold Mp.placeF; rfl
    · rw [upd_ne hb]; exact s6 _ _ (k5 b o hb (k3 b o hb (k1 b o hb h)))
    · have key : ∀ b, H3 b = none → b ≠ r → H b = none := fun b h3' hr => by
        cases e : H b with
        | none => rfl
        | some o => rw [k3 b o hr (k1 b o hr e)] at h3'; cases h3'
      simp only [List.mem_cons, List.mem_append] at hb
      rcases hb with z | z | z | z | z
      · exact .inl z
      · exact .inr (.inl z)
      · refine .inr (.inr ?_)
        cases e : H b with
        | none => rfl
        | some o =>
          by_cases hr : b = r
          · exact absurd (hr.symm.trans z) nrn
          · rw [z] at e hr; rw [k5 nd o hr (k3 nd o hr (k1 nd o hr e))] at hnd; cases hnd
      · exact .inr (.inr (n1 b (nl b z)))
      · exact .inr (.inr (key b (nh b z) (fun e => rh (by rw [← e]; exact z))))
end
end K05

set_option Elab.async false
set_option linter.all false
set_option maxRecDepth 100000
set_option maxHeartbeats 4000000

namespace K05
open PySem L2 Hm
section
variable {P : Program} {w : World} {K : PySem.W.Frag} {mg : Str → Option Value} {base : Heap} {L : Lk}
theorem ok_Midrow_many (T : Txt K mg L) : FnOk P w K mg base (CXE P w) 4 L.a_Midrow_many L.d_Midrow_many ["self"] (spRMany L) := by
  refine T.f_Midrow_many.ok0 sc_Midrow_many (fun vs H Q E h => ?_) (fun cdv A outer s H vs Q E hr h => ?_)
  · obtain ⟨r, F, s, rfl, _⟩ := h
    rfl
  · obtain ⟨r, F, st, rfl, R, q⟩ := h
    refine ⟨_, (pss_one (ps_ret (pe_callB call_lenD (by rfl) T.z_len bt_len (pa_cons (pe_fldK K (pv 0) rfl) pa_nil)))), ?_⟩
    refine rd_start (σ := [some _]) rfl ?_
    have R0 := R
    obtain ⟨dx, pl, ph, nd, Fl, Fh, kvs, rfl, R1, N, O⟩ := R
    wtm_at "rd"
    refine ⟨_, _, _, _, _, rfl, R1.hr, T.cl_Midrow, T.na_Midrow_numbers, rfl, ?_⟩
    wtm_at "rd"
    refine ⟨nd, kvs, rfl, R1.hn, ?_⟩
    rw [N.len O.nod]
    exact q H _ R0 (.of_same (Same.refl _))
theorem mo_row_many (T : Txt K mg L) : ∀ C, okR L C → MOk P w K mg base (CXE P w) 4 C "many" ["self"] [] (spRMany L) := mo_row (T := T) (ok_Midrow_many T) T.b_Midrow_many T.me_Midrow_many
theorem ok_Midrow_number_of (T : Txt K mg L) : FnOk P w K mg base (CXE P w) 4 L.a_Midrow_number_of L.d_Midrow_number_of ["self", "coming"] (spRNum L) := by
  refine T.f_Midrow_number_of.okX sc_Midrow_number_of (fun vs H Q E h => ?_) (fun cdv A outer s H vs Q E hr h => ?_)
  · obtain ⟨r, c, F, s, rfl, _⟩ := h
    rfl
  · obtain ⟨r, c, F, st, rfl, R, qE, q⟩ := h
    refine ⟨_, (pss_cons (ps_if (pt_cmp (pc_dnotin (hu_of hr) (pv 1) (pe_fldK K (pv 0) rfl))) (pss_one (ps_raise1 T.x_NoThing T.m_NoThing (by rfl) pe_str)) pss_nil)
      (pss_one (ps_ret (pe_dget (hu_of hr) (pe_fldK K (pv 0) rfl) (pv 1) (fun _ _ => rfl))))), ?_⟩
    refine rd_start (σ := [some _, some _]) rfl ?_
    have R0 := R
    obtain ⟨dx, pl, ph, nd, Fl, Fh, kvs, rfl, R1, N, O⟩ := R
    wtm_at "rd"
    refine ⟨_, _, _, _, _, rfl, R1.hr, T.cl_Midrow, T.na_Midrow_numbers, rfl, ?_⟩
    wtm_at "rd"
    refine ⟨nd, _, rfl, DGet.k (k := .inl c) R1.hn, ?_⟩
    wtm_at "rd"
    by_cases hh : ∃ t ∈ st.all, t.2 = c
    · obtain ⟨t, ht, rfl⟩ := hh
      have hv := N.val t ht
      rw [hv]
      refine iteF ?_
      wtm_at "rd"
      refine ⟨_, _, _, _, _, rfl, R1.hr, T.cl_Midrow, T.na_Midrow_numbers, rfl, ?_⟩
      wtm_at "rd"
      refine ⟨nd, .int t.1, rfl, ?_, q t ht rfl H _ R0 (.of_same (Same.refl _))⟩
      rw [← hv]
      exact DGet.k (k := .inl t.2) R1.hn
    · have hf : ∀ u ∈ st.all, u.2 ≠ c := fun u hu e => hh ⟨u, hu, e⟩
      rw [N.none hf]
      refine iteT ?_
      wtm_at "rd"
      exact qE hf H _ R0 (.of_same (Same.refl _))
theorem mo_row_number_of (T : Txt K mg L) : ∀ C, okR L C → MOk P w K mg base (CXE P w) 4 C "number_of" ["self", "coming"] [] (spRNum L) := mo_row (T := T) (ok_Midrow_number_of T) T.b_Midrow_number_of T.me_Midrow_number_of
def spPileOf (L : Lk) : Sp := fun vs H Q _ => ∃ r x t dx pl ph nd Fl Fh s kvs, vs = [.ref r, x] ∧ RRaw L H r dx pl ph nd Fl Fh s kvs ∧ kPair.R H x t ∧ ∀ b, PilO s.lo t b → Q (.ref (if b = true then ph else pl)) H
theorem ok_Midrow_pile_of (T : Txt K mg L) : FnOk P w K mg base (CXE P w) 12 L.a_Midrow_pile_of L.d_Midrow_pile_of ["self", "thing"] (spPileOf L) := by
  refine T.f_Midrow_pile_of.ok0 sc_Midrow_pile_of (fun vs H Q E h => ?_) (fun cdv A outer s H vs Q E hr h => ?_)
  · obtain ⟨r, x, t, dx, pl, ph, nd, Fl, Fh, s, kvs, rfl, _⟩ := h
    rfl
  · obtain ⟨r, x, t, dx, pl, ph, nd, Fl, Fh, st, kvs, rfl, R, hx, q⟩ := h
    refine ⟨_, (pss_cons (ps_if (pt_cmpR op_eq (pe_methD0 (pe_fldK K (pv 0) rfl) (mo_pile_many (K := K) T) (hr.mono (by decide)) .nil pass0X) pe_int (nomark _)) (pss_one (ps_ret (pe_fldK K (pv 0) rfl))) pss_nil)
      (pss_cons (ps_if (pt_val (pe_methD (pe_fldK K (pv 0) rfl) (mo_pile_ahead (K := K) T) (hr.mono (by decide)) .nil pass0X (pa_cons (pe_methD0 (pe_fldK K (pv 0) rfl) (mo_pile_top (K := K) T) (hr.mono (by decide)) .nil pass0X) (pa_cons (pv 1) pa_nil)))) (pss_one (ps_ret (pe_fldK K (pv 0) rfl))) pss_nil)
      (pss_one (ps_ret (pe_fldK K (pv 0) rfl))))), ?_⟩
    refine rd_start (σ := [some _, some _]) rfl ?_
    wtm_at "rd"
    refine ⟨_, _, _, _, _, rfl, R.hr, T.cl_Midrow, T.na_Midrow_low, rfl, ?_⟩
    refine use_methP R.lo ⟨by decide, by decide, by decide⟩ ?_
    wtm_at "rd"
    refine use_many R.lo ?_
    wtm_at "rd"
    · refine ⟨_, _, _, _, _, rfl, R.hr, T.cl_Midrow, T.na_Midrow_low, rfl, ?_⟩
      exact q false ⟨fun h => (by cases h), fun _ => .inl (List.eq_nil_of_length_eq_zero (by omega))⟩
    · have l0 : 0 < st.lo.length := by omega
      have h0 : st.lo[0]? = some _ := List.getElem?_eq_getElem l0
      refine ⟨_, _, _, _, _, rfl, R.hr, T.cl_Midrow, T.na_Midrow_high, rfl, ?_⟩
      refine use_methP R.hi ⟨by decide, by decide, by decide⟩ ?_
      wtm_at "rd"
      refine ⟨_, _, _, _, _, rfl, R.hr, T.cl_Midrow, T.na_Midrow_low, rfl, ?_⟩
      refine use_methP R.lo ⟨by decide, by decide, by decide⟩ ?_
      wtm_at "rd"
      refine use_topP R.lo h0 fun y hy => ?_
      wtm_at "rd"
      refine ⟨ph, false, y, x, _, t, rfl, rfl, hy, hx, ⟨_, rfl, ?_⟩⟩
      cases e : ahd false st.lo[0] t with
      | true =>
        refine iteT ?_
        wtm_at "rd"
        refine ⟨_, _, _, _, _, rfl, R.hr, T.cl_Midrow, T.na_Midrow_high, rfl, ?_⟩
        exact q true ⟨fun _ => ⟨_, h0, e⟩, fun h => (by cases h)⟩
      | false =>
        refine iteF ?_
        wtm_at "rd"
        refine ⟨_, _, _, _, _, rfl, R.hr, T.cl_Midrow, T.na_Midrow_low, rfl, ?_⟩
        exact q false ⟨fun h => (by cases h), fun _ => .inr ⟨_, h0, e⟩⟩
theorem mo_row_pile_of (T : Txt K mg L) : ∀ C, okR L C → MOk P w K mg base (CXE P w) 12 C "pile_of" ["self", "thing"] [] (spPileOf L) := mo_row (T := T) (ok_Midrow_pile_of T) T.b_Midrow_pile_of T.me_Midrow_pile_of
def spSettle (L : Lk) : Sp := fun vs H Q _ => ∃ r dx pl ph nd Fl Fh s kvs, vs = [.ref r] ∧ RRaw L H r dx pl ph nd Fl Fh s kvs ∧ NumOk kvs s.all ∧ ROk0 s ∧ s.all.length < 1000 ∧
  ∀ H' Fl' Fh' lo' hi', RRaw L H' r dx pl ph nd Fl' Fh' { s with lo := lo', hi := hi' } kvs → Fr (RF r dx nd Fl Fh) (RF r dx nd Fl' Fh') H H' → (lo' ++ hi').Perm s.all → ROk { s with lo := lo', hi := hi' } → Few s.lo s.hi lo' hi' → Q .non H'
/-- on the way of a settling, d moves behind its begin -/
structure Stl (L : Lk) (H0 H : Hp) (r dx pl ph nd : Addr) (Fl0 Fh0 Fl Fh : List Addr) (st : RSt) (lo hi : List Th) (kvs : List (Key × V)) (d : Nat) : Prop where
  raw : RRaw L H r dx pl ph nd Fl Fh { st with lo := lo, hi := hi } kvs
  fr : Fr (RF r dx nd Fl0 Fh0) (RF r dx nd Fl Fh) H0 H
  ok : ROk0 { st with lo := lo, hi := hi }
  pm : (lo ++ hi).Perm st.all
  no : d = 0 → lo = st.lo ∧ hi = st.hi
  one : d = 1 → chg st.lo lo ≤ bits st.lo.length ∧ chg st.hi hi ≤ bits st.hi.length
theorem ok_Midrow_settle (T : Txt K mg L) : FnOk P w K mg base (CXE P w) 14 L.a_Midrow_settle L.d_Midrow_settle ["self"] (spSettle L) := by
  refine T.f_Midrow_settle.ok0 sc_Midrow_settle (fun vs H Q E h => ?_) (fun cdv A outer s H vs Q E hr h => ?_)
  · obtain ⟨r, dx, pl, ph, nd, Fl, Fh, s, kvs, rfl, _⟩ := h
    rfl
  · obtain ⟨r, dx, pl, ph, nd, Fl0, Fh0, st, kvs, rfl, R0, N, O0, hz, q⟩ := h
    refine ⟨_, (pss_cons (ps_set (i := 1) sc_Midrow_settle.nd rfl (Or.inl rfl) (pe_call (ok_place (K := K) T) (hr.mono (by decide)) (by rfl) T.m_place T.k_place T.b_place .nil pass0X (pa_cons (pe_callB call_lenD (by rfl) T.z_len bt_len (pa_cons (pe_fldK K (pv 0) rfl) pa_nil)) (pa_cons (pe_fldK K (pv 0) rfl) (pa_cons (pe_fldK K (pv 0) rfl) pa_nil)))))
      (pss_cons (ps_while PassesOwn.never (pt_cmpR op_gt (pe_methD0 (pe_fldK K (pv 0) rfl) (mo_pile_many (K := K) T) (hr.mono (by decide)) .nil pass0X) (pv 1) (nomark _)) (pss_one (ps_expr (pe_call (ok_move_top (K := K) T) (hr.mono (by decide)) (by rfl) T.m_move_top T.k_move_top T.b_move_top .nil pass0X (pa_cons (pe_fldK K (pv 0) rfl) (pa_cons (pe_fldK K (pv 0) rfl) pa_nil))))))
      (pss_one (ps_while PassesOwn.never (pt_cmpR op_lt (pe_methD0 (pe_fldK K (pv 0) rfl) (mo_pile_many (K := K) T) (hr.mono (by decide)) .nil pass0X) (pv 1) (nomark _)) (pss_one (ps_expr (pe_call (ok_move_top (K := K) T) (hr.mono (by decide)) (by rfl) T.m_move_top T.k_move_top T.b_move_top .nil pass0X (pa_cons (pe_fldK K (pv 0) rfl) (pa_cons (pe_fldK K (pv 0) rfl) pa_nil))))))))), ?_⟩
    refine rd_start (σ := [some _, none]) rfl ?_
    have z2 : (2 : Int) ^ 250 > 1000 := by decide
    have wb := O0.wb
    wtm_at "rd"
    refine ⟨_, _, _, _, _, rfl, R0.hr, T.cl_Midrow, T.na_Midrow_numbers, rfl, ?_⟩
    wtm_at "rd"
    refine ⟨nd, kvs, rfl, R0.hn, ?_⟩
    rw [N.len O0.nod]
    wtm_at "rd"
    refine ⟨_, _, _, _, _, rfl, R0.hr, T.cl_Midrow, T.na_Midrow_part, rfl, ?_⟩
    wtm_at "rd"
    refine ⟨_, _, _, _, _, rfl, R0.hr, T.cl_Midrow, T.na_Midrow_whole, rfl, ?_⟩
    wtm_at "rd"
    refine use_place (by omega) (by omega) wb (fun hs => ?_) fun hs => absurd O0.sh hs
    have pin := place_in (m := st.all.length) O0.sh
    obtain ⟨k, ek⟩ : ∃ k : Nat, Mp.placeF (st.all.length : Nat) st.part st.whole = (k : Nat) := ⟨(Mp.placeF (st.all.length : Nat) st.part st.whole).toNat, by omega⟩
    rw [ek]
    rw [ek] at pin
    have hall : st.all.length = st.lo.length + st.hi.length := List.length_append
    wtm_at "rd"
    refine rd_while (fun m σ' H' => ∃ d lo hi Fl Fh, m = lo.length ∧ σ' = [some (.ref r), some (.int (k : Nat))] ∧ Stl L H H' r dx pl ph nd Fl0 Fh0 Fl Fh st lo hi kvs d ∧ lo.length + d = st.lo.length ∧ (d = 0 ∨ k ≤ lo.length))
      st.lo.length ⟨0, st.lo, st.hi, Fl0, Fh0, rfl, rfl, ⟨R0, .of_same (Same.refl _), O0, .refl _, fun _ => ⟨rfl, rfl⟩, fun h => by cases h⟩, rfl, .inl rfl⟩ ?_
    rintro m _ H1 ⟨d, lo, hi, Fl, Fh, rfl, rfl, Z, hd, hk⟩
    have hl := Z.pm.length_eq
    rw [List.length_append] at hl
    wtm_at "rd"
    refine ⟨_, _, _, _, _, rfl, Z.raw.hr, T.cl_Midrow, T.na_Midrow_low, rfl, ?_⟩
    refine use_methP Z.raw.lo ⟨by decide, by decide, by decide⟩ ?_
    wtm_at "rd"
    refine use_many Z.raw.lo ?_
    dsimp only
    wtm_at "rd"
    · rename_i hlt
      refine ⟨_, fun _ _ h => h, ?_⟩
      wtm_at "rd"
      refine ⟨_, _, _, _, _, rfl, Z.raw.hr, T.cl_Midrow, T.na_Midrow_low, rfl, ?_⟩
      wtm_at "rd"
      refine ⟨_, _, _, _, _, rfl, Z.raw.hr, T.cl_Midrow, T.na_Midrow_high, rfl, ?_⟩
      wtm_at "rd"
      have l0 : 0 < lo.length := by omega
      have h0 : lo[0]? = some _ := List.getElem?_eq_getElem l0
      generalize lo[0] = t at h0
      refine use_move Z.raw.lo Z.raw.hi (fun b hb hb2 => Z.raw.dj b hb2 hb) h0 (fun u hu e => Z.ok.ndj t (List.mem_of_getElem? h0) u hu e.symm) (by show lo.length < 1000; omega) (by show hi.length < 1000; omega) fun H2 H3 Fl' Fh' lo' hi' Pl fl Ph fh p1 p2 c1 c2 => ?_
      obtain ⟨R2, f2⟩ := Z.raw.low Pl fl
      obtain ⟨R3, f3⟩ := R2.high Ph fh
      obtain ⟨O3, pm3⟩ := Z.ok.down h0 p1 p2 Pl.form Ph.form
      have hl1 : lo.length = lo'.length + 1 := by have := p1.length_eq; simpa using this
      wtm_at "rd"
      refine ⟨lo'.length, by omega, d + 1, lo', hi', Fl', Fh', rfl, rfl, ⟨R3, Z.fr.trans (f2.trans f3), O3, pm3.trans Z.pm, fun h => by omega, fun h => ?_⟩, by omega, .inr (by omega)⟩
      obtain ⟨e1, e2⟩ := Z.no (by omega)
      subst e1 e2
      exact ⟨c1, c2⟩
    · rename_i hge
      refine rd_while (fun m σ' H' => ∃ d lo hi Fl Fh, m = hi.length ∧ σ' = [some (.ref r), some (.int (k : Nat))] ∧ Stl L H H' r dx pl ph nd Fl0 Fh0 Fl Fh st lo hi kvs d ∧ lo.length ≤ k ∧ ((lo.length = k ∧ lo.length + d = st.lo.length) ∨ lo.length = st.lo.length + d))
        hi.length ⟨d, lo, hi, Fl, Fh, rfl, rfl, Z, by omega, ?_⟩ ?_
      · rcases hk with h | h
        · exact .inr (by omega)
        · exact .inl ⟨by omega, hd⟩
      clear Z hd hk hl hge
      rintro m _ H1 ⟨d, lo, hi, Fl, Fh, rfl, rfl, Z, hk, hd⟩
      have hl := Z.pm.length_eq
      rw [List.length_append] at hl
      wtm_at "rd"
      refine ⟨_, _, _, _, _, rfl, Z.raw.hr, T.cl_Midrow, T.na_Midrow_low, rfl, ?_⟩
      refine use_methP Z.raw.lo ⟨by decide, by decide, by decide⟩ ?_
      wtm_at "rd"
      refine use_many Z.raw.lo ?_
      dsimp only
      wtm_at "rd"
      · rename_i hlt
        refine ⟨_, fun _ _ h => h, ?_⟩
        wtm_at "rd"
        refine ⟨_, _, _, _, _, rfl, Z.raw.hr, T.cl_Midrow, T.na_Midrow_high, rfl, ?_⟩
        wtm_at "rd"
        refine ⟨_, _, _, _, _, rfl, Z.raw.hr, T.cl_Midrow, T.na_Midrow_low, rfl, ?_⟩
        wtm_at "rd"
        have l0 : 0 < hi.length := by omega
        have h0 : hi[0]? = some _ := List.getElem?_eq_getElem l0
        generalize hi[0] = t at h0
        refine use_move Z.raw.hi Z.raw.lo (fun b hb hb2 => Z.raw.dj b hb hb2) h0 (fun u hu e => Z.ok.ndj u hu t (List.mem_of_getElem? h0) e) (by show hi.length < 1000; omega) (by show lo.length < 1000; omega) fun H2 H3 Fh' Fl' hi' lo' Ph fh Pl fl p1 p2 c1 c2 => ?_
        obtain ⟨R2, f2⟩ := Z.raw.high Ph fh
        obtain ⟨R3, f3⟩ := R2.low Pl fl
        obtain ⟨O3, pm3⟩ := Z.ok.up h0 p1 p2 Pl.form Ph.form
        have hl1 : hi.length = hi'.length + 1 := by have := p1.length_eq; simpa using this
        have hl2 : lo'.length = lo.length + 1 := by have := p2.length_eq; simpa using this
        wtm_at "rd"
        refine ⟨hi'.length, by omega, d + 1, lo', hi', Fl', Fh', rfl, rfl, ⟨R3, Z.fr.trans (f2.trans f3), O3, pm3.trans Z.pm, fun h => by omega, fun h => ?_⟩, by omega, .inr (by omega)⟩
        obtain ⟨e1, e2⟩ := Z.no (by omega)
        subst e1 e2
        exact ⟨c2, c1⟩
      · rename_i hge
        have hk' : lo.length = k := by omega
        refine q H1 Fl Fh lo hi Z.raw Z.fr Z.pm ⟨Z.ok, ?_⟩ ⟨fun h => Z.no (by omega), fun h => Z.one (by omega)⟩
        show (lo.length : Int) = Mp.placeF ((lo ++ hi).length : Nat) st.part st.whole
        rw [Z.pm.length_eq, ek, hk']
theorem mo_row_settle (T : Txt K mg L) : ∀ C, okR L C → MOk P w K mg base (CXE P w) 14 C "settle" ["self"] [] (spSettle L) := mo_row (T := T) (ok_Midrow_settle T) T.b_Midrow_settle T.me_Midrow_settle
theorem ok_Midrow_put (T : Txt K mg L) : FnOk P w K mg base (CXE P w) 18 L.a_Midrow_put L.d_Midrow_put ["self", "number"] (spRPut L) := by
  refine T.f_Midrow_put.ok0 sc_Midrow_put (fun vs H Q E h => ?_) (fun cdv A outer s H vs Q E hr h => ?_)
  · obtain ⟨r, n, F, s, rfl, _⟩ := h
    rfl
  · obtain ⟨r, n, F, st, rfl, R, hc, q⟩ := h
    refine ⟨_, (pss_cons (ps_set (i := 2) sc_Midrow_put.nd rfl (Or.inl rfl) (pe_op op_add (pe_fldK K (pv 0) rfl) pe_int))
      (pss_cons (ps_set (i := 3) sc_Midrow_put.nd rfl (Or.inl rfl) (pe_tup (pa_cons (pv 1) (pa_cons (pv 2) pa_nil))))
      (pss_cons (ps_expr (pe_methD (pe_methD (pv 0) (mo_row_pile_of (K := K) T) (hr.mono (by decide)) .nil pass0X (pa_cons (pv 3) pa_nil)) (mo_pile_put (K := K) T) (hr.mono (by decide)) .nil pass0X (pa_cons (pv 3) pa_nil)))
      (pss_cons (ps_dput (hu_of hr) (pe_fldK K (pv 0) rfl) (pv 2) (pv 1) rfl)
      (pss_cons (ps_fldK K (pv 0) (pv 2) rfl)
      (pss_cons (ps_expr (pe_methD0 (pv 0) (mo_row_settle (K := K) T) (hr.mono (by decide)) .nil pass0X))
      (pss_one (ps_ret (pv 2))))))))), ?_⟩
    refine rd_start (σ := [some _, some _, none, none]) rfl ?_
    obtain ⟨dx, pl, ph, nd, Fl, Fh, kvs, rfl, R0, N, O⟩ := R
    have ln := O.len
    have lk := N.len O.nod
    have hall : st.all.length = st.lo.length + st.hi.length := List.length_append
    have z2 : (2000 : Nat) < sizeLine := by decide
    have hfr : ∀ u ∈ st.all, u.2 ≠ ((st.came + 1 : Nat) : Int) := fun u hu e => by have := O.rng u hu; omega
    wtm_at "rd"
    refine ⟨_, _, _, _, _, rfl, R0.hr, T.cl_Midrow, T.na_Midrow_last_coming, rfl, ?_⟩
    wtm_at "rd"
    rw [show ((st.came : Nat) : Int) + 1 = ((st.came + 1 : Nat) : Int) by omega]
    refine ⟨(by decide : (2 : Nat) ≤ sizeLine), fun x hx => ?_⟩
    have s1 := same_new hx (.tup [.int n, .int ((st.came + 1 : Nat) : Int)])
    have f1 : Fr (RF r dx nd Fl Fh) (RF r dx nd Fl Fh) H _ := .of_same s1
    have R1 := R0.keep (fun b o _ h => s1 b o h) s1.tup
    have hT : kPair.R (upd H x (.tup [.int n, .int ((st.came + 1 : Nat) : Int)])) (.ref x) (n, ((st.came + 1 : Nat) : Int)) := kPair_of upd_same
    generalize upd H x (.tup [.int n, .int ((st.came + 1 : Nat) : Int)]) = H1 at *
    wtm_at "rd"
    refine use_rraw R1 ⟨by decide, by decide, by decide, by decide, by decide, by decide⟩ ?_
    wtm_at "rd"
    refine ⟨r, .ref x, _, dx, pl, ph, nd, Fl, Fh, st, kvs, rfl, R1, hT, fun b hb => ?_⟩
    cases b
    · dsimp only
      refine use_methP R1.lo ⟨by decide, by decide, by decide⟩ ?_
      wtm_at "rd"
      refine ⟨pl, .ref x, _, true, Fl, st.lo, rfl, R1.lo, hT, by omega, fun ⟨u, hu, e⟩ => absurd e (hfr u (List.mem_append_left _ hu)), fun _ H2 Fl2 lo2 P2 g2 pmP c1 => ?_⟩
      obtain ⟨R2, f2⟩ := R1.low P2 g2
      obtain ⟨O4, pm2⟩ := O.putLo rfl hb pmP P2.form
      have l2 : lo2.length = st.lo.length + 1 := by have := pmP.length_eq; simpa using this
      wtm_at "rd"
      refine ⟨_, _, _, _, _, rfl, R2.hr, T.cl_Midrow, T.na_Midrow_numbers, rfl, ?_⟩
      wtm_at "rd"
      refine ⟨nd, _, rfl, DPut.k (k := .inl ((st.came + 1 : Nat) : Int)) R2.hn (by omega), ?_⟩
      obtain ⟨R3, f3⟩ := R2.setN (kvs' := putK kvs (.inl ((st.came + 1 : Nat) : Int)) (.int n))
      generalize upd H2 nd _ = H3 at *
      wtm_at "rd"
      refine ⟨_, _, _, _, rfl, R3.hr, T.cl_Midrow, T.na_Midrow_last_coming, (by decide : (6 : Nat) < 1000), ?_⟩
      obtain ⟨R4, f4⟩ := R3.setR (s' := { st with came := st.came + 1, lo := lo2 }) rfl rfl
      have e4 : putF "last_coming" (.int ((st.came + 1 : Nat) : Int)) (rfs { st with lo := lo2 } pl ph nd) = rfs { st with came := st.came + 1, lo := lo2 } pl ph nd := rfl
      rw [e4]
      generalize upd H3 r _ = H4 at *
      wtm_at "rd"
      refine use_rraw R4 ⟨by decide, by decide, by decide, by decide, by decide, by decide⟩ ?_
      wtm_at "rd"
      have N4 := (N.put (n := n) hfr).perm pm2
      have l4 := pm2.length_eq
      rw [List.length_cons] at l4
      refine ⟨r, dx, pl, ph, nd, _, _, _, _, rfl, R4, N4, O4, by show (lo2 ++ st.hi).length < 1000; omega, fun H' Fl' Fh' lo' hi' R' f' pm' O' few => ?_⟩
      wtm_at "rd"
      have pm3 := pm'.trans pm2
      have l5 := pm3.length_eq
      rw [List.length_cons] at l5
      have c5 := O'.cnt
      rw [show (RSt.all { st with came := st.came + 1, lo := lo', hi := hi' }).length = st.all.length + 1 from l5] at c5
      obtain ⟨g1, g2⟩ := few_put_lo O l2 c1 few c5 (by rw [← l5, List.length_append])
      exact q H' _ { st with came := st.came + 1, lo := lo', hi := hi' } ⟨dx, pl, ph, nd, Fl', Fh', _, rfl, R', N4.perm pm', O'⟩ (f1.trans (f2.trans (f3.trans (f4.trans f')))) rfl rfl rfl pm3 g1 g2
    · dsimp only
      refine use_methP R1.hi ⟨by decide, by decide, by decide⟩ ?_
      wtm_at "rd"
      refine ⟨ph, .ref x, _, false, Fh, st.hi, rfl, R1.hi, hT, by omega, fun ⟨u, hu, e⟩ => absurd e (hfr u (List.mem_append_right _ hu)), fun _ H2 Fh2 hi2 P2 g2 pmP c1 => ?_⟩
      obtain ⟨R2, f2⟩ := R1.high P2 g2
      obtain ⟨O4, pm2⟩ := O.putHi rfl hb pmP P2.form
      have l2 : hi2.length = st.hi.length + 1 := by have := pmP.length_eq; simpa using this
      wtm_at "rd"
      refine ⟨_, _, _, _, _, rfl, R2.hr, T.cl_Midrow, T.na_Midrow_numbers, rfl, ?_⟩
      wtm_at "rd"
      refine ⟨nd, _, rfl, DPut.k (k := .inl ((st.came + 1 : Nat) : Int)) R2.hn (by omega), ?_⟩
      obtain ⟨R3, f3⟩ := R2.setN (kvs' := putK kvs (.inl ((st.came + 1 : Nat) : Int)) (.int n))
      generalize upd H2 nd _ = H3 at *
      wtm_at "rd"
      refine ⟨_, _, _, _, rfl, R3.hr, T.cl_Midrow, T.na_Midrow_last_coming, (by decide : (6 : Nat) < 1000), ?_⟩
      obtain ⟨R4, f4⟩ := R3.setR (s' := { st with came := st.came + 1, hi := hi2 }) rfl rfl
      have e4 : putF "last_coming" (.int ((st.came + 1 : Nat) : Int)) (rfs { st with hi := hi2 } pl ph nd) = rfs { st with came := st.came + 1, hi := hi2 } pl ph nd := rfl
      rw [e4]
      generalize upd H3 r _ = H4 at *
      wtm_at "rd"
      refine use_rraw R4 ⟨by decide, by decide, by decide, by decide, by decide, by decide⟩ ?_
      wtm_at "rd"
      have N4 := (N.put (n := n) hfr).perm pm2
      have l4 := pm2.length_eq
      rw [List.length_cons] at l4
      refine ⟨r, dx, pl, ph, nd, _, _, _, _, rfl, R4, N4, O4, by show (st.lo ++ hi2).length < 1000; omega, fun H' Fl' Fh' lo' hi' R' f' pm' O' few => ?_⟩
      wtm_at "rd"
      have pm3 := pm'.trans pm2
      have l5 := pm3.length_eq
      rw [List.length_cons] at l5
      have c5 := O'.cnt
      rw [show (RSt.all { st with came := st.came + 1, lo := lo', hi := hi' }).length = st.all.length + 1 from l5] at c5
      obtain ⟨g1, g2⟩ := few_put_hi O l2 c1 few c5 (by rw [← l5, List.length_append])
      exact q H' _ { st with came := st.came + 1, lo := lo', hi := hi' } ⟨dx, pl, ph, nd, Fl', Fh', _, rfl, R', N4.perm pm', O'⟩ (f1.trans (f2.trans (f3.trans (f4.trans f')))) rfl rfl rfl pm3 g1 g2
theorem mo_row_put (T : Txt K mg L) : ∀ C, okR L C → MOk P w K mg base (CXE P w) 18 C "put" ["self", "number"] [] (spRPut L) := mo_row (T := T) (ok_Midrow_put T) T.b_Midrow_put T.me_Midrow_put
theorem ok_Midrow_take (T : Txt K mg L) : FnOk P w K mg base (CXE P w) 18 L.a_Midrow_take L.d_Midrow_take ["self", "coming"] (spRTake L) := by
  refine T.f_Midrow_take.okX sc_Midrow_take (fun vs H Q E h => ?_) (fun cdv A outer s H vs Q E hr h => ?_)
  · obtain ⟨r, c, F, s, rfl, _⟩ := h
    rfl
  · obtain ⟨r, c, F, st, rfl, R, hc, qE, q⟩ := h
    refine ⟨_, (pss_cons (ps_set (i := 2) sc_Midrow_take.nd rfl (Or.inl rfl) (pe_methD (pv 0) (mo_row_number_of (K := K) T) (hr.mono (by decide)) .nil passX (pa_cons (pv 1) pa_nil)))
      (pss_cons (ps_expr (pe_methD (pe_methD (pv 0) (mo_row_pile_of (K := K) T) (hr.mono (by decide)) .nil pass0X (pa_cons (pe_tup (pa_cons (pv 2) (pa_cons (pv 1) pa_nil))) pa_nil)) (mo_pile_take (K := K) T) (hr.mono (by decide)) .nil passX (pa_cons (pv 1) pa_nil)))
      (pss_cons (ps_expr (pe_dpop1 (pe_fldK K (pv 0) rfl) (pv 1) ⟨rfl, rfl, rfl, rfl⟩))
      (pss_cons (ps_expr (pe_methD0 (pv 0) (mo_row_settle (K := K) T) (hr.mono (by decide)) .nil pass0X))
      (pss_one (ps_ret (pv 2))))))), ?_⟩
    refine rd_start (σ := [some _, some _, none]) rfl ?_
    obtain ⟨dx0, fs0, hp0, hm0⟩ := R.at
    wtm_at "rd"
    refine ⟨r, _, dx0, fs0, rfl, hp0, rfl, hm0 _ ⟨by decide, by decide, by decide, by decide, by decide, by decide⟩, ?_⟩
    wtm_at "rd"
    refine ⟨r, c, F, st, rfl, R, qE, fun t ht ec H0 F0 R f0 => ?_⟩
    subst ec
    obtain ⟨dx, pl, ph, nd, Fl, Fh, kvs, rfl, R0, N, O⟩ := R
    have ln := O.len
    have lk := N.len O.nod
    have hall : st.all.length = st.lo.length + st.hi.length := List.length_append
    wtm_at "rd"
    refine use_rraw R0 ⟨by decide, by decide, by decide, by decide, by decide, by decide⟩ ?_
    wtm_at "rd"
    refine ⟨(by decide : (2 : Nat) ≤ sizeLine), fun x hx => ?_⟩
    have s1 := same_new hx (.tup [.int t.1, .int t.2])
    have f1 : Fr (RF r dx nd Fl Fh) (RF r dx nd Fl Fh) H0 _ := .of_same s1
    have R1 := R0.keep (fun b o _ h => s1 b o h) s1.tup
    have hT : kPair.R (upd H0 x (.tup [.int t.1, .int t.2])) (.ref x) t := kPair_of upd_same
    generalize upd H0 x (.tup [.int t.1, .int t.2]) = H1 at *
    wtm_at "rd"
    refine ⟨r, .ref x, _, dx, pl, ph, nd, Fl, Fh, st, kvs, rfl, R1, hT, fun b hb => ?_⟩
    cases b
    · dsimp only
      have htl := O.isLo ht hb
      refine use_methP R1.lo ⟨by decide, by decide, by decide⟩ ?_
      wtm_at "rd"
      refine ⟨pl, t.2, true, Fl, st.lo, rfl, R1.lo, by omega, fun z => absurd rfl (z t htl), fun t' ht' e => ?_⟩
      obtain rfl := nodup_inj O.nlo ht' htl e
      intro H2 Fl2 lo2 y P2 g2 pmP c1 hy
      obtain ⟨R2, f2⟩ := R1.low P2 g2
      obtain ⟨O4, pm2⟩ := O.takeLo pmP P2.form
      have l2 : lo2.length + 1 = st.lo.length := by have := pmP.length_eq; simpa using this.symm
      wtm_at "rd"
      refine ⟨_, _, _, _, _, rfl, R2.hr, T.cl_Midrow, T.na_Midrow_numbers, rfl, ?_⟩
      refine ⟨nd, rfl, .inl ⟨_, .inl R2.hn⟩, ?_⟩
      wtm_at "rd"
      refine ⟨kvs, .inl t'.2, _, R2.hn, rfl, N.val t' ht, ?_⟩
      obtain ⟨R3, f3⟩ := R2.setN (kvs' := dropK kvs (.inl t'.2))
      generalize upd H2 nd _ = H3 at *
      wtm_at "rd"
      refine use_rraw R3 ⟨by decide, by decide, by decide, by decide, by decide, by decide⟩ ?_
      wtm_at "rd"
      have N4 := N.drop pm2 O.nod
      have l4 := pm2.length_eq
      rw [List.length_cons] at l4
      refine ⟨r, dx, pl, ph, nd, _, _, _, _, rfl, R3, N4, O4, by show (lo2 ++ st.hi).length < 1000; omega, fun H' Fl' Fh' lo' hi' R' f' pm' O' few => ?_⟩
      wtm_at "rd"
      have pm3 := pm2.trans (pm'.symm.cons t')
      have l5 := pm'.length_eq
      have c5 := O'.cnt
      obtain ⟨g1, g2⟩ := few_take_lo O l4 l2 c1 few (by rw [c5]; exact congrArg (fun z : Nat => Mp.placeF (z : Int) st.part st.whole) l5) (by rw [← l5, List.length_append])
      exact q t' ht rfl H' _ { st with lo := lo', hi := hi' } ⟨dx, pl, ph, nd, Fl', Fh', _, rfl, R', N4.perm pm', O'⟩ (f0.trans (f1.trans (f2.trans (f3.trans f')))) rfl rfl rfl pm3 g1 g2
    · dsimp only
      have htl := O.isHi ht hb
      refine use_methP R1.hi ⟨by decide, by decide, by decide⟩ ?_
      wtm_at "rd"
      refine ⟨ph, t.2, false, Fh, st.hi, rfl, R1.hi, by omega, fun z => absurd rfl (z t htl), fun t' ht' e => ?_⟩
      obtain rfl := nodup_inj O.nhi ht' htl e
      intro H2 Fh2 hi2 y P2 g2 pmP c1 hy
      obtain ⟨R2, f2⟩ := R1.high P2 g2
      obtain ⟨O4, pm2⟩ := O.takeHi pmP P2.form
      have l2 : hi2.length + 1 = st.hi.length := by have := pmP.length_eq; simpa using this.symm
      wtm_at "rd"
      refine ⟨_, _, _, _, _, rfl, R2.hr, T.cl_Midrow, T.na_Midrow_numbers, rfl, ?_⟩
      refine ⟨nd, rfl, .inl ⟨_, .inl R2.hn⟩, ?_⟩
      wtm_at "rd"
      refine ⟨kvs, .inl t'.2, _, R2.hn, rfl, N.val t' ht, ?_⟩
      obtain ⟨R3, f3⟩ := R2.setN (kvs' := dropK kvs (.inl t'.2))
      generalize upd H2 nd _ = H3 at *
      wtm_at "rd"
      refine use_rraw R3 ⟨by decide, by decide, by decide, by decide, by decide, by decide⟩ ?_
      wtm_at "rd"
      have N4 := N.drop pm2 O.nod
      have l4 := pm2.length_eq
      rw [List.length_cons] at l4
      refine ⟨r, dx, pl, ph, nd, _, _, _, _, rfl, R3, N4, O4, by show (st.lo ++ hi2).length < 1000; omega, fun H' Fl' Fh' lo' hi' R' f' pm' O' few => ?_⟩
      wtm_at "rd"
      have pm3 := pm2.trans (pm'.symm.cons t')
      have l5 := pm'.length_eq
      have c5 := O'.cnt
      obtain ⟨g1, g2⟩ := few_take_hi O l4 l2 c1 few (by rw [c5]; exact congrArg (fun z : Nat => Mp.placeF (z : Int) st.part st.whole) l5) (by rw [← l5, List.length_append])
      exact q t' ht rfl H' _ { st with lo := lo', hi := hi' } ⟨dx, pl, ph, nd, Fl', Fh', _, rfl, R', N4.perm pm', O'⟩ (f0.trans (f1.trans (f2.trans (f3.trans f')))) rfl rfl rfl pm3 g1 g2
theorem mo_row_take (T : Txt K mg L) : ∀ C, okR L C → MOk P w K mg base (CXE P w) 18 C "take" ["self", "coming"] [] (spRTake L) := mo_row (T := T) (ok_Midrow_take T) T.b_Midrow_take T.me_Midrow_take
def spRShare (L : Lk) : Sp := fun vs H Q E => ∃ r F s, vs = [.ref r] ∧ RRep L H r F s ∧ (s.all = [] → ∀ H', Same H H' → E (.ref L.Empty) none H') ∧ ∀ x t, s.lo[0]? = some t → kPair.R H x t → Q x H
theorem ok_Midrow_share (T : Txt K mg L) : FnOk P w K mg base (CXE P w) 6 L.a_Midrow_share L.d_Midrow_share ["self"] (spRShare L) := by
  refine T.f_Midrow_share.okX sc_Midrow_share (fun vs H Q E h => ?_) (fun cdv A outer s H vs Q E hr h => ?_)
  · obtain ⟨r, F, s, rfl, _⟩ := h
    rfl
  · obtain ⟨r, F, st, rfl, R, qE, q⟩ := h
    refine ⟨_, (pss_one (ps_ret (pe_methD0 (pe_fldK K (pv 0) rfl) (mo_pile_top (K := K) T) (hr.mono (by decide)) .nil passX))), ?_⟩
    refine rd_start (σ := [some _]) rfl ?_
    obtain ⟨dx, pl, ph, nd, Fl, Fh, kvs, rfl, R0, N, O⟩ := R
    wtm_at "rd"
    refine ⟨_, _, _, _, _, rfl, R0.hr, T.cl_Midrow, T.na_Midrow_low, rfl, ?_⟩
    refine use_methP R0.lo ⟨by decide, by decide, by decide⟩ ?_
    wtm_at "rd"
    exact ⟨pl, true, Fl, st.lo, rfl, R0.lo, fun h => qE (O.lo_nil h), q⟩
theorem mo_row_share (T : Txt K mg L) : ∀ C, okR L C → MOk P w K mg base (CXE P w) 6 C "share" ["self"] [] (spRShare L) := mo_row (T := T) (ok_Midrow_share T) T.b_Midrow_share T.me_Midrow_share
theorem ok_Midrow_oldest (T : Txt K mg L) : FnOk P w K mg base (CXE P w) 6 L.a_Midrow_oldest L.d_Midrow_oldest ["self"] (spROldest L) := by
  refine T.f_Midrow_oldest.okX sc_Midrow_oldest (fun vs H Q E h => ?_) (fun cdv A outer s H vs Q E hr h => ?_)
  · obtain ⟨r, F, s, rfl, _⟩ := h
    rfl
  · obtain ⟨r, F, st, rfl, R, qE, q⟩ := h
    refine ⟨_, (pss_cons (ps_if (pt_cmpR op_eq (pe_callB call_lenD (by rfl) T.z_len bt_len (pa_cons (pe_fldK K (pv 0) rfl) pa_nil)) pe_int (nomark _)) (pss_one (ps_raise1 T.x_Empty T.m_Empty (by rfl) pe_str)) pss_nil)
      (pss_one (ps_ret (pe_callB (call_minD rfl) (by rfl) T.z_min bt_min (pa_cons (pe_fldK K (pv 0) rfl) pa_nil))))), ?_⟩
    refine rd_start (σ := [some _]) rfl ?_
    have RR := R
    obtain ⟨dx, pl, ph, nd, Fl, Fh, kvs, rfl, R0, N, O⟩ := R
    have lk := N.len O.nod
    wtm_at "rd"
    refine ⟨_, _, _, _, _, rfl, R0.hr, T.cl_Midrow, T.na_Midrow_numbers, rfl, ?_⟩
    wtm_at "rd"
    refine ⟨nd, kvs, rfl, R0.hn, ?_⟩
    wtm_at "rd"
    · exact qE (List.eq_nil_of_length_eq_zero (by omega)) H _ RR (.of_same (Same.refl _))
    · refine ⟨_, _, _, _, _, rfl, R0.hr, T.cl_Midrow, T.na_Midrow_numbers, rfl, ?_⟩
      wtm_at "rd"
      refine ⟨nd, kvs, rfl, R0.hn, ?_, ?_, ?_⟩
      · rintro rfl; simp at *
      · intro k hk
        obtain ⟨t, _, e⟩ := N.sub k hk
        exact ⟨t.2, e⟩
      · intro c hc' hm
        obtain ⟨t, ht, e⟩ := N.sub _ hc'
        cases Sum.inl.inj e
        exact q t ht (fun u hu => hm u.2 (valV_in (N.val u hu))) H _ RR (.of_same (Same.refl _))
theorem mo_row_oldest (T : Txt K mg L) : ∀ C, okR L C → MOk P w K mg base (CXE P w) 6 C "oldest" ["self"] [] (spROldest L) := mo_row (T := T) (ok_Midrow_oldest T) T.b_Midrow_oldest T.me_Midrow_oldest
end
end K05

set_option Elab.async false
set_option linter.all false
set_option maxRecDepth 100000
set_option maxHeartbeats 4000000

namespace K05
open PySem L2 Hm
theorem use_methR {L : Lk} {H : Hp} {r : Addr} {F : List Addr} {s : RSt} {m : Str} {G : Addr → Prop} (R : RRep L H r F s) (hm : RwM m) (q : ∀ C, G C) : ∃ a C dx fs, V.ref r = V.ref a ∧ H a = some (.ins C dx fs) ∧ okR L C ∧ fs.lookup m = none ∧ G C := by
  obtain ⟨dx, fs, hp, h⟩ := R.at
  exact ⟨r, _, dx, fs, rfl, hp, rfl, h m hm, q _⟩
theorem use_rnum {L : Lk} {H : Hp} {r : Addr} {F : List Addr} {s : RSt} {c : Int} {Q : VK} {E : XK} {t : Th} (R : RRep L H r F s) (ht : t ∈ s.all) (hc : t.2 = c) (q : ∀ H' F', RRep L H' r F' s → Fr F F' H H' → Q (.int t.1) H') : spRNum L (.ref r :: ([.int c] ++ [])) H Q E :=
  ⟨r, c, F, s, rfl, R, fun h => absurd hc (h t ht), fun u hu eu => by
    obtain rfl := nodup_inj R.ok.nod hu ht (eu.trans hc.symm)
    exact q⟩
theorem use_roldest {L : Lk} {H : Hp} {r : Addr} {F : List Addr} {s : RSt} {Q : VK} {E : XK} {t : Th} (R : RRep L H r F s) (ht : t ∈ s.all) (hm : ∀ u ∈ s.all, t.2 ≤ u.2) (q : ∀ H' F', RRep L H' r F' s → Fr F F' H H' → Q (.int t.2) H') : spROldest L (.ref r :: ([] ++ [])) H Q E :=
  ⟨r, F, s, rfl, R, (fun h => by rw [h] at ht; cases ht), fun u hu hmu => by
    have e : u.2 = t.2 := Int.le_antisymm (hmu t ht) (hm u hu)
    rw [e]
    exact q⟩
section
variable {P : Program} {w : World} {K : PySem.W.Frag} {mg : Str → Option Value} {base : Heap} {L : Lk}
def cell (ns : List Int) (k : Int) : Int := ns.getD k.toNat 0
def spAt (K : PySem.W.Frag) : Sp := fun vs H Q _ => ∃ a ns k, vs = [.ref a, .int k] ∧ SqL K H a (ns.map V.int) ∧ 0 ≤ k ∧ Q (.int (cell ns k)) H
theorem ok__law_at (T : Txt K mg L) : FnOk P w K mg base (CXE P w) 1 L.a__law_at L.d__law_at ["_law_script", "_law_k"] (spAt K) := by
  refine T.f__law_at.ok0 sc__law_at (fun vs H Q E h => ?_) (fun cdv A outer s H vs Q E hr h => ?_)
  · obtain ⟨a, ns, k, rfl, _⟩ := h
    rfl
  · obtain ⟨a, ns, k, rfl, hS, h0, q⟩ := h
    refine ⟨_, (pss_cons (ps_if (pt_cmpR op_lt (pv 1) (pe_callB (call_lenK K) (by rfl) T.z_len bt_len (pa_cons (pv 0) pa_nil)) (nomark _)) (pss_one (ps_ret (pe_ix (ix_listK K) (pv 0) (pv 1) (fun _ _ => rfl)))) pss_nil)
      (pss_one (ps_ret pe_int))), ?_⟩
    refine rd_start (σ := [some _, some _]) rfl ?_
    have hl : (ns.map V.int).length = ns.length := List.length_map _
    wtm_at "rd"
    refine rd_lenL hS ?_
    rw [hl]
    unfold cell at q
    wtm_at "rd"
    · have hk : k.toNat < ns.length := by omega
      have ek : k = ((k.toNat : Nat) : Int) := by omega
      refine rd_ixL (v := .int ns[k.toNat]) hS ?_ ?_
      · refine (congrArg _ ek).trans (atI_nat ?_)
        rw [List.getElem?_map, List.getElem?_eq_getElem hk]; rfl
      · rw [List.getD_eq_getElem?_getD, List.getElem?_eq_getElem hk] at q
        exact q
    · have hk : ns.length ≤ k.toNat := by omega
      rw [List.getD_eq_getElem?_getD, List.getElem?_eq_none hk] at q
      exact q
theorem use_at {a : Addr} {ns : List Int} {k : Int} {H : Hp} {Q : VK} {E : XK} (hS : SqL K H a (ns.map V.int)) (h0 : 0 ≤ k) (q : Q (.int (cell ns k)) H) : spAt K ([.ref a, .int k] ++ []) H Q E := ⟨a, ns, k, rfl, hS, h0, q⟩
def spIs : Sp := fun vs H Q _ => ∃ i j : Int, vs = [.int i, .int j] ∧ Q (.bl (decide (i = j))) H
theorem ok__law_is (T : Txt K mg L) : FnOk P w K mg base (CXE P w) 1 L.a__law_is L.d__law_is ["_law_found", "_law_due"] spIs := by
  refine T.f__law_is.ok0 sc__law_is (fun vs H Q E h => ?_) (fun cdv A outer s H vs Q E hr h => ?_)
  · obtain ⟨i, j, rfl, _⟩ := h
    rfl
  · obtain ⟨i, j, rfl, q⟩ := h
    refine ⟨_, (pss_one (ps_ret (pe_and (pe_callB (call_isiTK K) (by rfl) T.z_isinstance bt_isinstance (pa_cons (pv 0) (pa_cons (pe_bltn (v := .ty "int") (by rfl) T.z_int bt_int rfl) pa_nil))) (pe_and (pe_not (pe_callB (call_isiTK K) (by rfl) T.z_isinstance bt_isinstance (pa_cons (pv 0) (pa_cons (pe_bltn (v := .ty "bool") (by rfl) T.z_bool bt_bool rfl) pa_nil)))) (pe_one (pe_cmpR op_eq (pv 0) (pv 1) (nomark _))))))), ?_⟩
    refine rd_start (σ := [some _, some _]) rfl ?_
    wtm_at "rd"
    refine ⟨_, _, _, true, rfl, .ty (.int i), by rfl, ?_⟩
    wtm_at "rd"
    refine ⟨_, _, _, false, rfl, .ty (.int i), by kernel_rfl, ?_⟩
    wtm_at "rd"
    exact q
theorem use_is {i j : Int} {H : Hp} {Q : VK} {E : XK} (e : i = j) (q : Q (.bl true) H) : spIs ([.int i, .int j] ++ []) H Q E := ⟨i, j, rfl, by rw [decide_eq_true e]; exact q⟩
def spNumber : Sp := fun vs H Q _ => ∃ c : Int, vs = [.int c] ∧ ∀ n : Int, -(10 ^ 60) < n → n < 10 ^ 60 → Q (.int n) H
theorem ok__law_number (T : Txt K mg L) : FnOk P w K mg base (CXE P w) 1 L.a__law_number L.d__law_number ["_law_load"] spNumber := by
  refine T.f__law_number.ok0 sc__law_number (fun vs H Q E h => ?_) (fun cdv A outer s H vs Q E hr h => ?_)
  · obtain ⟨c, rfl, _⟩ := h
    rfl
  · obtain ⟨c, rfl, q⟩ := h
    refine ⟨_, (pss_cons (ps_set (i := 1) sc__law_number.nd rfl (Or.inl rfl) (pe_op op_fdivB (pv 0) pe_int))
      (pss_cons (ps_if (pt_cmpR op_eq (pe_op op_mod (pv 0) pe_int) pe_int (nomark _)) (pss_one (ps_ret (pe_op op_sub (pe_op op_mod (pv 1) pe_int) pe_int))) pss_nil)
      (pss_cons (ps_if (pt_cmpR op_eq (pe_op op_mod (pv 0) pe_int) pe_int (nomark _)) (pss_one (ps_ret (pe_op op_sub (pe_op op_mod (pv 1) pe_int) pe_int))) pss_nil)
      (pss_cons (ps_if (pt_cmpR op_eq (pe_op op_mod (pv 0) pe_int) pe_int (nomark _)) (pss_one (ps_ret (pe_op op_sub (pe_op op_mod (pv 1) (pe_op op_add (pe_powc (v := 10 ^ 20) rfl (by decide)) pe_int)) (pe_op op_mulB pe_int (pe_powc (v := 10 ^ 19) rfl (by decide)))))) pss_nil)
      (pss_one (ps_ret (pe_op op_sub (pe_op op_mod (pv 1) (pe_op op_sub (pe_op op_mulB pe_int (pe_powc (v := 10 ^ 60) rfl (by decide))) pe_int)) (pe_op op_sub (pe_powc (v := 10 ^ 60) rfl (by decide)) pe_int)))))))), ?_⟩
    refine rd_start (σ := [some _, none]) rfl ?_
    wtm_at "rd"
    · exact q _ (by omega) (by omega)
    · exact q _ (by omega) (by omega)
    · exact q _ (by omega) (by omega)
    · exact q _ (by omega) (by omega)
theorem use_number {c : Int} {H : Hp} {Q : VK} {E : XK} (q : ∀ n : Int, -(10 ^ 60) < n → n < 10 ^ 60 → Q (.int n) H) : spNumber ([.int c] ++ []) H Q E := ⟨c, rfl, q⟩
def spNoNum (L : Lk) : Sp := fun vs H Q _ => ∃ r c F s, vs = [.ref r, .int c] ∧ RRep L H r F s ∧ (∀ u ∈ s.all, u.2 ≠ c) ∧ ∀ H' F', RRep L H' r F' s → Fr F F' H H' → Q (.bl true) H'
theorem ok__law_no_number (T : Txt K mg L) : FnOk P w K mg base (CXE P w) 42 L.a__law_no_number L.d__law_no_number ["_law_row", "_law_coming"] (spNoNum L) := by
  refine T.f__law_no_number.ok0 sc__law_no_number (fun vs H Q E h => ?_) (fun cdv A outer s H vs Q E hr h => ?_)
  · obtain ⟨r, c, F, st, rfl, _⟩ := h
    rfl
  · obtain ⟨r, c, F, st, rfl, R, hn, q⟩ := h
    refine ⟨_, (pss_cons (ps_try ⟨rfl, rfl, rfl⟩ (fun pins σ E1 E' hx => (pe_methDAt (pv 0) (mo_row_number_of (K := K) T) (hr.mono (by decide)) .nil hx (pa_cons (pv 1) pa_nil))) (ph_as ⟨rfl, rfl, rfl⟩ (by rfl) T.m_MidError sc__law_no_number.nd (i := 2) rfl rfl (fun e => (pss_cons (ps_set (i := 3) sc__law_no_number.nd rfl (Or.inl rfl) (pe_callB (call_isiXK K) (by rfl) T.z_isinstance bt_isinstance (pa_cons (pv 2) (pa_cons (pe_tup (pa_cons (pe_glob (v := .ref L.NoShare) (by rfl) T.m_NoShare rfl) (pa_cons (pe_glob (v := .ref L.Empty) (by rfl) T.m_Empty rfl) (pa_cons (pe_glob (v := .ref L.NoWidth) (by rfl) T.m_NoWidth rfl) (pa_cons (pe_glob (v := .ref L.Twice) (by rfl) T.m_Twice rfl) pa_nil))))) pa_nil))))
      (pss_one (ps_ret (pe_and (pe_callB (call_isiK K) (by rfl) T.z_isinstance bt_isinstance (pa_cons (pv 2) (pa_cons (pe_glob (v := .ref L.NoThing) (by rfl) T.m_NoThing rfl) pa_nil))) (pe_and (pe_callB (call_isiTK K) (by rfl) T.z_isinstance bt_isinstance (pa_cons (pv 2) (pa_cons (pe_bltn (v := .ty "ValueError") (by rfl) T.z_ValueError bt_ValueError rfl) pa_nil))) (pe_one (pe_not (pv 3)))))))))))
      (pss_one (ps_ret pe_bl))), ?_⟩
    refine rd_start (σ := [some _, some _, none, none]) rfl ?_
    wtm_at "rd"
    refine use_methR R (by unfold RwM; decide) fun _ => ?_
    wtm_at "rd"
    refine ⟨r, c, F, st, rfl, R, fun _ H' F' R' f' => ⟨_, rfl, T.tk_NoThing, fun e he => ?_⟩, fun t ht et => absurd et (hn t ht)⟩
    exact rd_caught (i := 2) (j := 3) (σ := [_, _, _, _]) T.e_NoThing T.ka_NoThing T.ks_NoThing T.kv_NoThing he (by show 2 < 4; decide) (by show 3 < 4; decide) (by decide) fun H'' s'' => q _ F' (R'.same s'') (f'.trans (.of_same s''))
def spNoTake (L : Lk) : Sp := fun vs H Q _ => ∃ r c F s, vs = [.ref r, .int c] ∧ RRep L H r F s ∧ s.came < 900 ∧ (∀ u ∈ s.all, u.2 ≠ c) ∧ ∀ H' F', RRep L H' r F' s → Fr F F' H H' → Q (.bl true) H'
theorem ok__law_no_take (T : Txt K mg L) : FnOk P w K mg base (CXE P w) 42 L.a__law_no_take L.d__law_no_take ["_law_row", "_law_coming"] (spNoTake L) := by
  refine T.f__law_no_take.ok0 sc__law_no_take (fun vs H Q E h => ?_) (fun cdv A outer s H vs Q E hr h => ?_)
  · obtain ⟨r, c, F, st, rfl, _⟩ := h
    rfl
  · obtain ⟨r, c, F, st, rfl, R, hcm, hn, q⟩ := h
    refine ⟨_, (pss_cons (ps_try ⟨rfl, rfl, rfl⟩ (fun pins σ E1 E' hx => (pe_methDAt (pv 0) (mo_row_take (K := K) T) (hr.mono (by decide)) .nil hx (pa_cons (pv 1) pa_nil))) (ph_as ⟨rfl, rfl, rfl⟩ (by rfl) T.m_MidError sc__law_no_take.nd (i := 2) rfl rfl (fun e => (pss_cons (ps_set (i := 3) sc__law_no_take.nd rfl (Or.inl rfl) (pe_callB (call_isiXK K) (by rfl) T.z_isinstance bt_isinstance (pa_cons (pv 2) (pa_cons (pe_tup (pa_cons (pe_glob (v := .ref L.NoShare) (by rfl) T.m_NoShare rfl) (pa_cons (pe_glob (v := .ref L.Empty) (by rfl) T.m_Empty rfl) (pa_cons (pe_glob (v := .ref L.NoWidth) (by rfl) T.m_NoWidth rfl) (pa_cons (pe_glob (v := .ref L.Twice) (by rfl) T.m_Twice rfl) pa_nil))))) pa_nil))))
      (pss_one (ps_ret (pe_and (pe_callB (call_isiK K) (by rfl) T.z_isinstance bt_isinstance (pa_cons (pv 2) (pa_cons (pe_glob (v := .ref L.NoThing) (by rfl) T.m_NoThing rfl) pa_nil))) (pe_and (pe_callB (call_isiTK K) (by rfl) T.z_isinstance bt_isinstance (pa_cons (pv 2) (pa_cons (pe_bltn (v := .ty "ValueError") (by rfl) T.z_ValueError bt_ValueError rfl) pa_nil))) (pe_one (pe_not (pv 3)))))))))))
      (pss_one (ps_ret pe_bl))), ?_⟩
    refine rd_start (σ := [some _, some _, none, none]) rfl ?_
    wtm_at "rd"
    refine use_methR R (by unfold RwM; decide) fun _ => ?_
    wtm_at "rd"
    refine ⟨r, c, F, st, rfl, R, hcm, fun _ H' F' R' f' => ⟨_, rfl, T.tk_NoThing, fun e he => ?_⟩, fun t ht et => absurd et (hn t ht)⟩
    exact rd_caught (i := 2) (j := 3) (σ := [_, _, _, _]) T.e_NoThing T.ka_NoThing T.ks_NoThing T.kv_NoThing he (by show 2 < 4; decide) (by show 3 < 4; decide) (by decide) fun H'' s'' => q _ F' (R'.same s'') (f'.trans (.of_same s''))
def spNoOld (L : Lk) : Sp := fun vs H Q _ => ∃ r F s, vs = [.ref r] ∧ RRep L H r F s ∧ s.all = [] ∧ ∀ H' F', RRep L H' r F' s → Fr F F' H H' → Q (.bl true) H'
theorem ok__law_no_oldest (T : Txt K mg L) : FnOk P w K mg base (CXE P w) 42 L.a__law_no_oldest L.d__law_no_oldest ["_law_row"] (spNoOld L) := by
  refine T.f__law_no_oldest.ok0 sc__law_no_oldest (fun vs H Q E h => ?_) (fun cdv A outer s H vs Q E hr h => ?_)
  · obtain ⟨r, F, st, rfl, _⟩ := h
    rfl
  · obtain ⟨r, F, st, rfl, R, hn, q⟩ := h
    refine ⟨_, (pss_cons (ps_try ⟨rfl, rfl, rfl⟩ (fun pins σ E1 E' hx => (pe_methD0At (pv 0) (mo_row_oldest (K := K) T) (hr.mono (by decide)) .nil hx)) (ph_as ⟨rfl, rfl, rfl⟩ (by rfl) T.m_MidError sc__law_no_oldest.nd (i := 1) rfl rfl (fun e => (pss_cons (ps_set (i := 2) sc__law_no_oldest.nd rfl (Or.inl rfl) (pe_callB (call_isiXK K) (by rfl) T.z_isinstance bt_isinstance (pa_cons (pv 1) (pa_cons (pe_tup (pa_cons (pe_glob (v := .ref L.NoShare) (by rfl) T.m_NoShare rfl) (pa_cons (pe_glob (v := .ref L.NoThing) (by rfl) T.m_NoThing rfl) (pa_cons (pe_glob (v := .ref L.NoWidth) (by rfl) T.m_NoWidth rfl) (pa_cons (pe_glob (v := .ref L.Twice) (by rfl) T.m_Twice rfl) pa_nil))))) pa_nil))))
      (pss_one (ps_ret (pe_and (pe_callB (call_isiK K) (by rfl) T.z_isinstance bt_isinstance (pa_cons (pv 1) (pa_cons (pe_glob (v := .ref L.Empty) (by rfl) T.m_Empty rfl) pa_nil))) (pe_and (pe_callB (call_isiTK K) (by rfl) T.z_isinstance bt_isinstance (pa_cons (pv 1) (pa_cons (pe_bltn (v := .ty "ValueError") (by rfl) T.z_ValueError bt_ValueError rfl) pa_nil))) (pe_one (pe_not (pv 2)))))))))))
      (pss_one (ps_ret pe_bl))), ?_⟩
    refine rd_start (σ := [some _, none, none]) rfl ?_
    wtm_at "rd"
    refine use_methR R (by unfold RwM; decide) fun _ => ?_
    wtm_at "rd"
    refine ⟨r, F, st, rfl, R, fun _ H' F' R' f' => ⟨_, rfl, T.tk_Empty, fun e he => ?_⟩, fun t ht => by rw [hn] at ht; cases ht⟩
    exact rd_caught (i := 1) (j := 2) (σ := [_, _, _]) T.e_Empty T.ka_Empty T.ks_Empty T.kv_Empty he (by show 1 < 3; decide) (by show 2 < 3; decide) (by decide) fun H'' s'' => q _ F' (R'.same s'') (f'.trans (.of_same s''))
/-- a row and the law's list of what is in it, the oldest first -/
structure R2 (L : Lk) (H : Hp) (r : Addr) (F : List Addr) (s : RSt) (kl : Addr) (ks : List Th) : Prop where
  r : RRep L H r F s
  pm : s.all.Perm ks
  srt : ks.Pairwise (fun a b => a.2 < b.2)
  ex : ∃ xs, Out F H kl (.lst xs) ∧ Paired (kPair.R H) xs ks
theorem R2.step {H H' : Hp} {r kl : Addr} {F F' : List Addr} {s : RSt} {ks : List Th} (S : R2 L H r F s kl ks) (R : RRep L H' r F' s) (f : Fr F F' H H') : R2 L H' r F' s kl ks := by
  obtain ⟨xs, o, pk⟩ := S.ex
  exact ⟨R, S.pm, S.srt, xs, f.out o, pairs_keep f.tup pk⟩
theorem R2.same {H H' : Hp} {r kl : Addr} {F : List Addr} {s : RSt} {ks : List Th} (S : R2 L H r F s kl ks) (e : Same H H') : R2 L H' r F s kl ks := S.step (S.r.same e) (.of_same e)
theorem R2.len {H : Hp} {r kl : Addr} {F : List Addr} {s : RSt} {ks : List Th} (S : R2 L H r F s kl ks) : ks.length ≤ s.came := by
  have nd : (ks.map (·.2)).Nodup := (S.pm.map (·.2)).nodup_iff.mp S.r.ok.nod
  have rg : ∀ c ∈ ks.map (·.2), 1 ≤ c ∧ c ≤ (s.came : Int) := fun c hc => by
    obtain ⟨u, hu, rfl⟩ := List.mem_map.mp hc
    exact S.r.ok.rng u (S.pm.mem_iff.mpr hu)
  have := nodup_len nd rg
  simpa using this
def spLook (L : Lk) : Sp := fun vs H Q _ => ∃ r kl ld F s ks, vs = [.ref r, .ref kl, .int ld] ∧ R2 L H r F s kl ks ∧ ∀ H' F', R2 L H' r F' s kl ks → Fr F F' H H' → Q (.bl true) H'
theorem ok__law_look (T : Txt K mg L) : FnOk P w K mg base (CXE P w) 44 L.a__law_look L.d__law_look ["_law_row", "_law_kept", "_law_load"] (spLook L) := by
  refine T.f__law_look.ok0 sc__law_look (fun vs H Q E h => ?_) (fun cdv A outer s H vs Q E hr h => ?_)
  · obtain ⟨r, kl, ld, F, st, ks, rfl, _⟩ := h
    rfl
  · obtain ⟨r, kl, ld, F, st, ks, rfl, S, q⟩ := h
    refine ⟨_, (pss_cons (ps_if (pt_not (pt_val (pe_call (ok__law_is (K := K) T) (hr.mono (by decide)) (by rfl) T.m__law_is T.k__law_is T.b__law_is .nil pass0X (pa_cons (pe_methD0 (pv 0) (mo_row_many (K := K) T) (hr.mono (by decide)) .nil pass0X) (pa_cons (pe_callB (call_lenK K) (by rfl) T.z_len bt_len (pa_cons (pv 1) pa_nil)) pa_nil))))) (pss_one (ps_ret pe_bl)) pss_nil)
      (pss_cons (ps_if (pt_cmpR (op_eqL kPair (hu_k hr (by decide))) (pv 1) (pe_lst pa_nil) (nomark _)) (pss_one (ps_ret (pe_call (ok__law_no_oldest (K := K) T) (hr.mono (by decide)) (by rfl) T.m__law_no_oldest T.k__law_no_oldest T.b__law_no_oldest .nil pass0X (pa_cons (pv 0) pa_nil)))) pss_nil)
      (pss_cons (ps_set (i := 3) sc__law_look.nd rfl (Or.inl rfl) (pe_ix (ix_listK K) (pv 1) (pe_op op_mod (pv 2) (pe_callB (call_lenK K) (by rfl) T.z_len bt_len (pa_cons (pv 1) pa_nil))) (fun _ _ => rfl)))
      (pss_join (ps_if (PW.pt (pw_and (pt_cmpR op_eq (pe_op op_mod (pv 2) pe_int) pe_int (nomark _)) (pw_and1 (pt_not (pt_val (pe_call (ok__law_is (K := K) T) (hr.mono (by decide)) (by rfl) T.m__law_is T.k__law_is T.b__law_is .nil pass0X (pa_cons (pe_methD0 (pv 0) (mo_row_oldest (K := K) T) (hr.mono (by decide)) .nil pass0X) (pa_cons (pe_ix (ix_tupK K) (pe_ix (ix_listK K) (pv 1) pe_int (fun _ _ => rfl)) pe_int (fun _ _ => rfl)) pa_nil)))))))) (pss_one (ps_ret pe_bl)) pss_nil)
      (pss_one (ps_ret (pe_and (pe_call (ok__law_is (K := K) T) (hr.mono (by decide)) (by rfl) T.m__law_is T.k__law_is T.b__law_is .nil pass0X (pa_cons (pe_methD (pv 0) (mo_row_number_of (K := K) T) (hr.mono (by decide)) .nil pass0X (pa_cons (pe_ix (ix_tupK K) (pv 3) pe_int (fun _ _ => rfl)) pa_nil)) (pa_cons (pe_ix (ix_tupK K) (pv 3) pe_int (fun _ _ => rfl)) pa_nil))) (pe_one (pe_call (ok__law_is (K := K) T) (hr.mono (by decide)) (by rfl) T.m__law_is T.k__law_is T.b__law_is .nil pass0X (pa_cons (pe_methD0 (pv 0) (mo_row_oldest (K := K) T) (hr.mono (by decide)) .nil pass0X) (pa_cons (pe_ix (ix_tupK K) (pe_ix (ix_listK K) (pv 1) pe_int (fun _ _ => rfl)) pe_int (fun _ _ => rfl)) pa_nil))))))))))), ?_⟩
    refine rd_start (σ := [some _, some _, some _, none]) rfl ?_
    wtm_at "rd"
    refine use_methR S.r (by unfold RwM; decide) fun _ => ?_
    wtm_at "rd"
    refine ⟨r, F, st, rfl, S.r, fun H1 F1 R1 f1 => ?_⟩
    have S1 := S.step R1 f1
    obtain ⟨xs, o, pk⟩ := S1.ex
    have lx := pk.len
    have lt := S1.pm.length_eq
    wtm_at "rd"
    refine rd_lenL (SqL.of o.2) ?_
    wtm_at "rd"
    refine use_is (by rw [lt, lx]) ?_
    wtm_at "rd"
    refine ⟨by show 0 ≤ sizeLine; decide, fun e he => ?_⟩
    have s2 := same_new he (.lst [])
    wtm_at "rd"
    refine rd_eqN (s2 _ _ o.2) (pairs_keep s2.tup pk) upd_same (fun z => ?_) (fun z => ?_)
    · wtm_at "rd"
      refine ⟨r, F1, st, rfl, R1.same s2, by have := S1.pm; rw [z] at this; exact this.eq_nil, fun H3 F3 R3 f3 => ?_⟩
      exact q H3 F3 (S.step R3 (f1.trans ((Fr.of_same s2).trans f3))) (f1.trans ((Fr.of_same s2).trans f3))
    · have S2 := S1.same s2
      have f2 := f1.trans (.of_same (F := F1) s2)
      clear S1 R1 o pk
      generalize upd H1 e (.lst []) = H2 at *
      obtain ⟨xs2, o, pk⟩ := S2.ex
      have lx := pk.len
      have l0 := List.length_pos_iff.mpr z
      obtain ⟨j, hj, ej⟩ := idx_in ld l0
      have h0 : ks[0]? = some ks[0] := List.getElem?_eq_getElem l0
      have old : ∀ u ∈ st.all, ks[0].2 ≤ u.2 := fun u hu => by
        have hm := S2.pm.mem_iff.mp hu
        have sr := S2.srt
        cases ks with
        | nil => cases hm
        | cons k0 kr =>
          rcases List.mem_cons.mp hm with e | e
          · rw [e]; exact Int.le_refl _
          · exact Int.le_of_lt ((List.pairwise_cons.mp sr).1 u e)
      have m0 : ks[0] ∈ st.all := S2.pm.mem_iff.mpr (List.getElem_mem l0)
      wtm_at "rd"
      refine rd_lenL (SqL.of o.2) ?_
      rw [lx]
      wtm_at "rd"
      rw [ej]
      refine rd_ixLP (SqL.of o.2) pk (List.getElem?_eq_getElem hj) fun x hx => ?_
      wtm_at "rd"
      refine rd_join (fun σ' H' => ∃ F', R2 L H' r F' st kl ks ∧ Fr F F' H H' ∧ kPair.R H' x ks[j] ∧ σ' = [some (.ref r), some (.ref kl), some (.int ld), some x]) ?_ ?_
      · wtm_at "rd"
        · refine use_methR S2.r (by unfold RwM; decide) fun _ => ?_
          wtm_at "rd"
          refine use_roldest S2.r m0 old fun H3 F3 R3 f3 => ?_
          have S3 := S2.step R3 f3
          obtain ⟨xs3, o3, pk3⟩ := S3.ex
          wtm_at "rd"
          refine rd_ixLP (i := 0) (SqL.of o3.2) pk3 h0 fun y hy => ?_
          wtm_at "rd"
          refine rd_ixP1 hy ?_
          wtm_at "rd"
          refine use_is rfl ?_
          wtm_at "rd"
          exact ⟨F3, S3, f2.trans f3, pairs_tup f3.tup hx, rfl⟩
        · exact ⟨F1, S2, f2, hx, rfl⟩
      rintro _ H3 ⟨F3, S3, f3, hx3, rfl⟩
      wtm_at "rd"
      refine use_methR S3.r (by unfold RwM; decide) fun _ => ?_
      wtm_at "rd"
      refine rd_ixP1 hx3 ?_
      wtm_at "rd"
      refine use_rnum S3.r (S3.pm.mem_iff.mpr (List.getElem_mem hj)) rfl fun H4 F4 R4 f4 => ?_
      have S4 := S3.step R4 f4
      wtm_at "rd"
      refine rd_ixP0 (pairs_tup f4.tup hx3) ?_
      wtm_at "rd"
      refine use_is rfl ?_
      wtm_at "rd"
      refine use_methR S4.r (by unfold RwM; decide) fun _ => ?_
      wtm_at "rd"
      refine use_roldest S4.r m0 old fun H5 F5 R5 f5 => ?_
      have S5 := S4.step R5 f5
      obtain ⟨xs5, o5, pk5⟩ := S5.ex
      wtm_at "rd"
      refine rd_ixLP (i := 0) (SqL.of o5.2) pk5 h0 fun y hy => ?_
      wtm_at "rd"
      refine rd_ixP1 hy ?_
      wtm_at "rd"
      exact use_is rfl (q H5 F5 S5 (f3.trans (f4.trans f5)))
def spTaken (L : Lk) : Sp := fun vs H Q _ => ∃ r kl j t F s ks, vs = [.ref r, .ref kl, .int ((j : Nat) : Int)] ∧ R2 L H r F s kl ks ∧ ks[j]? = some t ∧ s.came < 900 ∧
  ∀ H' F' s', R2 L H' r F' s' kl (ks.eraseIdx j) → s'.came = s.came → Fr (kl :: F) (kl :: F') H H' → Q (.bl true) H'
theorem ok__law_taken (T : Txt K mg L) : FnOk P w K mg base (CXE P w) 44 L.a__law_taken L.d__law_taken ["_law_row", "_law_kept", "_law_at_here"] (spTaken L) := by
  refine T.f__law_taken.ok0 sc__law_taken (fun vs H Q E h => ?_) (fun cdv A outer s H vs Q E hr h => ?_)
  · obtain ⟨r, kl, j, t, F, st, ks, rfl, _⟩ := h
    rfl
  · obtain ⟨r, kl, j, t, F, st, ks, rfl, S, hj, hc, q⟩ := h
    refine ⟨_, (pss_cons (ps_set (i := 3) sc__law_taken.nd rfl (Or.inl rfl) (pe_bmK K PySem.F.plainAttrs_list PySem.F.slot_list_pop PySem.F.type_list_pop mt_popAt (pv 1) (pa_cons (pv 2) pa_nil)))
      (pss_one (ps_ret (pe_call (ok__law_is (K := K) T) (hr.mono (by decide)) (by rfl) T.m__law_is T.k__law_is T.b__law_is .nil pass0X (pa_cons (pe_methD (pv 0) (mo_row_take (K := K) T) (hr.mono (by decide)) .nil pass0X (pa_cons (pe_ix (ix_tupK K) (pv 3) pe_int (fun _ _ => rfl)) pa_nil)) (pa_cons (pe_ix (ix_tupK K) (pv 3) pe_int (fun _ _ => rfl)) pa_nil)))))), ?_⟩
    refine rd_start (σ := [some _, some _, some _, none]) rfl ?_
    obtain ⟨xs, o, pk⟩ := S.ex
    have lx := pk.len
    have lk := S.len
    have sz : 1000 ≤ sizeLine := by decide
    obtain ⟨y, hy, ry⟩ := pk.get' hj
    wtm_at "rd"
    refine ⟨.inl ⟨rfl, xs, SqL.of o.2⟩, ?_⟩
    wtm_at "rd"
    refine popat_ok o.2 (by omega) hy ?_
    have w1 : Fr (kl :: F) (kl :: F) H (upd H kl (.lst (xs.eraseIdx j))) := .write (by simp) o.2
    have R1 : RRep L (upd H kl (.lst (xs.eraseIdx j))) r F st := S.r.keep (fun c o' hc' q' => by rw [upd_ne (fun e => o.1 (by rw [← e]; exact hc'))]; exact q') w1.tup
    wtm_at "rd"
    refine use_methR R1 (by unfold RwM; decide) fun _ => ?_
    wtm_at "rd"
    refine rd_ixP1 (pairs_tup w1.tup ry) ?_
    wtm_at "rd"
    have hm : t ∈ st.all := S.pm.mem_iff.mpr (List.mem_of_getElem? hj)
    refine ⟨r, t.2, F, st, rfl, R1, hc, fun h => absurd rfl (h t hm), fun t' ht' et H2 F2 s2 R2 f2 _ _ cm pm2 _ _ => ?_⟩
    obtain rfl := nodup_inj S.r.ok.nod ht' hm et
    wtm_at "rd"
    refine rd_ixP0 (pairs_tup f2.tup (pairs_tup w1.tup ry)) ?_
    wtm_at "rd"
    refine use_is rfl (q H2 F2 s2 ⟨R2, ?_, S.srt.sublist (List.eraseIdx_sublist _ _), xs.eraseIdx j, f2.out ⟨o.1, upd_same⟩, pairs_keep f2.tup (pairs_keep w1.tup (L2.Paired.erase j pk))⟩ cm (w1.trans (f2.cons kl)))
    exact (List.perm_cons t').mp (pm2.symm.trans (S.pm.trans (erase_perm hj)))
def spAsked (L : Lk) : Sp := fun vs H Q _ => ∃ r kl c F s ks, vs = [.ref r, .ref kl, .int c] ∧ R2 L H r F s kl ks ∧ s.came < 900 ∧
  ∀ H' F' s' ks', R2 L H' r F' s' kl ks' → s'.came = s.came → Fr (kl :: F) (kl :: F') H H' → Q (.bl true) H'
theorem ok__law_asked (T : Txt K mg L) : FnOk P w K mg base (CXE P w) 46 L.a__law_asked L.d__law_asked ["_law_row", "_law_kept", "_law_coming"] (spAsked L) := by
  refine T.f__law_asked.ok0 sc__law_asked (fun vs H Q E h => ?_) (fun cdv A outer s H vs Q E hr h => ?_)
  · obtain ⟨r, kl, c, F, st, ks, rfl, _⟩ := h
    rfl
  · obtain ⟨r, kl, c, F, st, ks, rfl, S, hc, q⟩ := h
    refine ⟨_, (pss_cons (ps_set (i := 3) sc__law_asked.nd rfl (Or.inl rfl) (pe_un un_neg pe_int))
      (pss_cons (ps_for PassesOwn.never rfl (pi_enum K (by rfl) T.z_enumerate (pa_cons (pv 1) pa_nil)) (pg_tup rfl (pgs_cons (pg_name (i := 4) sc__law_asked.nd rfl (Or.inl rfl)) (pgs_cons (pg_name (i := 5) sc__law_asked.nd rfl (Or.inl rfl)) pgs_nil)))
      (pss_one (ps_if (pt_cmpR op_eq (pe_ix (ix_tupK K) (pv 5) pe_int (fun _ _ => rfl)) (pv 2) (nomark _)) (pss_one (ps_set (i := 3) sc__law_asked.nd rfl (Or.inl rfl) (pv 4))) pss_nil)))
      (pss_cons (ps_if (pt_cmpR op_ge (pv 3) pe_int (nomark _)) (pss_one (ps_ret (pe_and (pe_call (ok__law_is (K := K) T) (hr.mono (by decide)) (by rfl) T.m__law_is T.k__law_is T.b__law_is .nil pass0X (pa_cons (pe_methD (pv 0) (mo_row_number_of (K := K) T) (hr.mono (by decide)) .nil pass0X (pa_cons (pv 2) pa_nil)) (pa_cons (pe_ix (ix_tupK K) (pe_ix (ix_listK K) (pv 1) (pv 3) (fun _ _ => rfl)) pe_int (fun _ _ => rfl)) pa_nil))) (pe_one (pe_call (ok__law_taken (K := K) T) (hr.mono (by decide)) (by rfl) T.m__law_taken T.k__law_taken T.b__law_taken .nil pass0X (pa_cons (pv 0) (pa_cons (pv 1) (pa_cons (pv 3) pa_nil)))))))) pss_nil)
      (pss_one (ps_ret (pe_and (pe_call (ok__law_no_number (K := K) T) (hr.mono (by decide)) (by rfl) T.m__law_no_number T.k__law_no_number T.b__law_no_number .nil pass0X (pa_cons (pv 0) (pa_cons (pv 2) pa_nil))) (pe_one (pe_call (ok__law_no_take (K := K) T) (hr.mono (by decide)) (by rfl) T.m__law_no_take T.k__law_no_take T.b__law_no_take .nil pass0X (pa_cons (pv 0) (pa_cons (pv 2) pa_nil)))))))))), ?_⟩
    refine rd_start (σ := [some _, some _, some _, none, none, none]) rfl ?_
    obtain ⟨xs, o, pk⟩ := S.ex
    have lx := pk.len
    wtm_at "rd"
    refine ⟨kl, rfl, ⟨xs, SqL.of o.2⟩, ?_⟩
    refine for_enum (xs := xs) (fun i σ' H' => Same H H' ∧ ∃ (a : Int) (o1 : Option V) (o2 : Option V), σ' = [some (.ref r), some (.ref kl), some (.int c), some (.int a), o1, o2] ∧ ((a = -1 ∧ ∀ j t, j < i → ks[j]? = some t → t.2 ≠ c) ∨ ∃ (j : Nat) (t : Th), a = ((j : Nat) : Int) ∧ ks[j]? = some t ∧ t.2 = c)) ?_ ?_ ?_ ?_
    · exact ⟨Same.refl _, -1, none, none, rfl, .inl ⟨rfl, fun j t hj => by omega⟩⟩
    · rintro i _ H' _ ⟨s1, _⟩
      exact SqL.of (s1 _ _ o.2)
    · rintro i x _ H' t hx ⟨s1, a, o1, o2, rfl, inv⟩ ht
      obtain ⟨u, hui, ru⟩ := pk.get hx
      have s2 := s1.trans (same_new ht (.tup [V.int (i : Nat), x]))
      refine ⟨t, _, rfl, SqT.of upd_same, rfl, ?_⟩
      refine ⟨_, _, rfl, ?_⟩
      refine ⟨_, _, rfl, rfl, ?_⟩
      wtm_at "rd"
      refine rd_ixP1 (kPair.same s2 ru) ?_
      wtm_at "rd"
      · rename_i z
        exact ⟨s2, _, _, _, rfl, .inr ⟨i, u, rfl, hui, z⟩⟩
      · rename_i z
        refine ⟨s2, a, _, _, rfl, ?_⟩
        rcases inv with ⟨e, h⟩ | h
        · refine .inl ⟨e, fun j v hj hv => ?_⟩
          by_cases hji : j = i
          · subst hji
            rw [hui] at hv; cases hv
            exact z
          · exact h j v (by omega) hv
        · exact .inr h
    · rintro _ H1 ⟨s1, a, o1, o2, rfl, inv⟩
      have S1 := S.same s1
      have f1 : Fr F F H H1 := .of_same s1
      clear s1 o pk
      rcases inv with ⟨e, h⟩ | ⟨j, t, rfl, hj, et⟩
      · subst e
        have hn : ∀ u ∈ st.all, u.2 ≠ c := fun u hu => by
          obtain ⟨j, hj⟩ := List.getElem?_of_mem (S.pm.mem_iff.mp hu)
          exact h j u (by have := (List.getElem?_eq_some_iff.mp hj).1; omega) hj
        wtm_at "rd"
        refine ⟨r, c, F, st, rfl, S1.r, hn, fun H2 F2 R2 f2 => ?_⟩
        wtm_at "rd"
        refine ⟨r, c, F2, st, rfl, R2, hc, hn, fun H3 F3 R3 f3 => ?_⟩
        have f13 := f1.trans (f2.trans f3)
        exact q H3 F3 st ks (S.step R3 f13) rfl (f13.cons kl)
      · have hm : t ∈ st.all := S.pm.mem_iff.mpr (List.mem_of_getElem? hj)
        wtm_at "rd"
        refine use_methR S1.r (by unfold RwM; decide) fun _ => ?_
        wtm_at "rd"
        refine use_rnum S1.r hm et fun H2 F2 R2 f2 => ?_
        have S2 := S1.step R2 f2
        obtain ⟨xs2, o2, pk2⟩ := S2.ex
        wtm_at "rd"
        refine rd_ixLP (SqL.of o2.2) pk2 hj fun x hx => ?_
        wtm_at "rd"
        refine rd_ixP0 hx ?_
        wtm_at "rd"
        refine use_is rfl ?_
        wtm_at "rd"
        refine ⟨r, kl, j, t, F2, st, ks, rfl, S2, hj, hc, fun H3 F3 s3 S3 cm f3 => ?_⟩
        exact q H3 F3 s3 _ S3 cm (((f1.trans f2).cons kl).trans f3)
def spLPut (L : Lk) : Sp := fun vs H Q _ => ∃ r kl n F s ks, vs = [.ref r, .ref kl, .int (s.came : Nat), .int n] ∧ R2 L H r F s kl ks ∧ s.came < 800 ∧
  ∀ H' F' s', R2 L H' r F' s' kl (ks ++ [(n, ((s.came + 1 : Nat) : Int))]) → s'.came = s.came + 1 → Fr (kl :: F) (kl :: F') H H' → Q (.bl true) H'
theorem ok__law_put (T : Txt K mg L) : FnOk P w K mg base (CXE P w) 44 L.a__law_put L.d__law_put ["_law_row", "_law_kept", "_law_came", "_law_number_here"] (spLPut L) := by
  refine T.f__law_put.ok0 sc__law_put (fun vs H Q E h => ?_) (fun cdv A outer s H vs Q E hr h => ?_)
  · obtain ⟨r, kl, n, F, st, ks, rfl, _⟩ := h
    rfl
  · obtain ⟨r, kl, n, F, st, ks, rfl, S, hc, q⟩ := h
    refine ⟨_, (pss_join (ps_if (PW.pt (pw_and (pt_cmpR op_eq (pe_op op_mod (pv 3) pe_int) pe_int (nomark _)) (pw_and1 (pt_not (pt_val (pe_call (ok__law_no_number (K := K) T) (hr.mono (by decide)) (by rfl) T.m__law_no_number T.k__law_no_number T.b__law_no_number .nil pass0X (pa_cons (pv 0) (pa_cons (pe_op op_add (pv 2) pe_int) pa_nil)))))))) (pss_one (ps_ret pe_bl)) pss_nil)
      (pss_cons (ps_expr (pe_bmK K PySem.F.plainAttrs_list PySem.F.slot_list_append PySem.F.type_list_append mt_append (pv 1) (pa_cons (pe_tup (pa_cons (pv 3) (pa_cons (pe_op op_add (pv 2) pe_int) pa_nil))) pa_nil)))
      (pss_one (ps_ret (pe_and (pe_call (ok__law_is (K := K) T) (hr.mono (by decide)) (by rfl) T.m__law_is T.k__law_is T.b__law_is .nil pass0X (pa_cons (pe_methD (pv 0) (mo_row_put (K := K) T) (hr.mono (by decide)) .nil pass0X (pa_cons (pv 3) pa_nil)) (pa_cons (pe_op op_add (pv 2) pe_int) pa_nil))) (pe_one (pe_call (ok__law_is (K := K) T) (hr.mono (by decide)) (by rfl) T.m__law_is T.k__law_is T.b__law_is .nil pass0X (pa_cons (pe_methD (pv 0) (mo_row_number_of (K := K) T) (hr.mono (by decide)) .nil pass0X (pa_cons (pe_op op_add (pv 2) pe_int) pa_nil)) (pa_cons (pv 3) pa_nil))))))))), ?_⟩
    refine rd_start (σ := [some _, some _, some _, some _]) rfl ?_
    have sz : 1000 ≤ sizeLine := by decide
    wtm_at "rd"
    refine rd_join (fun σ' H' => ∃ F', R2 L H' r F' st kl ks ∧ Fr F F' H H' ∧ σ' = [some (.ref r), some (.ref kl), some (.int (st.came : Nat)), some (.int n)]) ?_ ?_
    · wtm_at "rd"
      · refine ⟨r, _, F, st, rfl, S.r, fun u hu eu => ?_, fun H2 F2 R2 f2 => ?_⟩
        · have := S.r.ok.rng u hu
          omega
        wtm_at "rd"
        exact ⟨F2, S.step R2 f2, f2, rfl⟩
      · exact ⟨F, S, .of_same (Same.refl _), rfl⟩
    rintro _ H1 ⟨F1, S1, f1, rfl⟩
    obtain ⟨xs, o, pk⟩ := S1.ex
    have lx := pk.len
    have lk := S1.len
    wtm_at "rd"
    refine ⟨.inl ⟨rfl, xs, SqL.of o.2⟩, ?_⟩
    wtm_at "rd"
    refine ⟨by show 2 ≤ sizeLine; decide, fun t ht => ?_⟩
    have s2 := same_new ht (.tup [V.int n, V.int ((st.came : Int) + 1)])
    have hT : kPair.R (upd H1 t (.tup [V.int n, V.int ((st.came : Int) + 1)])) (.ref t) (n, ((st.came + 1 : Nat) : Int)) := kPair_of upd_same
    have o2 := s2.out o
    have pk2 := pairs_keep s2.tup pk
    have R2' := S1.r.same s2
    have f2 := f1.trans (.of_same (F := F1) s2)
    generalize upd H1 t (.tup [V.int n, V.int ((st.came : Int) + 1)]) = H2 at *
    wtm_at "rd"
    refine ⟨kl, xs, .ref t, rfl, rfl, o2.2, by omega, ?_⟩
    have w3 : Fr (kl :: F1) (kl :: F1) H2 (upd H2 kl (.lst (xs ++ [.ref t]))) := .write (by simp) o2.2
    have R3 : RRep L (upd H2 kl (.lst (xs ++ [.ref t]))) r F1 st := R2'.keep (fun c o' hc' q' => by rw [upd_ne (fun e => o2.1 (by rw [← e]; exact hc'))]; exact q') w3.tup
    have pk3 := (pairs_keep w3.tup pk2).app (.cons (pairs_tup w3.tup hT) .nil)
    have o3 : Out F1 (upd H2 kl (.lst (xs ++ [.ref t]))) kl (.lst (xs ++ [.ref t])) := ⟨o2.1, upd_same⟩
    have f3 := (f2.cons kl).trans w3
    generalize upd H2 kl (.lst (xs ++ [.ref t])) = H3 at *
    wtm_at "rd"
    refine use_methR R3 (by unfold RwM; decide) fun _ => ?_
    wtm_at "rd"
    refine ⟨r, n, F1, st, rfl, R3, by omega, fun H4 F4 s4 R4 f4 _ _ cm pm4 _ _ => ?_⟩
    wtm_at "rd"
    refine use_is rfl ?_
    wtm_at "rd"
    refine use_methR R4 (by unfold RwM; decide) fun _ => ?_
    wtm_at "rd"
    have hm : (n, ((st.came + 1 : Nat) : Int)) ∈ s4.all := pm4.mem_iff.mpr (by simp)
    refine use_rnum R4 hm rfl fun H5 F5 R5 f5 => ?_
    wtm_at "rd"
    refine use_is rfl (q H5 F5 s4 ⟨R5, pm4.trans ((S.pm.cons _).trans (List.perm_append_singleton _ _).symm), ?_, _, f5.out (f4.out o3), pairs_keep f5.tup (pairs_keep f4.tup pk3)⟩ cm (f3.trans ((f4.trans f5).cons kl)))
    refine List.pairwise_append.mpr ⟨S.srt, by simp, fun u hu v hv => ?_⟩
    have e : v = (n, ((st.came + 1 : Nat) : Int)) := by simpa using hv
    have := S.r.ok.rng u (S.pm.mem_iff.mpr hu)
    rw [e]
    show u.2 < ((st.came + 1 : Nat) : Int)
    omega
end
end K05

set_option Elab.async false
set_option linter.all false
set_option maxRecDepth 100000
set_option maxHeartbeats 4000000

namespace K05
open PySem L2 Hm
section
variable {P : Program} {w : World} {K : PySem.W.Frag} {mg : Str → Option Value} {base : Heap} {L : Lk}
def spLaw (K : PySem.W.Frag) : Sp := fun vs H Q _ => ∃ (a : Addr) (ns : List Int), vs = [.ref a] ∧ SqL K H a (ns.map V.int) ∧ ns.length ≤ 63 ∧ ∀ H', Q (.bl true) H'
/-- two rows beside each other -/
structure G5 (L : Lk) (H : Hp) (r kl : Bool → Addr) (F : Bool → List Addr) (s : Bool → RSt) (ks : Bool → List Th) : Prop where
  each : ∀ b, R2 L H (r b) (F b) (s b) (kl b) (ks b)
  sep : ∀ b x, x ∈ kl b :: F b → x ∉ kl (!b) :: F (!b)
def Out2 (H : Hp) (kl : Bool → Addr) (F : Bool → List Addr) (x : Addr) (o : HO) : Prop := ∀ b, Out (kl b :: F b) H x o
def put2 {α : Type} (f : Bool → α) (b : Bool) (x : α) : Bool → α := fun c => if c = b then x else f c
theorem put2_at {α : Type} (f : Bool → α) (b : Bool) (x : α) : put2 f b x b = x := by simp [put2]
theorem put2_no {α : Type} (f : Bool → α) (b : Bool) (x : α) : put2 f b x (!b) = f (!b) := by cases b <;> simp [put2]
theorem not_of {b c : Bool} (h : c ≠ b) : c = !b := by cases b <;> cases c <;> simp_all
theorem R2.dom {H : Hp} {r kl : Addr} {F : List Addr} {s : RSt} {ks : List Th} (S : R2 L H r F s kl ks) : ∀ x ∈ kl :: F, H x ≠ none := fun x hx => by
  obtain ⟨xs, o, pk⟩ := S.ex
  rcases List.mem_cons.mp hx with rfl | hx
  · rw [o.2]; simp
  · exact S.r.dom x hx
theorem R2.keep {H H' : Hp} {r kl : Addr} {F : List Addr} {s : RSt} {ks : List Th} (S : R2 L H r F s kl ks) (h : ∀ x o, x ∈ kl :: F → H x = some o → H' x = some o) (ht : ∀ b xs, H b = some (.tup xs) → H' b = some (.tup xs)) : R2 L H' r F s kl ks := by
  obtain ⟨xs, o, pk⟩ := S.ex
  exact ⟨S.r.keep (fun b o hb q => h b o (List.mem_cons_of_mem _ hb) q) ht, S.pm, S.srt, xs, ⟨o.1, h _ _ List.mem_cons_self o.2⟩, pairs_keep ht pk⟩
theorem G5.step {H H' : Hp} {r kl : Bool → Addr} {F : Bool → List Addr} {s : Bool → RSt} {ks : Bool → List Th} (g : G5 L H r kl F s ks) {b : Bool} {F' : List Addr} {s' : RSt} {ks' : List Th} (S : R2 L H' (r b) F' s' (kl b) ks') (f : Fr (kl b :: F b) (kl b :: F') H H') :
    G5 L H' r kl (put2 F b F') (put2 s b s') (put2 ks b ks') := by
  have gr : ∀ x, x ∈ kl b :: F' → x ∉ kl (!b) :: F (!b) := fun x hx hy => by
    rcases f.grow x hx with z | z
    · exact g.sep b x z hy
    · exact (g.each (!b)).dom x hy z
  refine ⟨fun c => ?_, fun c x hx => ?_⟩
  · by_cases e : c = b
    · subst e
      rw [put2_at, put2_at, put2_at]; exact S
    · obtain rfl := not_of e
      rw [put2_no, put2_no, put2_no]
      exact (g.each (!b)).keep (fun x o hx q => f.keep x o (fun z => g.sep b x z hx) q) f.tup
  · by_cases e : c = b
    · subst e
      rw [put2_at] at hx
      rw [put2_no]
      exact gr x hx
    · obtain rfl := not_of e
      rw [put2_no] at hx
      rw [Bool.not_not, put2_at]
      exact fun z => gr x z hx
theorem Out2.step {H H' : Hp} {kl : Bool → Addr} {F : Bool → List Addr} {x : Addr} {o : HO} (h : Out2 H kl F x o) {b : Bool} {F' : List Addr} (f : Fr (kl b :: F b) (kl b :: F') H H') : Out2 H' kl (put2 F b F') x o := fun c => by
  by_cases e : c = b
  · subst e
    rw [put2_at]; exact f.out (h c)
  · obtain rfl := not_of e
    rw [put2_no]
    exact ⟨(h (!b)).1, f.keep _ _ (h b).1 (h b).2⟩
theorem Out2.same {H H' : Hp} {kl : Bool → Addr} {F : Bool → List Addr} {x : Addr} {o : HO} (h : Out2 H kl F x o) (s : Same H H') : Out2 H' kl F x o := fun b => s.out (h b)
theorem G5.same {H H' : Hp} {r kl : Bool → Addr} {F : Bool → List Addr} {s : Bool → RSt} {ks : Bool → List Th} (g : G5 L H r kl F s ks) (e : Same H H') : G5 L H' r kl F s ks := ⟨fun b => (g.each b).same e, g.sep⟩
theorem G5.new {H : Hp} {r kl : Bool → Addr} {F : Bool → List Addr} {s : Bool → RSt} {ks : Bool → List Th} {x : Addr} {o : HO} (g : G5 L H r kl F s ks) (h : H x = none) : Out2 (upd H x o) kl F x o := fun b => out_new (g.each b).dom h
theorem G5.upd {H : Hp} {r kl : Bool → Addr} {F : Bool → List Addr} {s : Bool → RSt} {ks : Bool → List Th} {x : Addr} {xs ys : List V} (g : G5 L H r kl F s ks) (h : Out2 H kl F x (.lst xs)) : G5 L (upd H x (.lst ys)) r kl F s ks :=
  ⟨fun b => (g.each b).keep (fun y o hy q => by rw [upd_ne (fun e => (h b).1 (by rw [← e]; exact hy))]; exact q) (fun c zs q => by rw [upd_ne (ne_of q (h b).2 (by simp))]; exact q), g.sep⟩
theorem Out2.upd {H : Hp} {kl : Bool → Addr} {F : Bool → List Addr} {x y : Addr} {o u : HO} (h : Out2 H kl F x o) (ne : x ≠ y) : Out2 (L2.upd H y u) kl F x o := fun b => ⟨(h b).1, by rw [upd_ne ne]; exact (h b).2⟩
theorem use_rinit {H : Hp} {p w : Int} {Q : Addr → Hp → Prop} {E : XK} (hw : w < 2 ^ 250) (hs : Share p w) (q : ∀ x F H2, RRep L H2 x F ⟨p, w, 0, [], []⟩ → Fr [] F H H2 → Q x H2) : ∀ x dx, H x = none → H dx = none → dx ≠ x →
    spRInit L [.ref x, .int p, .int w] (upd (upd H dx (.own x)) x (.ins L.Midrow dx [])) (fun v H2 => v = .non ∧ Q x H2) E := by
  intro x dx hx hdx hne
  refine ⟨x, dx, p, w, rfl, upd_same, by rw [upd_ne hne]; exact upd_same, hw, fun _ H2 F R k g => ⟨rfl, q x F H2 R ?_⟩, fun h => absurd hs h⟩
  have keep : ∀ b o, H b = some o → H2 b = some o := fun b o hb => k b o (ne_of_none hb hx) (by rw [upd_ne (ne_of_none hb hx), upd_ne (ne_of_none hb hdx)]; exact hb)
  refine ⟨fun b o _ hb => keep b o hb, fun b xs hb => keep b _ hb, fun b hb => .inr ?_⟩
  rcases g b hb with rfl | rfl | h
  · exact hx
  · exact hdx
  · by_cases e1 : b = x
    · rw [e1]; exact hx
    · by_cases e2 : b = dx
      · rw [e2]; exact hdx
      · rw [upd_ne e1, upd_ne e2] at h; exact h
theorem ok_law (T : Txt K mg L) : FnOk P w K mg base (CXE P w) 60 L.a_law L.d_law ["_law_script"] (spLaw K) := by
  refine T.f_law.ok0 sc_law (fun vs H Q E h => ?_) (fun cdv A outer s H vs Q E hr h => ?_)
  · obtain ⟨a, ns, rfl, _⟩ := h
    rfl
  · obtain ⟨a, ns, rfl, hS, hlen, k⟩ := h
    refine ⟨_, (pss_cons (ps_set (i := 1) sc_law.nd rfl (Or.inl rfl) (pe_op op_add pe_int (pe_op op_mod (pe_call (ok__law_at (K := K) T) (hr.mono (by decide)) (by rfl) T.m__law_at T.k__law_at T.b__law_at .nil pass0X (pa_cons (pv 0) (pa_cons pe_int pa_nil))) pe_int)))
      (pss_cons (ps_set (i := 2) sc_law.nd rfl (Or.inl rfl) (pe_lst (pa_cons (pe_make0 T.mk_Midrow (ok_Midrow___init__ (K := K) T) (hr.mono (by decide)) (by rfl) T.m_Midrow T.b_Midrow___init___2 T.v_Midrow___init___2 pass0X) (pa_cons (pe_make T.mk_Midrow (ok_Midrow___init__ (K := K) T) (hr.mono (by decide)) (by rfl) T.m_Midrow T.b_Midrow___init__ .nil pass0X (pa_cons (pe_op op_mod (pe_op op_fdivB (pe_call (ok__law_at (K := K) T) (hr.mono (by decide)) (by rfl) T.m__law_at T.k__law_at T.b__law_at .nil pass0X (pa_cons (pv 0) (pa_cons pe_int pa_nil))) pe_int) (pe_op op_add (pv 1) pe_int)) (pa_cons (pv 1) pa_nil))) pa_nil))))
      (pss_cons (ps_set (i := 3) sc_law.nd rfl (Or.inl rfl) (pe_lst (pa_cons (pe_lst pa_nil) (pa_cons (pe_lst pa_nil) pa_nil))))
      (pss_cons (ps_set (i := 4) sc_law.nd rfl (Or.inl rfl) (pe_lst (pa_cons pe_int (pa_cons pe_int pa_nil))))
      (pss_cons (ps_for PassesOwn.never rfl (pi_listK K (pe_slice (sl_listK K) (pv 0) (po_some pe_int) (po_some pe_int))) (pg_name (i := 5) sc_law.nd rfl (Or.inl rfl))
      (pss_cons (ps_set (i := 6) sc_law.nd rfl (Or.inl rfl) (pe_op op_mod (pe_op op_fdivB (pv 5) pe_int) pe_int))
      (pss_cons (ps_set (i := 7) sc_law.nd rfl (Or.inl rfl) (pe_op op_mod (pv 5) pe_int))
      (pss_cons (ps_set (i := 8) sc_law.nd rfl (Or.inl rfl) (pe_op op_fdivB (pv 5) pe_int))
      (pss_cons (ps_set (i := 9) sc_law.nd rfl (Or.inl rfl) pe_bl)
      (pss_join (ps_if (pt_cmpR op_lt (pv 7) pe_int (nomark _)) (pss_cons (ps_set (i := 9) sc_law.nd rfl (Or.inl rfl) (pe_call (ok__law_put (K := K) T) (hr.mono (by decide)) (by rfl) T.m__law_put T.k__law_put T.b__law_put .nil pass0X (pa_cons (pe_ix (ix_listK K) (pv 2) (pv 6) (fun _ _ => rfl)) (pa_cons (pe_ix (ix_listK K) (pv 3) (pv 6) (fun _ _ => rfl)) (pa_cons (pe_ix (ix_listK K) (pv 4) (pv 6) (fun _ _ => rfl)) (pa_cons (pe_call (ok__law_number (K := K) T) (hr.mono (by decide)) (by rfl) T.m__law_number T.k__law_number T.b__law_number .nil pass0X (pa_cons (pv 8) pa_nil)) pa_nil))))))
      (pss_one (ps_asg (pe_op op_add (pe_ix (ix_listK K) (pv 4) (pv 6) (fun _ _ => rfl)) pe_int) (pg_sub (pv 4) (pv 6) set_list)))) (pss_one (ps_if (PW.pt (pw_and (pt_cmpR op_lt (pv 7) pe_int (nomark _)) (pw_and1 (pt_cmpR (op_neL kPair (hu_k hr (by decide))) (pe_ix (ix_listK K) (pv 3) (pv 6) (fun _ _ => rfl)) (pe_lst pa_nil) (nomark _))))) (pss_one (ps_set (i := 9) sc_law.nd rfl (Or.inl rfl) (pe_call (ok__law_taken (K := K) T) (hr.mono (by decide)) (by rfl) T.m__law_taken T.k__law_taken T.b__law_taken .nil pass0X (pa_cons (pe_ix (ix_listK K) (pv 2) (pv 6) (fun _ _ => rfl)) (pa_cons (pe_ix (ix_listK K) (pv 3) (pv 6) (fun _ _ => rfl)) (pa_cons (pe_op op_mod (pv 8) (pe_callB (call_lenK K) (by rfl) T.z_len bt_len (pa_cons (pe_ix (ix_listK K) (pv 3) (pv 6) (fun _ _ => rfl)) pa_nil))) pa_nil)))))) (pss_one (ps_if (pt_cmpR op_eq (pv 7) pe_int (nomark _)) (pss_cons (ps_set (i := 10) sc_law.nd rfl (Or.inl rfl) (pe_op op_mulB (pe_op op_add (pe_op op_mod (pv 8) (pe_powc (v := 10 ^ 59) rfl (by decide))) pe_int) (pe_op op_sub pe_int (pe_op op_mulB pe_int (pe_op op_mod (pe_op op_fdivB (pv 8) pe_int) pe_int)))))
      (pss_one (ps_set (i := 9) sc_law.nd rfl (Or.inl rfl) (pe_and (pe_call (ok__law_no_number (K := K) T) (hr.mono (by decide)) (by rfl) T.m__law_no_number T.k__law_no_number T.b__law_no_number .nil pass0X (pa_cons (pe_ix (ix_listK K) (pv 2) (pv 6) (fun _ _ => rfl)) (pa_cons (pv 10) pa_nil))) (pe_one (pe_call (ok__law_no_take (K := K) T) (hr.mono (by decide)) (by rfl) T.m__law_no_take T.k__law_no_take T.b__law_no_take .nil pass0X (pa_cons (pe_ix (ix_listK K) (pv 2) (pv 6) (fun _ _ => rfl)) (pa_cons (pv 10) pa_nil)))))))) (pss_one (ps_set (i := 9) sc_law.nd rfl (Or.inl rfl) (pe_call (ok__law_asked (K := K) T) (hr.mono (by decide)) (by rfl) T.m__law_asked T.k__law_asked T.b__law_asked .nil pass0X (pa_cons (pe_ix (ix_listK K) (pv 2) (pv 6) (fun _ _ => rfl)) (pa_cons (pe_ix (ix_listK K) (pv 3) (pv 6) (fun _ _ => rfl)) (pa_cons (pe_op op_sub (pe_op op_mod (pv 8) (pe_op op_add (pe_ix (ix_listK K) (pv 4) (pv 6) (fun _ _ => rfl)) pe_int)) pe_int) pa_nil)))))))))))
      (pss_one (ps_if (PW.pt (pw_or (pt_not (pt_val (pv 9))) (pw_or (pt_not (pt_val (pe_call (ok__law_look (K := K) T) (hr.mono (by decide)) (by rfl) T.m__law_look T.k__law_look T.b__law_look .nil pass0X (pa_cons (pe_ix (ix_listK K) (pv 2) (pv 6) (fun _ _ => rfl)) (pa_cons (pe_ix (ix_listK K) (pv 3) (pv 6) (fun _ _ => rfl)) (pa_cons (pv 8) pa_nil)))))) (pw_or1 (pt_not (pt_val (pe_call (ok__law_look (K := K) T) (hr.mono (by decide)) (by rfl) T.m__law_look T.k__law_look T.b__law_look .nil pass0X (pa_cons (pe_ix (ix_listK K) (pv 2) (pe_op op_sub pe_int (pv 6)) (fun _ _ => rfl)) (pa_cons (pe_ix (ix_listK K) (pv 3) (pe_op op_sub pe_int (pv 6)) (fun _ _ => rfl)) (pa_cons (pe_op op_fdivB (pv 8) pe_int) pa_nil)))))))))) (pss_one (ps_ret pe_bl)) pss_nil))))))))
      (pss_one (ps_ret pe_bl))))))), ?_⟩
    refine rd_start (σ := [some _, none, none, none, none, none, none, none, none, none, none]) rfl ?_
    have sz : 1000 ≤ sizeLine := by decide
    wtm_at "rd"
    refine use_at hS (by decide) ?_
    wtm_at "rd"
    refine use_rinit (L := L) (by decide) ⟨by decide, by decide, by decide⟩ fun r0 F0 H0 R0 f0 => ?_
    have S0 := (Scr.of hS).fr f0
    wtm_at "rd"
    refine use_at S0.sq (by decide) ?_
    wtm_at "rd"
    have q0 := Int.emod_nonneg (cell ns 0 / 9) (show 1 + cell ns 0 % 9 + 1 ≠ 0 by omega)
    have q1 := Int.emod_lt_of_pos (cell ns 0 / 9) (show 0 < 1 + cell ns 0 % 9 + 1 by omega)
    refine use_rinit (L := L) (by omega) ⟨by omega, by omega, by omega⟩ fun r1 F1 H1 R1 f1 => ?_
    clear q0 q1
    wtm_at "rd"
    refine ⟨by show 2 ≤ sizeLine; decide, fun rl hrl => ?_⟩
    wtm_at "rd"
    have s01 : Same H0 H1 := fun b o h => f1.keep b o (by simp) h
    have s2 := same_new hrl (.lst [V.ref r0, V.ref r1])
    have R02 := (R0.same s01).same s2
    have R12 := R1.same s2
    have or : ∀ b ∈ F0 ++ F1, b ≠ rl := fun b hb e => by
      rcases List.mem_append.mp hb with z | z
      · exact (R0.same s01).dom b z (by rw [e]; exact hrl)
      · exact R1.dom b z (by rw [e]; exact hrl)
    have sp01 : ∀ x, x ∈ F0 → x ∉ F1 := fun x h0 h1 => (f1.grow x h1).elim (fun z => by cases z) fun z => R0.dom x h0 z
    have hrl2 : (upd H1 rl (.lst [V.ref r0, V.ref r1])) rl = some (.lst [V.ref r0, V.ref r1]) := upd_same
    have S2 := (S0.fr (.of_same s01)).fr (.of_same s2)
    clear R0 R1 f0 f1 S0 hrl
    generalize upd H1 rl (.lst [V.ref r0, V.ref r1]) = H2 at *
    wtm_at "rd"
    refine ⟨by show 0 ≤ sizeLine; decide, fun k0 hk0 => ?_⟩
    have s3 := same_new hk0 (.lst [])
    wtm_at "rd"
    refine ⟨by show 0 ≤ sizeLine; decide, fun k1 hk1 => ?_⟩
    have s4 := same_new hk1 (.lst [])
    have s24 := s3.trans s4
    have nk : k0 ≠ k1 := ne_of_none (H := upd H2 k0 (.lst [])) upd_same hk1
    have nk0 : ∀ b ∈ F0 ++ F1, b ≠ k0 := fun b hb e => by
      rcases List.mem_append.mp hb with z | z
      · exact R02.dom b z (by rw [e]; exact hk0)
      · exact R12.dom b z (by rw [e]; exact hk0)
    have nk1 : ∀ b ∈ F0 ++ F1, b ≠ k1 := fun b hb e => by
      rcases List.mem_append.mp hb with z | z
      · exact (R02.same s3).dom b z (by rw [e]; exact hk1)
      · exact (R12.same s3).dom b z (by rw [e]; exact hk1)
    have nr0 : rl ≠ k0 := ne_of_none hrl2 hk0
    have nr1 : rl ≠ k1 := ne_of_none (s3 _ _ hrl2) hk1
    have g4 : G5 L (upd (upd H2 k0 (.lst [])) k1 (.lst [])) (fun b => if b = true then r1 else r0) (fun b => if b = true then k1 else k0) (fun b => if b = true then F1 else F0) (fun b => if b = true then ⟨cell ns 0 / 9 % (1 + cell ns 0 % 9 + 1), 1 + cell ns 0 % 9, 0, [], []⟩ else ⟨1, 2, 0, [], []⟩) (fun _ => []) := by
      refine ⟨fun b => ?_, fun b x hx => ?_⟩
      · cases b
        · exact ⟨R02.same s24, .nil, .nil, [], ⟨fun z => nk0 _ (List.mem_append_left _ z) rfl, s4 _ _ upd_same⟩, .nil⟩
        · exact ⟨R12.same s24, .nil, .nil, [], ⟨fun z => nk1 _ (List.mem_append_right _ z) rfl, upd_same⟩, .nil⟩
      · cases b
        · intro hy
          rcases List.mem_cons.mp hx with rfl | hx <;> rcases List.mem_cons.mp hy with e | hy
          · exact nk e
          · exact nk0 _ (List.mem_append_right _ hy) rfl
          · exact nk1 _ (List.mem_append_left _ hx) e
          · exact sp01 x hx hy
        · intro hy
          rcases List.mem_cons.mp hx with rfl | hx <;> rcases List.mem_cons.mp hy with e | hy
          · exact nk e.symm
          · exact nk1 _ (List.mem_append_left _ hy) rfl
          · exact nk0 _ (List.mem_append_right _ hx) e
          · exact sp01 x hy hx
    have o4 : Out2 (upd (upd H2 k0 (.lst [])) k1 (.lst [])) (fun b => if b = true then k1 else k0) (fun b => if b = true then F1 else F0) rl (.lst [V.ref r0, V.ref r1]) := fun b => by
      cases b
      · exact ⟨fun z => (List.mem_cons.mp z).elim nr0 fun z => or _ (List.mem_append_left _ z) rfl, s24 _ _ hrl2⟩
      · exact ⟨fun z => (List.mem_cons.mp z).elim nr1 fun z => or _ (List.mem_append_right _ z) rfl, s24 _ _ hrl2⟩
    have S4 := S2.fr (.of_same s24)
    clear R02 R12 S2 hk0 hk1 hrl2
    generalize upd (upd H2 k0 (.lst [])) k1 (.lst []) = H4 at *
    wtm_at "rd"
    refine ⟨by show 2 ≤ sizeLine; decide, fun kk hkk => ?_⟩
    have s5 := same_new hkk (.lst [V.ref k0, V.ref k1])
    have ok5 : Out2 _ _ _ kk (.lst [V.ref k0, V.ref k1]) := g4.new hkk
    have g5 := g4.same s5
    have or5 := o4.same s5
    have S5 := S4.fr (.of_same s5)
    generalize upd H4 kk (.lst [V.ref k0, V.ref k1]) = H5 at *
    wtm_at "rd"
    refine ⟨by show 2 ≤ sizeLine; decide, fun cl hcl => ?_⟩
    have s6 := same_new hcl (.lst [V.int 0, V.int 0])
    have oc6 : Out2 _ _ _ cl (.lst [V.int 0, V.int 0]) := g5.new hcl
    have g6 := g5.same s6
    have or6 := or5.same s6
    have ok6 := ok5.same s6
    have S6 := S5.fr (.of_same s6)
    have n1 : rl ≠ cl := ne_of_none (or5 true).2 hcl
    have n2 : kk ≠ cl := ne_of_none (ok5 true).2 hcl
    clear g5 or5 ok5 S5 g4 o4 S4 s5 s6 hcl hkk
    generalize upd H5 cl (.lst [V.int 0, V.int 0]) = H6 at *
    wtm_at "rd"
    refine ⟨_, rfl, _, rfl, _, rfl, a, _, rfl, S6.sq, fun sl hsl => ?_⟩
    obtain ⟨ms, ems, lms⟩ := cutV_ints ns (some 1) (some 401)
    rw [ems]
    have s7 := same_new hsl (.lst (ms.map V.int))
    have os7 : Out2 _ _ _ sl (.lst (ms.map V.int)) := g6.new hsl
    have g7 := g6.same s7
    have or7 := or6.same s7
    have ok7 := ok6.same s7
    have oc7 := oc6.same s7
    have n3 : cl ≠ sl := ne_of_none (oc6 true).2 hsl
    clear g6 or6 ok6 oc6 S6 s7 hsl
    generalize upd H6 sl (.lst (ms.map V.int)) = H7 at *
    generalize hr' : (fun b : Bool => if b = true then r1 else r0) = r at *
    generalize hk' : (fun b : Bool => if b = true then k1 else k0) = kl at *
    have er : [V.ref r0, V.ref r1] = [V.ref (r false), V.ref (r true)] := by rw [← hr']; rfl
    have ek : [V.ref k0, V.ref k1] = [V.ref (kl false), V.ref (kl true)] := by rw [← hk']; rfl
    rw [er] at or7
    rw [ek] at ok7
    wtm_at "rd"
    refine ⟨sl, rfl, ⟨_, SqL.of (os7 true).2⟩, ?_⟩
    refine for_list (xs := ms.map V.int) (fun i σ' H' => ∃ F s ks o1 o2 o3 o4 o5 o6, σ' = [some (.ref a), some (.int (1 + cell ns 0 % 9)), some (.ref rl), some (.ref kk), some (.ref cl), o1, o2, o3, o4, o5, o6] ∧ G5 L H' r kl F s ks ∧ Out2 H' kl F rl (.lst [V.ref (r false), V.ref (r true)]) ∧ Out2 H' kl F kk (.lst [V.ref (kl false), V.ref (kl true)]) ∧
      Out2 H' kl F cl (.lst [V.int ((s false).came : Nat), V.int ((s true).came : Nat)]) ∧ Out2 H' kl F sl (.lst (ms.map V.int)) ∧ ∀ b, (s b).came ≤ i) ?_ ?_ ?_ ?_
    · exact ⟨_, _, _, none, none, none, none, none, none, rfl, g7, or7, ok7, oc7, os7, fun b => by cases b <;> exact Nat.le_refl _⟩
    · rintro i _ H' _ ⟨F, s, ks, o1, o2, o3, o4, o5, o6, _, _, _, _, _, os, _⟩
      exact SqL.of (os true).2
    · rintro i x _ H' hx ⟨F, s, ks, o1, o2, o3, o4, o5, o6, rfl, g, or, ok, oc, os, cm⟩
      obtain ⟨c, rfl, hci⟩ := map_get hx
      have i63 : i < 63 := by
        have := (List.getElem?_eq_some_iff.mp hci).1
        omega
      obtain ⟨ah, eah⟩ : ∃ x, x = c / 8 % 2 := ⟨_, rfl⟩
      obtain ⟨wy, ewy⟩ : ∃ x, x = c % 8 := ⟨_, rfl⟩
      obtain ⟨ld, eld⟩ : ∃ x, x = c / 16 := ⟨_, rfl⟩
      have w0 : 0 ≤ wy := by omega
      have w7 : wy ≤ 7 := by omega
      obtain ⟨b, sel, sel'⟩ : ∃ b : Bool, (∀ f : Bool → V, atI [f false, f true] ah = some (f b)) ∧ (∀ f : Bool → V, atI [f false, f true] (1 - ah) = some (f (!b))) := by
        have : ah = 0 ∨ ah = 1 := by omega
        rcases this with e | e
        · exact ⟨false, fun f => by rw [e]; rfl, fun f => by rw [e]; rfl⟩
        · exact ⟨true, fun f => by rw [e]; rfl, fun f => by rw [e]; rfl⟩
      have sel3 : ∀ (f : Bool → V) (x : V), ∃ j, ixN [f false, f true].length ah = some j ∧ [f false, f true].set j x = [put2 f b x false, put2 f b x true] := by
        have : ah = 0 ∨ ah = 1 := by omega
        have hb := sel fun d => .bl d
        rcases this with e | e
        · have eb : b = false := by rw [e] at hb; simpa [atI, ixN] using hb.symm
          intro f x
          exact ⟨0, by rw [e]; rfl, by rw [eb]; rfl⟩
        · have eb : b = true := by rw [e] at hb; simpa [atI, ixN] using hb.symm
          intro f x
          exact ⟨1, by rw [e]; rfl, by rw [eb]; rfl⟩
      have rdr : ∀ {H1 : Hp} {F1 : Bool → List Addr} {Q1 : VK}, Out2 H1 kl F1 rl (.lst [V.ref (r false), V.ref (r true)]) → Q1 (.ref (r b)) H1 → rIxL K (.ref rl) (.int ah) H1 Q1 := fun o q => rd_ixL (SqL.of (o true).2) (sel fun b => .ref (r b)) q
      have rdk : ∀ {H1 : Hp} {F1 : Bool → List Addr} {Q1 : VK}, Out2 H1 kl F1 kk (.lst [V.ref (kl false), V.ref (kl true)]) → Q1 (.ref (kl b)) H1 → rIxL K (.ref kk) (.int ah) H1 Q1 := fun o q => rd_ixL (SqL.of (o true).2) (sel fun b => .ref (kl b)) q
      have rdc : ∀ {H1 : Hp} {F1 : Bool → List Addr} {s1 : Bool → RSt} {Q1 : VK}, Out2 H1 kl F1 cl (.lst [V.int ((s1 false).came : Nat), V.int ((s1 true).came : Nat)]) → Q1 (.int ((s1 b).came : Nat)) H1 → rIxL K (.ref cl) (.int ah) H1 Q1 := fun {H1 F1 s1 Q1} o q => rd_ixL (SqL.of (o true).2) (sel fun b => .int ((s1 b).came : Nat)) q
      have cb := cm b
      wtm_at "rd"
      rw [← eah, ← ewy, ← eld]
      refine rd_join (fun σ' H' => ∃ F s ks o, σ' = [some (.ref a), some (.int (1 + cell ns 0 % 9)), some (.ref rl), some (.ref kk), some (.ref cl), some (.int c), some (.int ah), some (.int wy), some (.int ld), some (.bl true), o] ∧ G5 L H' r kl F s ks ∧ Out2 H' kl F rl (.lst [V.ref (r false), V.ref (r true)]) ∧ Out2 H' kl F kk (.lst [V.ref (kl false), V.ref (kl true)]) ∧
        Out2 H' kl F cl (.lst [V.int ((s false).came : Nat), V.int ((s true).came : Nat)]) ∧ Out2 H' kl F sl (.lst (ms.map V.int)) ∧ ∀ b, (s b).came ≤ i + 1) ?_ ?_
      · have put2_came : ∀ {s' : RSt}, s'.came = (s b).came → [V.int ((put2 s b s' false).came : Nat), V.int ((put2 s b s' true).came : Nat)] = [V.int ((s false).came : Nat), V.int ((s true).came : Nat)] ∧ ∀ d, (put2 s b s' d).came ≤ i + 1 := by
          intro s' e
          have k1 : ∀ d, (put2 s b s' d).came = (s d).came := fun d => by
            by_cases h : d = b
            · rw [h, put2_at]; exact e
            · obtain rfl := not_of h
              rw [put2_no]
          exact ⟨by rw [k1, k1], fun d => by rw [k1]; have := cm d; omega⟩
        have ask : ∀ {Q1 : VK} {E1 : XK} {v : Int} {H1 : Hp}, Same H' H1 → (∀ H2 F2 s2 ks2, G5 L H2 r kl F2 s2 ks2 → Out2 H2 kl F2 rl (.lst [V.ref (r false), V.ref (r true)]) → Out2 H2 kl F2 kk (.lst [V.ref (kl false), V.ref (kl true)]) → Out2 H2 kl F2 cl (.lst [V.int ((s2 false).came : Nat), V.int ((s2 true).came : Nat)]) → Out2 H2 kl F2 sl (.lst (ms.map V.int)) → (∀ d, (s2 d).came ≤ i + 1) → Q1 (.bl true) H2) →
            spAsked L ([.ref (r b), .ref (kl b), .int v] ++ []) H1 Q1 E1 := by
          intro Q1 E1 v H1 s1 q1
          refine ⟨r b, kl b, v, F b, s b, ks b, rfl, (g.each b).same s1, by omega, fun H2 F2 s2 ks2 S2 e2 f2 => ?_⟩
          have f12 := (Fr.of_same (F := kl b :: F b) s1).trans f2
          obtain ⟨z1, z2⟩ := put2_came e2
          exact q1 H2 _ _ _ (g.step S2 f12) (or.step f12) (ok.step f12) (by rw [z1]; exact oc.step f12) (os.step f12) z2
        wtm_at "rd"
        · refine rdr or ?_
          wtm_at "rd"
          refine rdk ok ?_
          wtm_at "rd"
          refine rdc oc ?_
          wtm_at "rd"
          refine use_number fun n _ _ => ?_
          wtm_at "rd"
          refine ⟨r b, kl b, n, F b, s b, ks b, rfl, g.each b, by omega, fun H2 F2 s2 S2 e2 f2 => ?_⟩
          have g2 := g.step S2 f2
          have or2 := or.step f2
          have ok2 := ok.step f2
          have oc2 := oc.step f2
          have os2 := os.step f2
          wtm_at "rd"
          refine rdc oc2 ?_
          wtm_at "rd"
          obtain ⟨j3, x3, l3⟩ := sel3 (fun d => .int ((s d).came : Nat)) (.int (((s b).came : Int) + 1))
          refine ⟨cl, _, ah, j3, rfl, rfl, (oc2 true).2, x3, ?_⟩
          rw [l3]
          have ll : [put2 (fun d => V.int ((s d).came : Nat)) b (.int (((s b).came : Int) + 1)) false, put2 (fun d => V.int ((s d).came : Nat)) b (.int (((s b).came : Int) + 1)) true] = [V.int ((put2 s b s2 false).came : Nat), V.int ((put2 s b s2 true).came : Nat)] := by
            cases b <;> simp [put2, e2]
          rw [ll]
          have cm2 : ∀ d, (put2 s b s2 d).came ≤ i + 1 := fun d => by
            by_cases h : d = b
            · rw [h, put2_at]; omega
            · obtain rfl := not_of h
              rw [put2_no]; have := cm (!b); omega
          wtm_at "rd"
          exact ⟨_, _, _, _, rfl, g2.upd oc2, or2.upd n1, ok2.upd n2, fun d => ⟨(oc2 d).1, upd_same⟩, os2.upd (Ne.symm n3), cm2⟩
        · refine rdk ok ?_
          wtm_at "rd"
          refine ⟨by show 0 ≤ sizeLine; decide, fun e he => ?_⟩
          have s1 := same_new he (.lst [])
          obtain ⟨xs, ox, pk⟩ := ((g.each b).same s1).ex
          wtm_at "rd"
          refine rd_neN ox.2 pk upd_same (fun z => ?_) (fun z => ?_)
          · wtm_at "rd"
            refine rdr (or.same s1) ?_
            wtm_at "rd"
            refine rdk (ok.same s1) ?_
            wtm_at "rd"
            refine rdc (oc.same s1) ?_
            wtm_at "rd"
            refine ask s1 fun H2 F2 s2 ks2 g2 or2 ok2 oc2 os2 cm2 => ?_
            wtm_at "rd"
            exact ⟨F2, s2, ks2, _, rfl, g2, or2, ok2, oc2, os2, cm2⟩
          · have l0 := List.length_pos_iff.mpr z
            have lx := pk.len
            wtm_at "rd"
            refine rdr (or.same s1) ?_
            wtm_at "rd"
            refine rdk (ok.same s1) ?_
            wtm_at "rd"
            refine rdk (ok.same s1) ?_
            wtm_at "rd"
            refine rd_lenL (SqL.of ox.2) ?_
            rw [lx]
            wtm_at "rd"
            obtain ⟨j, hj, ej⟩ := idx_in ld l0
            rw [ej]
            refine ⟨r b, kl b, j, _, F b, s b, ks b, rfl, (g.each b).same s1, List.getElem?_eq_getElem hj, by omega, fun H2 F2 s2 S2 e2 f2 => ?_⟩
            have f12 := (Fr.of_same (F := kl b :: F b) s1).trans f2
            obtain ⟨z1, z2⟩ := put2_came e2
            wtm_at "rd"
            exact ⟨_, _, _, _, rfl, g.step S2 f12, or.step f12, ok.step f12, by rw [z1]; exact oc.step f12, os.step f12, z2⟩
        · have far : ∀ u ∈ (s b).all, u.2 ≠ (ld % 10 ^ 59 + 500) * (1 - 2 * (ld / 3 % 2)) := fun u hu => by
            have := (g.each b).r.ok.rng u hu
            have h : ld / 3 % 2 = 0 ∨ ld / 3 % 2 = 1 := by omega
            rcases h with h | h <;> rw [h] <;> omega
          refine rdr or ?_
          wtm_at "rd"
          refine ⟨r b, _, F b, s b, rfl, (g.each b).r, far, fun H2 F2 R2 f2 => ?_⟩
          have f2' := f2.cons (kl b)
          have or2 := or.step f2'
          wtm_at "rd"
          refine rdr or2 ?_
          wtm_at "rd"
          refine ⟨r b, _, F2, s b, rfl, R2, by omega, far, fun H3 F3 R3 f3 => ?_⟩
          have f13 := (f2.trans f3).cons (kl b)
          obtain ⟨z1, z2⟩ := put2_came (s' := s b) rfl
          wtm_at "rd"
          exact ⟨_, _, _, _, rfl, g.step ((g.each b).step R3 (f2.trans f3)) f13, or.step f13, ok.step f13, by rw [z1]; exact oc.step f13, os.step f13, z2⟩
        · refine rdr or ?_
          wtm_at "rd"
          refine rdk ok ?_
          wtm_at "rd"
          refine rdc oc ?_
          wtm_at "rd"
          refine ask (Same.refl _) fun H2 F2 s2 ks2 g2 or2 ok2 oc2 os2 cm2 => ?_
          wtm_at "rd"
          exact ⟨F2, s2, ks2, _, rfl, g2, or2, ok2, oc2, os2, cm2⟩
      · rintro _ H1 ⟨F1, s1, ks1, o, rfl, g1, or1, ok1, oc1, os1, cm1⟩
        wtm_at "rd"
        refine rdr or1 ?_
        wtm_at "rd"
        refine rdk ok1 ?_
        wtm_at "rd"
        refine ⟨r b, kl b, ld, F1 b, s1 b, ks1 b, rfl, g1.each b, fun H2 F2 S2 f2 => ?_⟩
        have f2' := f2.cons (kl b)
        have g2 := g1.step S2 f2'
        have or2 := or1.step f2'
        have ok2 := ok1.step f2'
        have oc2 := oc1.step f2'
        have os2 := os1.step f2'
        wtm_at "rd"
        refine rd_ixL (SqL.of (or2 true).2) (sel' fun b => .ref (r b)) ?_
        wtm_at "rd"
        refine rd_ixL (SqL.of (ok2 true).2) (sel' fun b => .ref (kl b)) ?_
        wtm_at "rd"
        refine ⟨r (!b), kl (!b), _, _, _, _, rfl, g2.each (!b), fun H3 F3 S3 f3 => ?_⟩
        have f3' := f3.cons (kl (!b))
        have same_s : ∀ (b : Bool) (q : Bool → RSt), put2 q b (q b) = q := fun b q => by
          funext d
          by_cases h : d = b
          · rw [h, put2_at]
          · obtain rfl := not_of h
            rw [put2_no]
        have g3 := g2.step S3 f3'
        have oc3 := oc2.step f3'
        rw [same_s, same_s] at g3
        wtm_at "rd"
        exact ⟨_, s1, _, _, _, _, _, _, _, rfl, g3, or2.step f3', ok2.step f3', oc3, os2.step f3', cm1⟩
    · rintro _ H' ⟨F, s, ks, o1, o2, o3, o4, o5, o6, rfl, _⟩
      wtm_at "rd"
      exact k _
end
end K05

set_option Elab.async false
set_option linter.all false
set_option maxRecDepth 100000
set_option maxHeartbeats 4000000
namespace K05
open PySem L2 Hm
theorem txt_mk {K : PySem.W.Frag} {h : Heap} {mg : Str → Option Value} (X : K.In h) (G : h.Ns mainGlobals mg)
    {A_MidError A_NoShare A_NoThing A_Empty A_Twice A_NoWidth A_Pile A_Turned A_Midrow a_Pile___init__ a_Pile_ahead a_Pile_many a_Pile_top a_Pile_put a_Pile_take a_Pile_fill a_Pile_rise a_Pile_is_ahead_of_upper a_Pile_sink a_Pile_place_under a_Pile_lay a_Turned_ahead a_check_share a_place a_move_top a_Midrow___init__ a_Midrow_many a_Midrow_put a_Midrow_take a_Midrow_number_of a_Midrow_oldest a_Midrow_share a_Midrow_pile_of a_Midrow_settle a__law_at a__law_is a__law_number a__law_no_number a__law_no_take a__law_no_oldest a__law_look a__law_taken a__law_asked a__law_put a_law : Addr}
    {od_Pile___init__ an_Pile___init__ : Option Addr} {sl_Pile___init__ : Array (Option Value)} {oc_Pile___init__ kV_Pile___init__ dc_Pile___init__ pm_Pile___init__ cd_Pile___init__ ct_Pile___init__ : Value}
    {od_Pile_ahead an_Pile_ahead : Option Addr} {sl_Pile_ahead : Array (Option Value)} {oc_Pile_ahead kV_Pile_ahead dc_Pile_ahead pm_Pile_ahead cd_Pile_ahead ct_Pile_ahead : Value}
    {od_Pile_many an_Pile_many : Option Addr} {sl_Pile_many : Array (Option Value)} {oc_Pile_many kV_Pile_many dc_Pile_many pm_Pile_many cd_Pile_many ct_Pile_many : Value}
    {od_Pile_top an_Pile_top : Option Addr} {sl_Pile_top : Array (Option Value)} {oc_Pile_top kV_Pile_top dc_Pile_top pm_Pile_top cd_Pile_top ct_Pile_top : Value}
    {od_Pile_put an_Pile_put : Option Addr} {sl_Pile_put : Array (Option Value)} {oc_Pile_put kV_Pile_put dc_Pile_put pm_Pile_put cd_Pile_put ct_Pile_put : Value}
    {od_Pile_take an_Pile_take : Option Addr} {sl_Pile_take : Array (Option Value)} {oc_Pile_take kV_Pile_take dc_Pile_take pm_Pile_take cd_Pile_take ct_Pile_take : Value}
    {od_Pile_fill an_Pile_fill : Option Addr} {sl_Pile_fill : Array (Option Value)} {oc_Pile_fill kV_Pile_fill dc_Pile_fill pm_Pile_fill cd_Pile_fill ct_Pile_fill : Value}
    {od_Pile_rise an_Pile_rise : Option Addr} {sl_Pile_rise : Array (Option Value)} {oc_Pile_rise kV_Pile_rise dc_Pile_rise pm_Pile_rise cd_Pile_rise ct_Pile_rise : Value}
    {od_Pile_is_ahead_of_upper an_Pile_is_ahead_of_upper : Option Addr} {sl_Pile_is_ahead_of_upper : Array (Option Value)} {oc_Pile_is_ahead_of_upper kV_Pile_is_ahead_of_upper dc_Pile_is_ahead_of_upper pm_Pile_is_ahead_of_upper cd_Pile_is_ahead_of_upper ct_Pile_is_ahead_of_upper : Value}
    {od_Pile_sink an_Pile_sink : Option Addr} {sl_Pile_sink : Array (Option Value)} {oc_Pile_sink kV_Pile_sink dc_Pile_sink pm_Pile_sink cd_Pile_sink ct_Pile_sink : Value}
    {od_Pile_place_under an_Pile_place_under : Option Addr} {sl_Pile_place_under : Array (Option Value)} {oc_Pile_place_under kV_Pile_place_under dc_Pile_place_under pm_Pile_place_under cd_Pile_place_under ct_Pile_place_under : Value}
    {od_Pile_lay an_Pile_lay : Option Addr} {sl_Pile_lay : Array (Option Value)} {oc_Pile_lay kV_Pile_lay dc_Pile_lay pm_Pile_lay cd_Pile_lay ct_Pile_lay : Value}
    {od_Turned_ahead an_Turned_ahead : Option Addr} {sl_Turned_ahead : Array (Option Value)} {oc_Turned_ahead kV_Turned_ahead dc_Turned_ahead pm_Turned_ahead cd_Turned_ahead ct_Turned_ahead : Value}
    {od_check_share an_check_share : Option Addr} {sl_check_share : Array (Option Value)} {oc_check_share kV_check_share dc_check_share pm_check_share cd_check_share ct_check_share : Value}
    {od_place an_place : Option Addr} {sl_place : Array (Option Value)} {oc_place kV_place dc_place pm_place cd_place ct_place : Value}
    {od_move_top an_move_top : Option Addr} {sl_move_top : Array (Option Value)} {oc_move_top kV_move_top dc_move_top pm_move_top cd_move_top ct_move_top : Value}
    {od_Midrow___init__ an_Midrow___init__ : Option Addr} {sl_Midrow___init__ : Array (Option Value)} {oc_Midrow___init__ kV_Midrow___init__ dc_Midrow___init__ pm_Midrow___init__ cd_Midrow___init__ ct_Midrow___init__ : Value}
    {T_Midrow___init__ : Addr} {to_Midrow___init__ : Obj} {tn_Midrow___init__ : Nat} {tk1_Midrow___init__ tk2_Midrow___init__ : Tok}
    {od_Midrow_many an_Midrow_many : Option Addr} {sl_Midrow_many : Array (Option Value)} {oc_Midrow_many kV_Midrow_many dc_Midrow_many pm_Midrow_many cd_Midrow_many ct_Midrow_many : Value}
    {od_Midrow_put an_Midrow_put : Option Addr} {sl_Midrow_put : Array (Option Value)} {oc_Midrow_put kV_Midrow_put dc_Midrow_put pm_Midrow_put cd_Midrow_put ct_Midrow_put : Value}
    {od_Midrow_take an_Midrow_take : Option Addr} {sl_Midrow_take : Array (Option Value)} {oc_Midrow_take kV_Midrow_take dc_Midrow_take pm_Midrow_take cd_Midrow_take ct_Midrow_take : Value}
    {od_Midrow_number_of an_Midrow_number_of : Option Addr} {sl_Midrow_number_of : Array (Option Value)} {oc_Midrow_number_of kV_Midrow_number_of dc_Midrow_number_of pm_Midrow_number_of cd_Midrow_number_of ct_Midrow_number_of : Value}
    {od_Midrow_oldest an_Midrow_oldest : Option Addr} {sl_Midrow_oldest : Array (Option Value)} {oc_Midrow_oldest kV_Midrow_oldest dc_Midrow_oldest pm_Midrow_oldest cd_Midrow_oldest ct_Midrow_oldest : Value}
    {od_Midrow_share an_Midrow_share : Option Addr} {sl_Midrow_share : Array (Option Value)} {oc_Midrow_share kV_Midrow_share dc_Midrow_share pm_Midrow_share cd_Midrow_share ct_Midrow_share : Value}
    {od_Midrow_pile_of an_Midrow_pile_of : Option Addr} {sl_Midrow_pile_of : Array (Option Value)} {oc_Midrow_pile_of kV_Midrow_pile_of dc_Midrow_pile_of pm_Midrow_pile_of cd_Midrow_pile_of ct_Midrow_pile_of : Value}
    {od_Midrow_settle an_Midrow_settle : Option Addr} {sl_Midrow_settle : Array (Option Value)} {oc_Midrow_settle kV_Midrow_settle dc_Midrow_settle pm_Midrow_settle cd_Midrow_settle ct_Midrow_settle : Value}
    {od__law_at an__law_at : Option Addr} {sl__law_at : Array (Option Value)} {oc__law_at kV__law_at dc__law_at pm__law_at cd__law_at ct__law_at : Value}
    {od__law_is an__law_is : Option Addr} {sl__law_is : Array (Option Value)} {oc__law_is kV__law_is dc__law_is pm__law_is cd__law_is ct__law_is : Value}
    {od__law_number an__law_number : Option Addr} {sl__law_number : Array (Option Value)} {oc__law_number kV__law_number dc__law_number pm__law_number cd__law_number ct__law_number : Value}
    {od__law_no_number an__law_no_number : Option Addr} {sl__law_no_number : Array (Option Value)} {oc__law_no_number kV__law_no_number dc__law_no_number pm__law_no_number cd__law_no_number ct__law_no_number : Value}
    {od__law_no_take an__law_no_take : Option Addr} {sl__law_no_take : Array (Option Value)} {oc__law_no_take kV__law_no_take dc__law_no_take pm__law_no_take cd__law_no_take ct__law_no_take : Value}
    {od__law_no_oldest an__law_no_oldest : Option Addr} {sl__law_no_oldest : Array (Option Value)} {oc__law_no_oldest kV__law_no_oldest dc__law_no_oldest pm__law_no_oldest cd__law_no_oldest ct__law_no_oldest : Value}
    {od__law_look an__law_look : Option Addr} {sl__law_look : Array (Option Value)} {oc__law_look kV__law_look dc__law_look pm__law_look cd__law_look ct__law_look : Value}
    {od__law_taken an__law_taken : Option Addr} {sl__law_taken : Array (Option Value)} {oc__law_taken kV__law_taken dc__law_taken pm__law_taken cd__law_taken ct__law_taken : Value}
    {od__law_asked an__law_asked : Option Addr} {sl__law_asked : Array (Option Value)} {oc__law_asked kV__law_asked dc__law_asked pm__law_asked cd__law_asked ct__law_asked : Value}
    {od__law_put an__law_put : Option Addr} {sl__law_put : Array (Option Value)} {oc__law_put kV__law_put dc__law_put pm__law_put cd__law_put ct__law_put : Value}
    {od_law an_law : Option Addr} {sl_law : Array (Option Value)} {oc_law kV_law dc_law pm_law cd_law ct_law : Value}
    (z_len : PySem.W.nsIn K mainGlobals "len" = some none)
    (z_max : PySem.W.nsIn K mainGlobals "max" = some none)
    (z_min : PySem.W.nsIn K mainGlobals "min" = some none)
    (z_isinstance : PySem.W.nsIn K mainGlobals "isinstance" = some none)
    (z_int : PySem.W.nsIn K mainGlobals "int" = some none)
    (z_bool : PySem.W.nsIn K mainGlobals "bool" = some none)
    (z_enumerate : PySem.W.nsIn K mainGlobals "enumerate" = some none)
    (z_ValueError : PySem.W.nsIn K mainGlobals "ValueError" = some none)
    (m_MidError : PySem.W.nsIn K mainGlobals "MidError" = some (some (.ref A_MidError)))
    (m_NoShare : PySem.W.nsIn K mainGlobals "NoShare" = some (some (.ref A_NoShare)))
    (m_NoThing : PySem.W.nsIn K mainGlobals "NoThing" = some (some (.ref A_NoThing)))
    (m_Empty : PySem.W.nsIn K mainGlobals "Empty" = some (some (.ref A_Empty)))
    (m_Twice : PySem.W.nsIn K mainGlobals "Twice" = some (some (.ref A_Twice)))
    (m_NoWidth : PySem.W.nsIn K mainGlobals "NoWidth" = some (some (.ref A_NoWidth)))
    (m_Pile : PySem.W.nsIn K mainGlobals "Pile" = some (some (.ref A_Pile)))
    (m_Turned : PySem.W.nsIn K mainGlobals "Turned" = some (some (.ref A_Turned)))
    (m_Midrow : PySem.W.nsIn K mainGlobals "Midrow" = some (some (.ref A_Midrow)))
    (x_NoShare : PySem.W.excIn K A_NoShare bmVE "ValueError.__new__" = true)
    (xa_NoShare : PySem.W.findIn K (.ref A_NoShare) "__getattribute__" = some (some (.builtin "BaseException.__getattribute__")))
    (xb_NoShare : PySem.W.findIn K (.ref A_NoShare) "__getattr__" = some none)
    (xc_NoShare : PySem.W.findIn K (.ref A_NoShare) "__class__" = some (some (.builtin "object.__class__")))
    (xd_NoShare : PySem.W.subIn K (.ref A_NoShare) (.type "BaseException") = some true)
    (xe_NoShare : PySem.W.mroIn K A_NoShare (.type "object") = some true)
    (xf_NoShare : (PySem.W.clsIn K A_NoShare).isSome = true)
    (x_NoThing : PySem.W.excIn K A_NoThing bmVE "ValueError.__new__" = true)
    (xa_NoThing : PySem.W.findIn K (.ref A_NoThing) "__getattribute__" = some (some (.builtin "BaseException.__getattribute__")))
    (xb_NoThing : PySem.W.findIn K (.ref A_NoThing) "__getattr__" = some none)
    (xc_NoThing : PySem.W.findIn K (.ref A_NoThing) "__class__" = some (some (.builtin "object.__class__")))
    (xd_NoThing : PySem.W.subIn K (.ref A_NoThing) (.type "BaseException") = some true)
    (xe_NoThing : PySem.W.mroIn K A_NoThing (.type "object") = some true)
    (xf_NoThing : (PySem.W.clsIn K A_NoThing).isSome = true)
    (x_Empty : PySem.W.excIn K A_Empty bmVE "ValueError.__new__" = true)
    (xa_Empty : PySem.W.findIn K (.ref A_Empty) "__getattribute__" = some (some (.builtin "BaseException.__getattribute__")))
    (xb_Empty : PySem.W.findIn K (.ref A_Empty) "__getattr__" = some none)
    (xc_Empty : PySem.W.findIn K (.ref A_Empty) "__class__" = some (some (.builtin "object.__class__")))
    (xd_Empty : PySem.W.subIn K (.ref A_Empty) (.type "BaseException") = some true)
    (xe_Empty : PySem.W.mroIn K A_Empty (.type "object") = some true)
    (xf_Empty : (PySem.W.clsIn K A_Empty).isSome = true)
    (x_Twice : PySem.W.excIn K A_Twice bmVE "ValueError.__new__" = true)
    (xa_Twice : PySem.W.findIn K (.ref A_Twice) "__getattribute__" = some (some (.builtin "BaseException.__getattribute__")))
    (xb_Twice : PySem.W.findIn K (.ref A_Twice) "__getattr__" = some none)
    (xc_Twice : PySem.W.findIn K (.ref A_Twice) "__class__" = some (some (.builtin "object.__class__")))
    (xd_Twice : PySem.W.subIn K (.ref A_Twice) (.type "BaseException") = some true)
    (xe_Twice : PySem.W.mroIn K A_Twice (.type "object") = some true)
    (xf_Twice : (PySem.W.clsIn K A_Twice).isSome = true)
    (ka_Empty : PySem.W.kitAny K (.ref A_Empty) ([A_NoShare, A_NoThing, A_NoWidth, A_Twice].map Value.ref) = some false)
    (ks_Empty : PySem.W.kitOne K (.ref A_Empty) (.ref A_Empty) = some true)
    (kv_Empty : PySem.W.kitOne K (.ref A_Empty) (.type "ValueError") = some true)
    (tk_Empty : PySem.W.exmOne K (.ref A_Empty) (.ref A_MidError) = some true)
    (ka_NoThing : PySem.W.kitAny K (.ref A_NoThing) ([A_NoShare, A_Empty, A_NoWidth, A_Twice].map Value.ref) = some false)
    (ks_NoThing : PySem.W.kitOne K (.ref A_NoThing) (.ref A_NoThing) = some true)
    (kv_NoThing : PySem.W.kitOne K (.ref A_NoThing) (.type "ValueError") = some true)
    (tk_NoThing : PySem.W.exmOne K (.ref A_NoThing) (.ref A_MidError) = some true)
    (p1_Pile : PySem.W.plainGet K A_Pile Str.empty = true)
    (p2_Pile : PySem.W.hasDictIn K A_Pile = true)
    (p3_Pile : PySem.W.plainOver K A_Pile = true)
    (p4_Pile : PySem.W.findIn K (.ref A_Pile) "__setattr__" = some (some (.builtin "object.__setattr__")))
    (na_Pile_held : PySem.W.findIn K (.ref A_Pile) "held" = some none)
    (na_Pile_high : PySem.W.findIn K (.ref A_Pile) "high" = some none)
    (na_Pile_last_coming : PySem.W.findIn K (.ref A_Pile) "last_coming" = some none)
    (na_Pile_low : PySem.W.findIn K (.ref A_Pile) "low" = some none)
    (na_Pile_numbers : PySem.W.findIn K (.ref A_Pile) "numbers" = some none)
    (na_Pile_part : PySem.W.findIn K (.ref A_Pile) "part" = some none)
    (na_Pile_spots : PySem.W.findIn K (.ref A_Pile) "spots" = some none)
    (na_Pile_total : PySem.W.findIn K (.ref A_Pile) "total" = some none)
    (na_Pile_whole : PySem.W.findIn K (.ref A_Pile) "whole" = some none)
    (p1_Turned : PySem.W.plainGet K A_Turned Str.empty = true)
    (p2_Turned : PySem.W.hasDictIn K A_Turned = true)
    (p3_Turned : PySem.W.plainOver K A_Turned = true)
    (p4_Turned : PySem.W.findIn K (.ref A_Turned) "__setattr__" = some (some (.builtin "object.__setattr__")))
    (na_Turned_held : PySem.W.findIn K (.ref A_Turned) "held" = some none)
    (na_Turned_high : PySem.W.findIn K (.ref A_Turned) "high" = some none)
    (na_Turned_last_coming : PySem.W.findIn K (.ref A_Turned) "last_coming" = some none)
    (na_Turned_low : PySem.W.findIn K (.ref A_Turned) "low" = some none)
    (na_Turned_numbers : PySem.W.findIn K (.ref A_Turned) "numbers" = some none)
    (na_Turned_part : PySem.W.findIn K (.ref A_Turned) "part" = some none)
    (na_Turned_spots : PySem.W.findIn K (.ref A_Turned) "spots" = some none)
    (na_Turned_total : PySem.W.findIn K (.ref A_Turned) "total" = some none)
    (na_Turned_whole : PySem.W.findIn K (.ref A_Turned) "whole" = some none)
    (p1_Midrow : PySem.W.plainGet K A_Midrow Str.empty = true)
    (p2_Midrow : PySem.W.hasDictIn K A_Midrow = true)
    (p3_Midrow : PySem.W.plainOver K A_Midrow = true)
    (p4_Midrow : PySem.W.findIn K (.ref A_Midrow) "__setattr__" = some (some (.builtin "object.__setattr__")))
    (na_Midrow_held : PySem.W.findIn K (.ref A_Midrow) "held" = some none)
    (na_Midrow_high : PySem.W.findIn K (.ref A_Midrow) "high" = some none)
    (na_Midrow_last_coming : PySem.W.findIn K (.ref A_Midrow) "last_coming" = some none)
    (na_Midrow_low : PySem.W.findIn K (.ref A_Midrow) "low" = some none)
    (na_Midrow_numbers : PySem.W.findIn K (.ref A_Midrow) "numbers" = some none)
    (na_Midrow_part : PySem.W.findIn K (.ref A_Midrow) "part" = some none)
    (na_Midrow_spots : PySem.W.findIn K (.ref A_Midrow) "spots" = some none)
    (na_Midrow_total : PySem.W.findIn K (.ref A_Midrow) "total" = some none)
    (na_Midrow_whole : PySem.W.findIn K (.ref A_Midrow) "whole" = some none)
    (ne_Pile_Turned : (A_Pile == A_Turned) = false)
    (at_Pile___init__ : PySem.W.findIn K (.ref A_Pile) "__init__" = some (some (.ref a_Pile___init__)))
    (l_Pile___init__ : K.lookup a_Pile___init__ = some ⟨oc_Pile___init__, od_Pile___init__, .func (PySem.W.fnOf "__init__" "Pile.__init__" (defArgs s_Pile___init__) (defBody s_Pile___init__) (defScope s_Pile___init__) .none kV_Pile___init__ dc_Pile___init__ pm_Pile___init__ an_Pile___init__ cd_Pile___init__ ct_Pile___init__), sl_Pile___init__⟩)
    (c_Pile___init__ : PySem.W.codeIn K cd_Pile___init__ "Pile.__init__" = true)
    (k_Pile___init__ : PySem.W.keepIn K (.ref a_Pile___init__) = true)
    (at_Pile_ahead : PySem.W.findIn K (.ref A_Pile) "ahead" = some (some (.ref a_Pile_ahead)))
    (l_Pile_ahead : K.lookup a_Pile_ahead = some ⟨oc_Pile_ahead, od_Pile_ahead, .func (PySem.W.fnOf "ahead" "Pile.ahead" (defArgs s_Pile_ahead) (defBody s_Pile_ahead) (defScope s_Pile_ahead) .none kV_Pile_ahead dc_Pile_ahead pm_Pile_ahead an_Pile_ahead cd_Pile_ahead ct_Pile_ahead), sl_Pile_ahead⟩)
    (c_Pile_ahead : PySem.W.codeIn K cd_Pile_ahead "Pile.ahead" = true)
    (k_Pile_ahead : PySem.W.keepIn K (.ref a_Pile_ahead) = true)
    (at_Pile_many : PySem.W.findIn K (.ref A_Pile) "many" = some (some (.ref a_Pile_many)))
    (l_Pile_many : K.lookup a_Pile_many = some ⟨oc_Pile_many, od_Pile_many, .func (PySem.W.fnOf "many" "Pile.many" (defArgs s_Pile_many) (defBody s_Pile_many) (defScope s_Pile_many) .none kV_Pile_many dc_Pile_many pm_Pile_many an_Pile_many cd_Pile_many ct_Pile_many), sl_Pile_many⟩)
    (c_Pile_many : PySem.W.codeIn K cd_Pile_many "Pile.many" = true)
    (k_Pile_many : PySem.W.keepIn K (.ref a_Pile_many) = true)
    (at_Pile_top : PySem.W.findIn K (.ref A_Pile) "top" = some (some (.ref a_Pile_top)))
    (l_Pile_top : K.lookup a_Pile_top = some ⟨oc_Pile_top, od_Pile_top, .func (PySem.W.fnOf "top" "Pile.top" (defArgs s_Pile_top) (defBody s_Pile_top) (defScope s_Pile_top) .none kV_Pile_top dc_Pile_top pm_Pile_top an_Pile_top cd_Pile_top ct_Pile_top), sl_Pile_top⟩)
    (c_Pile_top : PySem.W.codeIn K cd_Pile_top "Pile.top" = true)
    (k_Pile_top : PySem.W.keepIn K (.ref a_Pile_top) = true)
    (at_Pile_put : PySem.W.findIn K (.ref A_Pile) "put" = some (some (.ref a_Pile_put)))
    (l_Pile_put : K.lookup a_Pile_put = some ⟨oc_Pile_put, od_Pile_put, .func (PySem.W.fnOf "put" "Pile.put" (defArgs s_Pile_put) (defBody s_Pile_put) (defScope s_Pile_put) .none kV_Pile_put dc_Pile_put pm_Pile_put an_Pile_put cd_Pile_put ct_Pile_put), sl_Pile_put⟩)
    (c_Pile_put : PySem.W.codeIn K cd_Pile_put "Pile.put" = true)
    (k_Pile_put : PySem.W.keepIn K (.ref a_Pile_put) = true)
    (at_Pile_take : PySem.W.findIn K (.ref A_Pile) "take" = some (some (.ref a_Pile_take)))
    (l_Pile_take : K.lookup a_Pile_take = some ⟨oc_Pile_take, od_Pile_take, .func (PySem.W.fnOf "take" "Pile.take" (defArgs s_Pile_take) (defBody s_Pile_take) (defScope s_Pile_take) .none kV_Pile_take dc_Pile_take pm_Pile_take an_Pile_take cd_Pile_take ct_Pile_take), sl_Pile_take⟩)
    (c_Pile_take : PySem.W.codeIn K cd_Pile_take "Pile.take" = true)
    (k_Pile_take : PySem.W.keepIn K (.ref a_Pile_take) = true)
    (at_Pile_fill : PySem.W.findIn K (.ref A_Pile) "fill" = some (some (.ref a_Pile_fill)))
    (l_Pile_fill : K.lookup a_Pile_fill = some ⟨oc_Pile_fill, od_Pile_fill, .func (PySem.W.fnOf "fill" "Pile.fill" (defArgs s_Pile_fill) (defBody s_Pile_fill) (defScope s_Pile_fill) .none kV_Pile_fill dc_Pile_fill pm_Pile_fill an_Pile_fill cd_Pile_fill ct_Pile_fill), sl_Pile_fill⟩)
    (c_Pile_fill : PySem.W.codeIn K cd_Pile_fill "Pile.fill" = true)
    (k_Pile_fill : PySem.W.keepIn K (.ref a_Pile_fill) = true)
    (at_Pile_rise : PySem.W.findIn K (.ref A_Pile) "rise" = some (some (.ref a_Pile_rise)))
    (l_Pile_rise : K.lookup a_Pile_rise = some ⟨oc_Pile_rise, od_Pile_rise, .func (PySem.W.fnOf "rise" "Pile.rise" (defArgs s_Pile_rise) (defBody s_Pile_rise) (defScope s_Pile_rise) .none kV_Pile_rise dc_Pile_rise pm_Pile_rise an_Pile_rise cd_Pile_rise ct_Pile_rise), sl_Pile_rise⟩)
    (c_Pile_rise : PySem.W.codeIn K cd_Pile_rise "Pile.rise" = true)
    (k_Pile_rise : PySem.W.keepIn K (.ref a_Pile_rise) = true)
    (at_Pile_is_ahead_of_upper : PySem.W.findIn K (.ref A_Pile) "is_ahead_of_upper" = some (some (.ref a_Pile_is_ahead_of_upper)))
    (l_Pile_is_ahead_of_upper : K.lookup a_Pile_is_ahead_of_upper = some ⟨oc_Pile_is_ahead_of_upper, od_Pile_is_ahead_of_upper, .func (PySem.W.fnOf "is_ahead_of_upper" "Pile.is_ahead_of_upper" (defArgs s_Pile_is_ahead_of_upper) (defBody s_Pile_is_ahead_of_upper) (defScope s_Pile_is_ahead_of_upper) .none kV_Pile_is_ahead_of_upper dc_Pile_is_ahead_of_upper pm_Pile_is_ahead_of_upper an_Pile_is_ahead_of_upper cd_Pile_is_ahead_of_upper ct_Pile_is_ahead_of_upper), sl_Pile_is_ahead_of_upper⟩)
    (c_Pile_is_ahead_of_upper : PySem.W.codeIn K cd_Pile_is_ahead_of_upper "Pile.is_ahead_of_upper" = true)
    (k_Pile_is_ahead_of_upper : PySem.W.keepIn K (.ref a_Pile_is_ahead_of_upper) = true)
    (at_Pile_sink : PySem.W.findIn K (.ref A_Pile) "sink" = some (some (.ref a_Pile_sink)))
    (l_Pile_sink : K.lookup a_Pile_sink = some ⟨oc_Pile_sink, od_Pile_sink, .func (PySem.W.fnOf "sink" "Pile.sink" (defArgs s_Pile_sink) (defBody s_Pile_sink) (defScope s_Pile_sink) .none kV_Pile_sink dc_Pile_sink pm_Pile_sink an_Pile_sink cd_Pile_sink ct_Pile_sink), sl_Pile_sink⟩)
    (c_Pile_sink : PySem.W.codeIn K cd_Pile_sink "Pile.sink" = true)
    (k_Pile_sink : PySem.W.keepIn K (.ref a_Pile_sink) = true)
    (at_Pile_place_under : PySem.W.findIn K (.ref A_Pile) "place_under" = some (some (.ref a_Pile_place_under)))
    (l_Pile_place_under : K.lookup a_Pile_place_under = some ⟨oc_Pile_place_under, od_Pile_place_under, .func (PySem.W.fnOf "place_under" "Pile.place_under" (defArgs s_Pile_place_under) (defBody s_Pile_place_under) (defScope s_Pile_place_under) .none kV_Pile_place_under dc_Pile_place_under pm_Pile_place_under an_Pile_place_under cd_Pile_place_under ct_Pile_place_under), sl_Pile_place_under⟩)
    (c_Pile_place_under : PySem.W.codeIn K cd_Pile_place_under "Pile.place_under" = true)
    (k_Pile_place_under : PySem.W.keepIn K (.ref a_Pile_place_under) = true)
    (at_Pile_lay : PySem.W.findIn K (.ref A_Pile) "lay" = some (some (.ref a_Pile_lay)))
    (l_Pile_lay : K.lookup a_Pile_lay = some ⟨oc_Pile_lay, od_Pile_lay, .func (PySem.W.fnOf "lay" "Pile.lay" (defArgs s_Pile_lay) (defBody s_Pile_lay) (defScope s_Pile_lay) .none kV_Pile_lay dc_Pile_lay pm_Pile_lay an_Pile_lay cd_Pile_lay ct_Pile_lay), sl_Pile_lay⟩)
    (c_Pile_lay : PySem.W.codeIn K cd_Pile_lay "Pile.lay" = true)
    (k_Pile_lay : PySem.W.keepIn K (.ref a_Pile_lay) = true)
    (at_Turned_ahead : PySem.W.findIn K (.ref A_Turned) "ahead" = some (some (.ref a_Turned_ahead)))
    (l_Turned_ahead : K.lookup a_Turned_ahead = some ⟨oc_Turned_ahead, od_Turned_ahead, .func (PySem.W.fnOf "ahead" "Turned.ahead" (defArgs s_Turned_ahead) (defBody s_Turned_ahead) (defScope s_Turned_ahead) .none kV_Turned_ahead dc_Turned_ahead pm_Turned_ahead an_Turned_ahead cd_Turned_ahead ct_Turned_ahead), sl_Turned_ahead⟩)
    (c_Turned_ahead : PySem.W.codeIn K cd_Turned_ahead "Turned.ahead" = true)
    (k_Turned_ahead : PySem.W.keepIn K (.ref a_Turned_ahead) = true)
    (m_check_share : PySem.W.nsIn K mainGlobals "check_share" = some (some (.ref a_check_share)))
    (l_check_share : K.lookup a_check_share = some ⟨oc_check_share, od_check_share, .func (PySem.W.fnOf "check_share" "check_share" (defArgs s_check_share) (defBody s_check_share) (defScope s_check_share) .none kV_check_share dc_check_share pm_check_share an_check_share cd_check_share ct_check_share), sl_check_share⟩)
    (c_check_share : PySem.W.codeIn K cd_check_share "check_share" = true)
    (k_check_share : PySem.W.keepIn K (.ref a_check_share) = true)
    (m_place : PySem.W.nsIn K mainGlobals "place" = some (some (.ref a_place)))
    (l_place : K.lookup a_place = some ⟨oc_place, od_place, .func (PySem.W.fnOf "place" "place" (defArgs s_place) (defBody s_place) (defScope s_place) .none kV_place dc_place pm_place an_place cd_place ct_place), sl_place⟩)
    (c_place : PySem.W.codeIn K cd_place "place" = true)
    (k_place : PySem.W.keepIn K (.ref a_place) = true)
    (m_move_top : PySem.W.nsIn K mainGlobals "move_top" = some (some (.ref a_move_top)))
    (l_move_top : K.lookup a_move_top = some ⟨oc_move_top, od_move_top, .func (PySem.W.fnOf "move_top" "move_top" (defArgs s_move_top) (defBody s_move_top) (defScope s_move_top) .none kV_move_top dc_move_top pm_move_top an_move_top cd_move_top ct_move_top), sl_move_top⟩)
    (c_move_top : PySem.W.codeIn K cd_move_top "move_top" = true)
    (k_move_top : PySem.W.keepIn K (.ref a_move_top) = true)
    (at_Midrow___init__ : PySem.W.findIn K (.ref A_Midrow) "__init__" = some (some (.ref a_Midrow___init__)))
    (l_Midrow___init__ : K.lookup a_Midrow___init__ = some ⟨oc_Midrow___init__, od_Midrow___init__, .func (PySem.W.fnOf "__init__" "Midrow.__init__" (defArgs s_Midrow___init__) (defBody s_Midrow___init__) (defScope s_Midrow___init__) (.ref T_Midrow___init__) kV_Midrow___init__ dc_Midrow___init__ pm_Midrow___init__ an_Midrow___init__ cd_Midrow___init__ ct_Midrow___init__), sl_Midrow___init__⟩)
    (c_Midrow___init__ : PySem.W.codeIn K cd_Midrow___init__ "Midrow.__init__" = true)
    (k_Midrow___init__ : PySem.W.keepIn K (.ref a_Midrow___init__) = true)
    (dl_Midrow___init__ : K.lookup T_Midrow___init__ = some to_Midrow___init__)
    (dd_Midrow___init__ : to_Midrow___init__.data = .seq #[.int 1 tk1_Midrow___init__, .int 2 tk2_Midrow___init__] tn_Midrow___init__)
    (at_Midrow_many : PySem.W.findIn K (.ref A_Midrow) "many" = some (some (.ref a_Midrow_many)))
    (l_Midrow_many : K.lookup a_Midrow_many = some ⟨oc_Midrow_many, od_Midrow_many, .func (PySem.W.fnOf "many" "Midrow.many" (defArgs s_Midrow_many) (defBody s_Midrow_many) (defScope s_Midrow_many) .none kV_Midrow_many dc_Midrow_many pm_Midrow_many an_Midrow_many cd_Midrow_many ct_Midrow_many), sl_Midrow_many⟩)
    (c_Midrow_many : PySem.W.codeIn K cd_Midrow_many "Midrow.many" = true)
    (k_Midrow_many : PySem.W.keepIn K (.ref a_Midrow_many) = true)
    (at_Midrow_put : PySem.W.findIn K (.ref A_Midrow) "put" = some (some (.ref a_Midrow_put)))
    (l_Midrow_put : K.lookup a_Midrow_put = some ⟨oc_Midrow_put, od_Midrow_put, .func (PySem.W.fnOf "put" "Midrow.put" (defArgs s_Midrow_put) (defBody s_Midrow_put) (defScope s_Midrow_put) .none kV_Midrow_put dc_Midrow_put pm_Midrow_put an_Midrow_put cd_Midrow_put ct_Midrow_put), sl_Midrow_put⟩)
    (c_Midrow_put : PySem.W.codeIn K cd_Midrow_put "Midrow.put" = true)
    (k_Midrow_put : PySem.W.keepIn K (.ref a_Midrow_put) = true)
    (at_Midrow_take : PySem.W.findIn K (.ref A_Midrow) "take" = some (some (.ref a_Midrow_take)))
    (l_Midrow_take : K.lookup a_Midrow_take = some ⟨oc_Midrow_take, od_Midrow_take, .func (PySem.W.fnOf "take" "Midrow.take" (defArgs s_Midrow_take) (defBody s_Midrow_take) (defScope s_Midrow_take) .none kV_Midrow_take dc_Midrow_take pm_Midrow_take an_Midrow_take cd_Midrow_take ct_Midrow_take), sl_Midrow_take⟩)
    (c_Midrow_take : PySem.W.codeIn K cd_Midrow_take "Midrow.take" = true)
    (k_Midrow_take : PySem.W.keepIn K (.ref a_Midrow_take) = true)
    (at_Midrow_number_of : PySem.W.findIn K (.ref A_Midrow) "number_of" = some (some (.ref a_Midrow_number_of)))
    (l_Midrow_number_of : K.lookup a_Midrow_number_of = some ⟨oc_Midrow_number_of, od_Midrow_number_of, .func (PySem.W.fnOf "number_of" "Midrow.number_of" (defArgs s_Midrow_number_of) (defBody s_Midrow_number_of) (defScope s_Midrow_number_of) .none kV_Midrow_number_of dc_Midrow_number_of pm_Midrow_number_of an_Midrow_number_of cd_Midrow_number_of ct_Midrow_number_of), sl_Midrow_number_of⟩)
    (c_Midrow_number_of : PySem.W.codeIn K cd_Midrow_number_of "Midrow.number_of" = true)
    (k_Midrow_number_of : PySem.W.keepIn K (.ref a_Midrow_number_of) = true)
    (at_Midrow_oldest : PySem.W.findIn K (.ref A_Midrow) "oldest" = some (some (.ref a_Midrow_oldest)))
    (l_Midrow_oldest : K.lookup a_Midrow_oldest = some ⟨oc_Midrow_oldest, od_Midrow_oldest, .func (PySem.W.fnOf "oldest" "Midrow.oldest" (defArgs s_Midrow_oldest) (defBody s_Midrow_oldest) (defScope s_Midrow_oldest) .none kV_Midrow_oldest dc_Midrow_oldest pm_Midrow_oldest an_Midrow_oldest cd_Midrow_oldest ct_Midrow_oldest), sl_Midrow_oldest⟩)
    (c_Midrow_oldest : PySem.W.codeIn K cd_Midrow_oldest "Midrow.oldest" = true)
    (k_Midrow_oldest : PySem.W.keepIn K (.ref a_Midrow_oldest) = true)
    (at_Midrow_share : PySem.W.findIn K (.ref A_Midrow) "share" = some (some (.ref a_Midrow_share)))
    (l_Midrow_share : K.lookup a_Midrow_share = some ⟨oc_Midrow_share, od_Midrow_share, .func (PySem.W.fnOf "share" "Midrow.share" (defArgs s_Midrow_share) (defBody s_Midrow_share) (defScope s_Midrow_share) .none kV_Midrow_share dc_Midrow_share pm_Midrow_share an_Midrow_share cd_Midrow_share ct_Midrow_share), sl_Midrow_share⟩)
    (c_Midrow_share : PySem.W.codeIn K cd_Midrow_share "Midrow.share" = true)
    (k_Midrow_share : PySem.W.keepIn K (.ref a_Midrow_share) = true)
    (at_Midrow_pile_of : PySem.W.findIn K (.ref A_Midrow) "pile_of" = some (some (.ref a_Midrow_pile_of)))
    (l_Midrow_pile_of : K.lookup a_Midrow_pile_of = some ⟨oc_Midrow_pile_of, od_Midrow_pile_of, .func (PySem.W.fnOf "pile_of" "Midrow.pile_of" (defArgs s_Midrow_pile_of) (defBody s_Midrow_pile_of) (defScope s_Midrow_pile_of) .none kV_Midrow_pile_of dc_Midrow_pile_of pm_Midrow_pile_of an_Midrow_pile_of cd_Midrow_pile_of ct_Midrow_pile_of), sl_Midrow_pile_of⟩)
    (c_Midrow_pile_of : PySem.W.codeIn K cd_Midrow_pile_of "Midrow.pile_of" = true)
    (k_Midrow_pile_of : PySem.W.keepIn K (.ref a_Midrow_pile_of) = true)
    (at_Midrow_settle : PySem.W.findIn K (.ref A_Midrow) "settle" = some (some (.ref a_Midrow_settle)))
    (l_Midrow_settle : K.lookup a_Midrow_settle = some ⟨oc_Midrow_settle, od_Midrow_settle, .func (PySem.W.fnOf "settle" "Midrow.settle" (defArgs s_Midrow_settle) (defBody s_Midrow_settle) (defScope s_Midrow_settle) .none kV_Midrow_settle dc_Midrow_settle pm_Midrow_settle an_Midrow_settle cd_Midrow_settle ct_Midrow_settle), sl_Midrow_settle⟩)
    (c_Midrow_settle : PySem.W.codeIn K cd_Midrow_settle "Midrow.settle" = true)
    (k_Midrow_settle : PySem.W.keepIn K (.ref a_Midrow_settle) = true)
    (m__law_at : PySem.W.nsIn K mainGlobals "_law_at" = some (some (.ref a__law_at)))
    (l__law_at : K.lookup a__law_at = some ⟨oc__law_at, od__law_at, .func (PySem.W.fnOf "_law_at" "_law_at" (defArgs s__law_at) (defBody s__law_at) (defScope s__law_at) .none kV__law_at dc__law_at pm__law_at an__law_at cd__law_at ct__law_at), sl__law_at⟩)
    (c__law_at : PySem.W.codeIn K cd__law_at "_law_at" = true)
    (k__law_at : PySem.W.keepIn K (.ref a__law_at) = true)
    (m__law_is : PySem.W.nsIn K mainGlobals "_law_is" = some (some (.ref a__law_is)))
    (l__law_is : K.lookup a__law_is = some ⟨oc__law_is, od__law_is, .func (PySem.W.fnOf "_law_is" "_law_is" (defArgs s__law_is) (defBody s__law_is) (defScope s__law_is) .none kV__law_is dc__law_is pm__law_is an__law_is cd__law_is ct__law_is), sl__law_is⟩)
    (c__law_is : PySem.W.codeIn K cd__law_is "_law_is" = true)
    (k__law_is : PySem.W.keepIn K (.ref a__law_is) = true)
    (m__law_number : PySem.W.nsIn K mainGlobals "_law_number" = some (some (.ref a__law_number)))
    (l__law_number : K.lookup a__law_number = some ⟨oc__law_number, od__law_number, .func (PySem.W.fnOf "_law_number" "_law_number" (defArgs s__law_number) (defBody s__law_number) (defScope s__law_number) .none kV__law_number dc__law_number pm__law_number an__law_number cd__law_number ct__law_number), sl__law_number⟩)
    (c__law_number : PySem.W.codeIn K cd__law_number "_law_number" = true)
    (k__law_number : PySem.W.keepIn K (.ref a__law_number) = true)
    (m__law_no_number : PySem.W.nsIn K mainGlobals "_law_no_number" = some (some (.ref a__law_no_number)))
    (l__law_no_number : K.lookup a__law_no_number = some ⟨oc__law_no_number, od__law_no_number, .func (PySem.W.fnOf "_law_no_number" "_law_no_number" (defArgs s__law_no_number) (defBody s__law_no_number) (defScope s__law_no_number) .none kV__law_no_number dc__law_no_number pm__law_no_number an__law_no_number cd__law_no_number ct__law_no_number), sl__law_no_number⟩)
    (c__law_no_number : PySem.W.codeIn K cd__law_no_number "_law_no_number" = true)
    (k__law_no_number : PySem.W.keepIn K (.ref a__law_no_number) = true)
    (m__law_no_take : PySem.W.nsIn K mainGlobals "_law_no_take" = some (some (.ref a__law_no_take)))
    (l__law_no_take : K.lookup a__law_no_take = some ⟨oc__law_no_take, od__law_no_take, .func (PySem.W.fnOf "_law_no_take" "_law_no_take" (defArgs s__law_no_take) (defBody s__law_no_take) (defScope s__law_no_take) .none kV__law_no_take dc__law_no_take pm__law_no_take an__law_no_take cd__law_no_take ct__law_no_take), sl__law_no_take⟩)
    (c__law_no_take : PySem.W.codeIn K cd__law_no_take "_law_no_take" = true)
    (k__law_no_take : PySem.W.keepIn K (.ref a__law_no_take) = true)
    (m__law_no_oldest : PySem.W.nsIn K mainGlobals "_law_no_oldest" = some (some (.ref a__law_no_oldest)))
    (l__law_no_oldest : K.lookup a__law_no_oldest = some ⟨oc__law_no_oldest, od__law_no_oldest, .func (PySem.W.fnOf "_law_no_oldest" "_law_no_oldest" (defArgs s__law_no_oldest) (defBody s__law_no_oldest) (defScope s__law_no_oldest) .none kV__law_no_oldest dc__law_no_oldest pm__law_no_oldest an__law_no_oldest cd__law_no_oldest ct__law_no_oldest), sl__law_no_oldest⟩)
    (c__law_no_oldest : PySem.W.codeIn K cd__law_no_oldest "_law_no_oldest" = true)
    (k__law_no_oldest : PySem.W.keepIn K (.ref a__law_no_oldest) = true)
    (m__law_look : PySem.W.nsIn K mainGlobals "_law_look" = some (some (.ref a__law_look)))
    (l__law_look : K.lookup a__law_look = some ⟨oc__law_look, od__law_look, .func (PySem.W.fnOf "_law_look" "_law_look" (defArgs s__law_look) (defBody s__law_look) (defScope s__law_look) .none kV__law_look dc__law_look pm__law_look an__law_look cd__law_look ct__law_look), sl__law_look⟩)
    (c__law_look : PySem.W.codeIn K cd__law_look "_law_look" = true)
    (k__law_look : PySem.W.keepIn K (.ref a__law_look) = true)
    (m__law_taken : PySem.W.nsIn K mainGlobals "_law_taken" = some (some (.ref a__law_taken)))
    (l__law_taken : K.lookup a__law_taken = some ⟨oc__law_taken, od__law_taken, .func (PySem.W.fnOf "_law_taken" "_law_taken" (defArgs s__law_taken) (defBody s__law_taken) (defScope s__law_taken) .none kV__law_taken dc__law_taken pm__law_taken an__law_taken cd__law_taken ct__law_taken), sl__law_taken⟩)
    (c__law_taken : PySem.W.codeIn K cd__law_taken "_law_taken" = true)
    (k__law_taken : PySem.W.keepIn K (.ref a__law_taken) = true)
    (m__law_asked : PySem.W.nsIn K mainGlobals "_law_asked" = some (some (.ref a__law_asked)))
    (l__law_asked : K.lookup a__law_asked = some ⟨oc__law_asked, od__law_asked, .func (PySem.W.fnOf "_law_asked" "_law_asked" (defArgs s__law_asked) (defBody s__law_asked) (defScope s__law_asked) .none kV__law_asked dc__law_asked pm__law_asked an__law_asked cd__law_asked ct__law_asked), sl__law_asked⟩)
    (c__law_asked : PySem.W.codeIn K cd__law_asked "_law_asked" = true)
    (k__law_asked : PySem.W.keepIn K (.ref a__law_asked) = true)
    (m__law_put : PySem.W.nsIn K mainGlobals "_law_put" = some (some (.ref a__law_put)))
    (l__law_put : K.lookup a__law_put = some ⟨oc__law_put, od__law_put, .func (PySem.W.fnOf "_law_put" "_law_put" (defArgs s__law_put) (defBody s__law_put) (defScope s__law_put) .none kV__law_put dc__law_put pm__law_put an__law_put cd__law_put ct__law_put), sl__law_put⟩)
    (c__law_put : PySem.W.codeIn K cd__law_put "_law_put" = true)
    (k__law_put : PySem.W.keepIn K (.ref a__law_put) = true)
    (m_law : PySem.W.nsIn K mainGlobals "law" = some (some (.ref a_law)))
    (l_law : K.lookup a_law = some ⟨oc_law, od_law, .func (PySem.W.fnOf "law" "law" (defArgs s_law) (defBody s_law) (defScope s_law) .none kV_law dc_law pm_law an_law cd_law ct_law), sl_law⟩)
    (c_law : PySem.W.codeIn K cd_law "law" = true)
    (k_law : PySem.W.keepIn K (.ref a_law) = true)
    (k1_Pile : PySem.W.makesIn K A_Pile = true)
    (k2_Pile : PySem.W.findIn K (.ref A_Pile) "__init__" = some (some (.ref a_Pile___init__)))
    (k3_Pile : PySem.W.isFn K (.ref a_Pile___init__) = true)
    (k4_Pile : PySem.W.keepIn K (.ref A_Pile) = true)
    (g1_Pile_ahead : PySem.W.findIn K (.ref A_Pile) "ahead" = some (some (.ref a_Pile_ahead)))
    (g2_Pile_ahead : PySem.W.isFn K (.ref a_Pile_ahead) = true)
    (g1_Pile_many : PySem.W.findIn K (.ref A_Pile) "many" = some (some (.ref a_Pile_many)))
    (g2_Pile_many : PySem.W.isFn K (.ref a_Pile_many) = true)
    (g1_Pile_top : PySem.W.findIn K (.ref A_Pile) "top" = some (some (.ref a_Pile_top)))
    (g2_Pile_top : PySem.W.isFn K (.ref a_Pile_top) = true)
    (g1_Pile_put : PySem.W.findIn K (.ref A_Pile) "put" = some (some (.ref a_Pile_put)))
    (g2_Pile_put : PySem.W.isFn K (.ref a_Pile_put) = true)
    (g1_Pile_take : PySem.W.findIn K (.ref A_Pile) "take" = some (some (.ref a_Pile_take)))
    (g2_Pile_take : PySem.W.isFn K (.ref a_Pile_take) = true)
    (g1_Pile_fill : PySem.W.findIn K (.ref A_Pile) "fill" = some (some (.ref a_Pile_fill)))
    (g2_Pile_fill : PySem.W.isFn K (.ref a_Pile_fill) = true)
    (g1_Pile_rise : PySem.W.findIn K (.ref A_Pile) "rise" = some (some (.ref a_Pile_rise)))
    (g2_Pile_rise : PySem.W.isFn K (.ref a_Pile_rise) = true)
    (g1_Pile_is_ahead_of_upper : PySem.W.findIn K (.ref A_Pile) "is_ahead_of_upper" = some (some (.ref a_Pile_is_ahead_of_upper)))
    (g2_Pile_is_ahead_of_upper : PySem.W.isFn K (.ref a_Pile_is_ahead_of_upper) = true)
    (g1_Pile_sink : PySem.W.findIn K (.ref A_Pile) "sink" = some (some (.ref a_Pile_sink)))
    (g2_Pile_sink : PySem.W.isFn K (.ref a_Pile_sink) = true)
    (g1_Pile_place_under : PySem.W.findIn K (.ref A_Pile) "place_under" = some (some (.ref a_Pile_place_under)))
    (g2_Pile_place_under : PySem.W.isFn K (.ref a_Pile_place_under) = true)
    (g1_Pile_lay : PySem.W.findIn K (.ref A_Pile) "lay" = some (some (.ref a_Pile_lay)))
    (g2_Pile_lay : PySem.W.isFn K (.ref a_Pile_lay) = true)
    (k1_Turned : PySem.W.makesIn K A_Turned = true)
    (k2_Turned : PySem.W.findIn K (.ref A_Turned) "__init__" = some (some (.ref a_Pile___init__)))
    (k3_Turned : PySem.W.isFn K (.ref a_Pile___init__) = true)
    (k4_Turned : PySem.W.keepIn K (.ref A_Turned) = true)
    (g1_Turned_ahead : PySem.W.findIn K (.ref A_Turned) "ahead" = some (some (.ref a_Turned_ahead)))
    (g2_Turned_ahead : PySem.W.isFn K (.ref a_Turned_ahead) = true)
    (g1_Turned_many : PySem.W.findIn K (.ref A_Turned) "many" = some (some (.ref a_Pile_many)))
    (g2_Turned_many : PySem.W.isFn K (.ref a_Pile_many) = true)
    (g1_Turned_top : PySem.W.findIn K (.ref A_Turned) "top" = some (some (.ref a_Pile_top)))
    (g2_Turned_top : PySem.W.isFn K (.ref a_Pile_top) = true)
    (g1_Turned_put : PySem.W.findIn K (.ref A_Turned) "put" = some (some (.ref a_Pile_put)))
    (g2_Turned_put : PySem.W.isFn K (.ref a_Pile_put) = true)
    (g1_Turned_take : PySem.W.findIn K (.ref A_Turned) "take" = some (some (.ref a_Pile_take)))
    (g2_Turned_take : PySem.W.isFn K (.ref a_Pile_take) = true)
    (g1_Turned_fill : PySem.W.findIn K (.ref A_Turned) "fill" = some (some (.ref a_Pile_fill)))
    (g2_Turned_fill : PySem.W.isFn K (.ref a_Pile_fill) = true)
    (g1_Turned_rise : PySem.W.findIn K (.ref A_Turned) "rise" = some (some (.ref a_Pile_rise)))
    (g2_Turned_rise : PySem.W.isFn K (.ref a_Pile_rise) = true)
    (g1_Turned_is_ahead_of_upper : PySem.W.findIn K (.ref A_Turned) "is_ahead_of_upper" = some (some (.ref a_Pile_is_ahead_of_upper)))
    (g2_Turned_is_ahead_of_upper : PySem.W.isFn K (.ref a_Pile_is_ahead_of_upper) = true)
    (g1_Turned_sink : PySem.W.findIn K (.ref A_Turned) "sink" = some (some (.ref a_Pile_sink)))
    (g2_Turned_sink : PySem.W.isFn K (.ref a_Pile_sink) = true)
    (g1_Turned_place_under : PySem.W.findIn K (.ref A_Turned) "place_under" = some (some (.ref a_Pile_place_under)))
    (g2_Turned_place_under : PySem.W.isFn K (.ref a_Pile_place_under) = true)
    (g1_Turned_lay : PySem.W.findIn K (.ref A_Turned) "lay" = some (some (.ref a_Pile_lay)))
    (g2_Turned_lay : PySem.W.isFn K (.ref a_Pile_lay) = true)
    (k1_Midrow : PySem.W.makesIn K A_Midrow = true)
    (k2_Midrow : PySem.W.findIn K (.ref A_Midrow) "__init__" = some (some (.ref a_Midrow___init__)))
    (k3_Midrow : PySem.W.isFn K (.ref a_Midrow___init__) = true)
    (k4_Midrow : PySem.W.keepIn K (.ref A_Midrow) = true)
    (g1_Midrow_many : PySem.W.findIn K (.ref A_Midrow) "many" = some (some (.ref a_Midrow_many)))
    (g2_Midrow_many : PySem.W.isFn K (.ref a_Midrow_many) = true)
    (g1_Midrow_put : PySem.W.findIn K (.ref A_Midrow) "put" = some (some (.ref a_Midrow_put)))
    (g2_Midrow_put : PySem.W.isFn K (.ref a_Midrow_put) = true)
    (g1_Midrow_take : PySem.W.findIn K (.ref A_Midrow) "take" = some (some (.ref a_Midrow_take)))
    (g2_Midrow_take : PySem.W.isFn K (.ref a_Midrow_take) = true)
    (g1_Midrow_number_of : PySem.W.findIn K (.ref A_Midrow) "number_of" = some (some (.ref a_Midrow_number_of)))
    (g2_Midrow_number_of : PySem.W.isFn K (.ref a_Midrow_number_of) = true)
    (g1_Midrow_oldest : PySem.W.findIn K (.ref A_Midrow) "oldest" = some (some (.ref a_Midrow_oldest)))
    (g2_Midrow_oldest : PySem.W.isFn K (.ref a_Midrow_oldest) = true)
    (g1_Midrow_share : PySem.W.findIn K (.ref A_Midrow) "share" = some (some (.ref a_Midrow_share)))
    (g2_Midrow_share : PySem.W.isFn K (.ref a_Midrow_share) = true)
    (g1_Midrow_pile_of : PySem.W.findIn K (.ref A_Midrow) "pile_of" = some (some (.ref a_Midrow_pile_of)))
    (g2_Midrow_pile_of : PySem.W.isFn K (.ref a_Midrow_pile_of) = true)
    (g1_Midrow_settle : PySem.W.findIn K (.ref A_Midrow) "settle" = some (some (.ref a_Midrow_settle)))
    (g2_Midrow_settle : PySem.W.isFn K (.ref a_Midrow_settle) = true)
    : ∃ L : Lk, Txt K mg L ∧ ∀ (s : Shared) (v : Value), BindsTo s L.d_law ⟨[v], []⟩ [("_law_script", v)] := by
  have F_Pile___init__ := fun_mk (st := s_Pile___init__) l_Pile___init__ c_Pile___init__ k_Pile___init__
  have b_Pile___init__ := F_Pile___init__.binds (ps := ["self"]) fun _ _ _ _ _ _ us hl => match us, hl with | [_], _ => rfl
  have F_Pile_ahead := fun_mk (st := s_Pile_ahead) l_Pile_ahead c_Pile_ahead k_Pile_ahead
  have b_Pile_ahead := F_Pile_ahead.binds (ps := ["self", "one", "other"]) fun _ _ _ _ _ _ us hl => match us, hl with | [_, _, _], _ => rfl
  have F_Pile_many := fun_mk (st := s_Pile_many) l_Pile_many c_Pile_many k_Pile_many
  have b_Pile_many := F_Pile_many.binds (ps := ["self"]) fun _ _ _ _ _ _ us hl => match us, hl with | [_], _ => rfl
  have F_Pile_top := fun_mk (st := s_Pile_top) l_Pile_top c_Pile_top k_Pile_top
  have b_Pile_top := F_Pile_top.binds (ps := ["self"]) fun _ _ _ _ _ _ us hl => match us, hl with | [_], _ => rfl
  have F_Pile_put := fun_mk (st := s_Pile_put) l_Pile_put c_Pile_put k_Pile_put
  have b_Pile_put := F_Pile_put.binds (ps := ["self", "thing"]) fun _ _ _ _ _ _ us hl => match us, hl with | [_, _], _ => rfl
  have F_Pile_take := fun_mk (st := s_Pile_take) l_Pile_take c_Pile_take k_Pile_take
  have b_Pile_take := F_Pile_take.binds (ps := ["self", "coming"]) fun _ _ _ _ _ _ us hl => match us, hl with | [_, _], _ => rfl
  have F_Pile_fill := fun_mk (st := s_Pile_fill) l_Pile_fill c_Pile_fill k_Pile_fill
  have b_Pile_fill := F_Pile_fill.binds (ps := ["self", "thing", "at"]) fun _ _ _ _ _ _ us hl => match us, hl with | [_, _, _], _ => rfl
  have F_Pile_rise := fun_mk (st := s_Pile_rise) l_Pile_rise c_Pile_rise k_Pile_rise
  have b_Pile_rise := F_Pile_rise.binds (ps := ["self", "thing", "at"]) fun _ _ _ _ _ _ us hl => match us, hl with | [_, _, _], _ => rfl
  have F_Pile_is_ahead_of_upper := fun_mk (st := s_Pile_is_ahead_of_upper) l_Pile_is_ahead_of_upper c_Pile_is_ahead_of_upper k_Pile_is_ahead_of_upper
  have b_Pile_is_ahead_of_upper := F_Pile_is_ahead_of_upper.binds (ps := ["self", "thing", "at"]) fun _ _ _ _ _ _ us hl => match us, hl with | [_, _, _], _ => rfl
  have F_Pile_sink := fun_mk (st := s_Pile_sink) l_Pile_sink c_Pile_sink k_Pile_sink
  have b_Pile_sink := F_Pile_sink.binds (ps := ["self", "thing", "at"]) fun _ _ _ _ _ _ us hl => match us, hl with | [_, _, _], _ => rfl
  have F_Pile_place_under := fun_mk (st := s_Pile_place_under) l_Pile_place_under c_Pile_place_under k_Pile_place_under
  have b_Pile_place_under := F_Pile_place_under.binds (ps := ["self", "at"]) fun _ _ _ _ _ _ us hl => match us, hl with | [_, _], _ => rfl
  have F_Pile_lay := fun_mk (st := s_Pile_lay) l_Pile_lay c_Pile_lay k_Pile_lay
  have b_Pile_lay := F_Pile_lay.binds (ps := ["self", "thing", "at"]) fun _ _ _ _ _ _ us hl => match us, hl with | [_, _, _], _ => rfl
  have F_Turned_ahead := fun_mk (st := s_Turned_ahead) l_Turned_ahead c_Turned_ahead k_Turned_ahead
  have b_Turned_ahead := F_Turned_ahead.binds (ps := ["self", "one", "other"]) fun _ _ _ _ _ _ us hl => match us, hl with | [_, _, _], _ => rfl
  have F_check_share := fun_mk (st := s_check_share) l_check_share c_check_share k_check_share
  have b_check_share := F_check_share.binds (ps := ["part", "whole"]) fun _ _ _ _ _ _ us hl => match us, hl with | [_, _], _ => rfl
  have F_place := fun_mk (st := s_place) l_place c_place k_place
  have b_place := F_place.binds (ps := ["many", "part", "whole"]) fun _ _ _ _ _ _ us hl => match us, hl with | [_, _, _], _ => rfl
  have F_move_top := fun_mk (st := s_move_top) l_move_top c_move_top k_move_top
  have b_move_top := F_move_top.binds (ps := ["source", "target"]) fun _ _ _ _ _ _ us hl => match us, hl with | [_, _], _ => rfl
  have F_Midrow___init__ : FunD K "__init__" "Midrow.__init__" s_Midrow___init__ a_Midrow___init__ (PySem.W.fnOf "__init__" "Midrow.__init__" (defArgs s_Midrow___init__) (defBody s_Midrow___init__) (defScope s_Midrow___init__) (.ref T_Midrow___init__) kV_Midrow___init__ dc_Midrow___init__ pm_Midrow___init__ an_Midrow___init__ cd_Midrow___init__ ct_Midrow___init__) [.int 1 tk1_Midrow___init__, .int 2 tk2_Midrow___init__] := ⟨⟨_, _, _, _, _, _, _, _, _, _, _, _, rfl, l_Midrow___init__, c_Midrow___init__, dl_Midrow___init__, dd_Midrow___init__⟩, k_Midrow___init__⟩
  have b_Midrow___init__ : Binds K (PySem.W.fnOf "__init__" "Midrow.__init__" (defArgs s_Midrow___init__) (defBody s_Midrow___init__) (defScope s_Midrow___init__) (.ref T_Midrow___init__) kV_Midrow___init__ dc_Midrow___init__ pm_Midrow___init__ an_Midrow___init__ cd_Midrow___init__ ct_Midrow___init__) ["self", "part", "whole"] ([]) := F_Midrow___init__.binds fun _ _ _ _ _ _ _ us hl => match us, (show us.length = 3 by simp at hl; omega) with | [u0, u1, u2], _ => ⟨_, rfl, rfl⟩
  have b_Midrow___init___1 : Binds K (PySem.W.fnOf "__init__" "Midrow.__init__" (defArgs s_Midrow___init__) (defBody s_Midrow___init__) (defScope s_Midrow___init__) (.ref T_Midrow___init__) kV_Midrow___init__ dc_Midrow___init__ pm_Midrow___init__ an_Midrow___init__ cd_Midrow___init__ ct_Midrow___init__) ["self", "part", "whole"] (([.int 1 tk1_Midrow___init__, .int 2 tk2_Midrow___init__] : List Value).drop 1) := F_Midrow___init__.binds fun _ _ _ _ _ _ _ us hl => match us, (show us.length = 2 by simp at hl; omega) with | [u0, u1], _ => ⟨_, rfl, rfl⟩
  have v_Midrow___init___1 : Vals [.int 2] (([.int 1 tk1_Midrow___init__, .int 2 tk2_Midrow___init__] : List Value).drop 1) := .cons ⟨_, rfl⟩ (.nil)
  have b_Midrow___init___2 : Binds K (PySem.W.fnOf "__init__" "Midrow.__init__" (defArgs s_Midrow___init__) (defBody s_Midrow___init__) (defScope s_Midrow___init__) (.ref T_Midrow___init__) kV_Midrow___init__ dc_Midrow___init__ pm_Midrow___init__ an_Midrow___init__ cd_Midrow___init__ ct_Midrow___init__) ["self", "part", "whole"] (([.int 1 tk1_Midrow___init__, .int 2 tk2_Midrow___init__] : List Value).drop 0) := F_Midrow___init__.binds fun _ _ _ _ _ _ _ us hl => match us, (show us.length = 1 by simp at hl; omega) with | [u0], _ => ⟨_, rfl, rfl⟩
  have v_Midrow___init___2 : Vals [.int 1, .int 2] (([.int 1 tk1_Midrow___init__, .int 2 tk2_Midrow___init__] : List Value).drop 0) := .cons ⟨_, rfl⟩ (.cons ⟨_, rfl⟩ (.nil))
  have F_Midrow_many := fun_mk (st := s_Midrow_many) l_Midrow_many c_Midrow_many k_Midrow_many
  have b_Midrow_many := F_Midrow_many.binds (ps := ["self"]) fun _ _ _ _ _ _ us hl => match us, hl with | [_], _ => rfl
  have F_Midrow_put := fun_mk (st := s_Midrow_put) l_Midrow_put c_Midrow_put k_Midrow_put
  have b_Midrow_put := F_Midrow_put.binds (ps := ["self", "number"]) fun _ _ _ _ _ _ us hl => match us, hl with | [_, _], _ => rfl
  have F_Midrow_take := fun_mk (st := s_Midrow_take) l_Midrow_take c_Midrow_take k_Midrow_take
  have b_Midrow_take := F_Midrow_take.binds (ps := ["self", "coming"]) fun _ _ _ _ _ _ us hl => match us, hl with | [_, _], _ => rfl
  have F_Midrow_number_of := fun_mk (st := s_Midrow_number_of) l_Midrow_number_of c_Midrow_number_of k_Midrow_number_of
  have b_Midrow_number_of := F_Midrow_number_of.binds (ps := ["self", "coming"]) fun _ _ _ _ _ _ us hl => match us, hl with | [_, _], _ => rfl
  have F_Midrow_oldest := fun_mk (st := s_Midrow_oldest) l_Midrow_oldest c_Midrow_oldest k_Midrow_oldest
  have b_Midrow_oldest := F_Midrow_oldest.binds (ps := ["self"]) fun _ _ _ _ _ _ us hl => match us, hl with | [_], _ => rfl
  have F_Midrow_share := fun_mk (st := s_Midrow_share) l_Midrow_share c_Midrow_share k_Midrow_share
  have b_Midrow_share := F_Midrow_share.binds (ps := ["self"]) fun _ _ _ _ _ _ us hl => match us, hl with | [_], _ => rfl
  have F_Midrow_pile_of := fun_mk (st := s_Midrow_pile_of) l_Midrow_pile_of c_Midrow_pile_of k_Midrow_pile_of
  have b_Midrow_pile_of := F_Midrow_pile_of.binds (ps := ["self", "thing"]) fun _ _ _ _ _ _ us hl => match us, hl with | [_, _], _ => rfl
  have F_Midrow_settle := fun_mk (st := s_Midrow_settle) l_Midrow_settle c_Midrow_settle k_Midrow_settle
  have b_Midrow_settle := F_Midrow_settle.binds (ps := ["self"]) fun _ _ _ _ _ _ us hl => match us, hl with | [_], _ => rfl
  have F__law_at := fun_mk (st := s__law_at) l__law_at c__law_at k__law_at
  have b__law_at := F__law_at.binds (ps := ["_law_script", "_law_k"]) fun _ _ _ _ _ _ us hl => match us, hl with | [_, _], _ => rfl
  have F__law_is := fun_mk (st := s__law_is) l__law_is c__law_is k__law_is
  have b__law_is := F__law_is.binds (ps := ["_law_found", "_law_due"]) fun _ _ _ _ _ _ us hl => match us, hl with | [_, _], _ => rfl
  have F__law_number := fun_mk (st := s__law_number) l__law_number c__law_number k__law_number
  have b__law_number := F__law_number.binds (ps := ["_law_load"]) fun _ _ _ _ _ _ us hl => match us, hl with | [_], _ => rfl
  have F__law_no_number := fun_mk (st := s__law_no_number) l__law_no_number c__law_no_number k__law_no_number
  have b__law_no_number := F__law_no_number.binds (ps := ["_law_row", "_law_coming"]) fun _ _ _ _ _ _ us hl => match us, hl with | [_, _], _ => rfl
  have F__law_no_take := fun_mk (st := s__law_no_take) l__law_no_take c__law_no_take k__law_no_take
  have b__law_no_take := F__law_no_take.binds (ps := ["_law_row", "_law_coming"]) fun _ _ _ _ _ _ us hl => match us, hl with | [_, _], _ => rfl
  have F__law_no_oldest := fun_mk (st := s__law_no_oldest) l__law_no_oldest c__law_no_oldest k__law_no_oldest
  have b__law_no_oldest := F__law_no_oldest.binds (ps := ["_law_row"]) fun _ _ _ _ _ _ us hl => match us, hl with | [_], _ => rfl
  have F__law_look := fun_mk (st := s__law_look) l__law_look c__law_look k__law_look
  have b__law_look := F__law_look.binds (ps := ["_law_row", "_law_kept", "_law_load"]) fun _ _ _ _ _ _ us hl => match us, hl with | [_, _, _], _ => rfl
  have F__law_taken := fun_mk (st := s__law_taken) l__law_taken c__law_taken k__law_taken
  have b__law_taken := F__law_taken.binds (ps := ["_law_row", "_law_kept", "_law_at_here"]) fun _ _ _ _ _ _ us hl => match us, hl with | [_, _, _], _ => rfl
  have F__law_asked := fun_mk (st := s__law_asked) l__law_asked c__law_asked k__law_asked
  have b__law_asked := F__law_asked.binds (ps := ["_law_row", "_law_kept", "_law_coming"]) fun _ _ _ _ _ _ us hl => match us, hl with | [_, _, _], _ => rfl
  have F__law_put := fun_mk (st := s__law_put) l__law_put c__law_put k__law_put
  have b__law_put := F__law_put.binds (ps := ["_law_row", "_law_kept", "_law_came", "_law_number_here"]) fun _ _ _ _ _ _ us hl => match us, hl with | [_, _, _, _], _ => rfl
  have F_law := fun_mk (st := s_law) l_law c_law k_law
  have b_law := F_law.binds (ps := ["_law_script"]) fun _ _ _ _ _ _ us hl => match us, hl with | [_], _ => rfl
  exact ⟨{ MidError := A_MidError, NoShare := A_NoShare, NoThing := A_NoThing, Empty := A_Empty, Twice := A_Twice, NoWidth := A_NoWidth, Pile := A_Pile, Turned := A_Turned, Midrow := A_Midrow, a_Pile___init__ := a_Pile___init__, d_Pile___init__ := PySem.W.fnOf "__init__" "Pile.__init__" (defArgs s_Pile___init__) (defBody s_Pile___init__) (defScope s_Pile___init__) .none kV_Pile___init__ dc_Pile___init__ pm_Pile___init__ an_Pile___init__ cd_Pile___init__ ct_Pile___init__, a_Pile_ahead := a_Pile_ahead, d_Pile_ahead := PySem.W.fnOf "ahead" "Pile.ahead" (defArgs s_Pile_ahead) (defBody s_Pile_ahead) (defScope s_Pile_ahead) .none kV_Pile_ahead dc_Pile_ahead pm_Pile_ahead an_Pile_ahead cd_Pile_ahead ct_Pile_ahead, a_Pile_many := a_Pile_many, d_Pile_many := PySem.W.fnOf "many" "Pile.many" (defArgs s_Pile_many) (defBody s_Pile_many) (defScope s_Pile_many) .none kV_Pile_many dc_Pile_many pm_Pile_many an_Pile_many cd_Pile_many ct_Pile_many, a_Pile_top := a_Pile_top, d_Pile_top := PySem.W.fnOf "top" "Pile.top" (defArgs s_Pile_top) (defBody s_Pile_top) (defScope s_Pile_top) .none kV_Pile_top dc_Pile_top pm_Pile_top an_Pile_top cd_Pile_top ct_Pile_top, a_Pile_put := a_Pile_put, d_Pile_put := PySem.W.fnOf "put" "Pile.put" (defArgs s_Pile_put) (defBody s_Pile_put) (defScope s_Pile_put) .none kV_Pile_put dc_Pile_put pm_Pile_put an_Pile_put cd_Pile_put ct_Pile_put, a_Pile_take := a_Pile_take, d_Pile_take := PySem.W.fnOf "take" "Pile.take" (defArgs s_Pile_take) (defBody s_Pile_take) (defScope s_Pile_take) .none kV_Pile_take dc_Pile_take pm_Pile_take an_Pile_take cd_Pile_take ct_Pile_take, a_Pile_fill := a_Pile_fill, d_Pile_fill := PySem.W.fnOf "fill" "Pile.fill" (defArgs s_Pile_fill) (defBody s_Pile_fill) (defScope s_Pile_fill) .none kV_Pile_fill dc_Pile_fill pm_Pile_fill an_Pile_fill cd_Pile_fill ct_Pile_fill, a_Pile_rise := a_Pile_rise, d_Pile_rise := PySem.W.fnOf "rise" "Pile.rise" (defArgs s_Pile_rise) (defBody s_Pile_rise) (defScope s_Pile_rise) .none kV_Pile_rise dc_Pile_rise pm_Pile_rise an_Pile_rise cd_Pile_rise ct_Pile_rise, a_Pile_is_ahead_of_upper := a_Pile_is_ahead_of_upper, d_Pile_is_ahead_of_upper := PySem.W.fnOf "is_ahead_of_upper" "Pile.is_ahead_of_upper" (defArgs s_Pile_is_ahead_of_upper) (defBody s_Pile_is_ahead_of_upper) (defScope s_Pile_is_ahead_of_upper) .none kV_Pile_is_ahead_of_upper dc_Pile_is_ahead_of_upper pm_Pile_is_ahead_of_upper an_Pile_is_ahead_of_upper cd_Pile_is_ahead_of_upper ct_Pile_is_ahead_of_upper, a_Pile_sink := a_Pile_sink, d_Pile_sink := PySem.W.fnOf "sink" "Pile.sink" (defArgs s_Pile_sink) (defBody s_Pile_sink) (defScope s_Pile_sink) .none kV_Pile_sink dc_Pile_sink pm_Pile_sink an_Pile_sink cd_Pile_sink ct_Pile_sink, a_Pile_place_under := a_Pile_place_under, d_Pile_place_under := PySem.W.fnOf "place_under" "Pile.place_under" (defArgs s_Pile_place_under) (defBody s_Pile_place_under) (defScope s_Pile_place_under) .none kV_Pile_place_under dc_Pile_place_under pm_Pile_place_under an_Pile_place_under cd_Pile_place_under ct_Pile_place_under, a_Pile_lay := a_Pile_lay, d_Pile_lay := PySem.W.fnOf "lay" "Pile.lay" (defArgs s_Pile_lay) (defBody s_Pile_lay) (defScope s_Pile_lay) .none kV_Pile_lay dc_Pile_lay pm_Pile_lay an_Pile_lay cd_Pile_lay ct_Pile_lay, a_Turned_ahead := a_Turned_ahead, d_Turned_ahead := PySem.W.fnOf "ahead" "Turned.ahead" (defArgs s_Turned_ahead) (defBody s_Turned_ahead) (defScope s_Turned_ahead) .none kV_Turned_ahead dc_Turned_ahead pm_Turned_ahead an_Turned_ahead cd_Turned_ahead ct_Turned_ahead, a_check_share := a_check_share, d_check_share := PySem.W.fnOf "check_share" "check_share" (defArgs s_check_share) (defBody s_check_share) (defScope s_check_share) .none kV_check_share dc_check_share pm_check_share an_check_share cd_check_share ct_check_share, a_place := a_place, d_place := PySem.W.fnOf "place" "place" (defArgs s_place) (defBody s_place) (defScope s_place) .none kV_place dc_place pm_place an_place cd_place ct_place, a_move_top := a_move_top, d_move_top := PySem.W.fnOf "move_top" "move_top" (defArgs s_move_top) (defBody s_move_top) (defScope s_move_top) .none kV_move_top dc_move_top pm_move_top an_move_top cd_move_top ct_move_top, a_Midrow___init__ := a_Midrow___init__, d_Midrow___init__ := PySem.W.fnOf "__init__" "Midrow.__init__" (defArgs s_Midrow___init__) (defBody s_Midrow___init__) (defScope s_Midrow___init__) (.ref T_Midrow___init__) kV_Midrow___init__ dc_Midrow___init__ pm_Midrow___init__ an_Midrow___init__ cd_Midrow___init__ ct_Midrow___init__, v_Midrow___init__ := [.int 1 tk1_Midrow___init__, .int 2 tk2_Midrow___init__], a_Midrow_many := a_Midrow_many, d_Midrow_many := PySem.W.fnOf "many" "Midrow.many" (defArgs s_Midrow_many) (defBody s_Midrow_many) (defScope s_Midrow_many) .none kV_Midrow_many dc_Midrow_many pm_Midrow_many an_Midrow_many cd_Midrow_many ct_Midrow_many, a_Midrow_put := a_Midrow_put, d_Midrow_put := PySem.W.fnOf "put" "Midrow.put" (defArgs s_Midrow_put) (defBody s_Midrow_put) (defScope s_Midrow_put) .none kV_Midrow_put dc_Midrow_put pm_Midrow_put an_Midrow_put cd_Midrow_put ct_Midrow_put, a_Midrow_take := a_Midrow_take, d_Midrow_take := PySem.W.fnOf "take" "Midrow.take" (defArgs s_Midrow_take) (defBody s_Midrow_take) (defScope s_Midrow_take) .none kV_Midrow_take dc_Midrow_take pm_Midrow_take an_Midrow_take cd_Midrow_take ct_Midrow_take, a_Midrow_number_of := a_Midrow_number_of, d_Midrow_number_of := PySem.W.fnOf "number_of" "Midrow.number_of" (defArgs s_Midrow_number_of) (defBody s_Midrow_number_of) (defScope s_Midrow_number_of) .none kV_Midrow_number_of dc_Midrow_number_of pm_Midrow_number_of an_Midrow_number_of cd_Midrow_number_of ct_Midrow_number_of, a_Midrow_oldest := a_Midrow_oldest, d_Midrow_oldest := PySem.W.fnOf "oldest" "Midrow.oldest" (defArgs s_Midrow_oldest) (defBody s_Midrow_oldest) (defScope s_Midrow_oldest) .none kV_Midrow_oldest dc_Midrow_oldest pm_Midrow_oldest an_Midrow_oldest cd_Midrow_oldest ct_Midrow_oldest, a_Midrow_share := a_Midrow_share, d_Midrow_share := PySem.W.fnOf "share" "Midrow.share" (defArgs s_Midrow_share) (defBody s_Midrow_share) (defScope s_Midrow_share) .none kV_Midrow_share dc_Midrow_share pm_Midrow_share an_Midrow_share cd_Midrow_share ct_Midrow_share, a_Midrow_pile_of := a_Midrow_pile_of, d_Midrow_pile_of := PySem.W.fnOf "pile_of" "Midrow.pile_of" (defArgs s_Midrow_pile_of) (defBody s_Midrow_pile_of) (defScope s_Midrow_pile_of) .none kV_Midrow_pile_of dc_Midrow_pile_of pm_Midrow_pile_of an_Midrow_pile_of cd_Midrow_pile_of ct_Midrow_pile_of, a_Midrow_settle := a_Midrow_settle, d_Midrow_settle := PySem.W.fnOf "settle" "Midrow.settle" (defArgs s_Midrow_settle) (defBody s_Midrow_settle) (defScope s_Midrow_settle) .none kV_Midrow_settle dc_Midrow_settle pm_Midrow_settle an_Midrow_settle cd_Midrow_settle ct_Midrow_settle, a__law_at := a__law_at, d__law_at := PySem.W.fnOf "_law_at" "_law_at" (defArgs s__law_at) (defBody s__law_at) (defScope s__law_at) .none kV__law_at dc__law_at pm__law_at an__law_at cd__law_at ct__law_at, a__law_is := a__law_is, d__law_is := PySem.W.fnOf "_law_is" "_law_is" (defArgs s__law_is) (defBody s__law_is) (defScope s__law_is) .none kV__law_is dc__law_is pm__law_is an__law_is cd__law_is ct__law_is, a__law_number := a__law_number, d__law_number := PySem.W.fnOf "_law_number" "_law_number" (defArgs s__law_number) (defBody s__law_number) (defScope s__law_number) .none kV__law_number dc__law_number pm__law_number an__law_number cd__law_number ct__law_number, a__law_no_number := a__law_no_number, d__law_no_number := PySem.W.fnOf "_law_no_number" "_law_no_number" (defArgs s__law_no_number) (defBody s__law_no_number) (defScope s__law_no_number) .none kV__law_no_number dc__law_no_number pm__law_no_number an__law_no_number cd__law_no_number ct__law_no_number, a__law_no_take := a__law_no_take, d__law_no_take := PySem.W.fnOf "_law_no_take" "_law_no_take" (defArgs s__law_no_take) (defBody s__law_no_take) (defScope s__law_no_take) .none kV__law_no_take dc__law_no_take pm__law_no_take an__law_no_take cd__law_no_take ct__law_no_take, a__law_no_oldest := a__law_no_oldest, d__law_no_oldest := PySem.W.fnOf "_law_no_oldest" "_law_no_oldest" (defArgs s__law_no_oldest) (defBody s__law_no_oldest) (defScope s__law_no_oldest) .none kV__law_no_oldest dc__law_no_oldest pm__law_no_oldest an__law_no_oldest cd__law_no_oldest ct__law_no_oldest, a__law_look := a__law_look, d__law_look := PySem.W.fnOf "_law_look" "_law_look" (defArgs s__law_look) (defBody s__law_look) (defScope s__law_look) .none kV__law_look dc__law_look pm__law_look an__law_look cd__law_look ct__law_look, a__law_taken := a__law_taken, d__law_taken := PySem.W.fnOf "_law_taken" "_law_taken" (defArgs s__law_taken) (defBody s__law_taken) (defScope s__law_taken) .none kV__law_taken dc__law_taken pm__law_taken an__law_taken cd__law_taken ct__law_taken, a__law_asked := a__law_asked, d__law_asked := PySem.W.fnOf "_law_asked" "_law_asked" (defArgs s__law_asked) (defBody s__law_asked) (defScope s__law_asked) .none kV__law_asked dc__law_asked pm__law_asked an__law_asked cd__law_asked ct__law_asked, a__law_put := a__law_put, d__law_put := PySem.W.fnOf "_law_put" "_law_put" (defArgs s__law_put) (defBody s__law_put) (defScope s__law_put) .none kV__law_put dc__law_put pm__law_put an__law_put cd__law_put ct__law_put, a_law := a_law, d_law := PySem.W.fnOf "law" "law" (defArgs s_law) (defBody s_law) (defScope s_law) .none kV_law dc_law pm_law an_law cd_law ct_law }, ⟨PySem.W.mg_none_of X G z_len, PySem.W.mg_none_of X G z_max, PySem.W.mg_none_of X G z_min, PySem.W.mg_none_of X G z_isinstance, PySem.W.mg_none_of X G z_int, PySem.W.mg_none_of X G z_bool, PySem.W.mg_none_of X G z_enumerate, PySem.W.mg_none_of X G z_ValueError, PySem.W.mg_of X G m_MidError, PySem.W.mg_of X G m_NoShare, PySem.W.mg_of X G m_NoThing, PySem.W.mg_of X G m_Empty, PySem.W.mg_of X G m_Twice, PySem.W.mg_of X G m_NoWidth, PySem.W.mg_of X G m_Pile, PySem.W.mg_of X G m_Turned, PySem.W.mg_of X G m_Midrow, excC_of x_NoShare, ⟨xa_NoShare, xb_NoShare, xc_NoShare, xd_NoShare, xe_NoShare, xf_NoShare⟩, excC_of x_NoThing, ⟨xa_NoThing, xb_NoThing, xc_NoThing, xd_NoThing, xe_NoThing, xf_NoThing⟩, excC_of x_Empty, ⟨xa_Empty, xb_Empty, xc_Empty, xd_Empty, xe_Empty, xf_Empty⟩, excC_of x_Twice, ⟨xa_Twice, xb_Twice, xc_Twice, xd_Twice, xe_Twice, xf_Twice⟩, ka_Empty, ks_Empty, kv_Empty, ⟨tk_Empty⟩, ka_NoThing, ks_NoThing, kv_NoThing, ⟨tk_NoThing⟩, ⟨p1_Pile, p2_Pile, p3_Pile, p4_Pile⟩, na_Pile_held, na_Pile_high, na_Pile_last_coming, na_Pile_low, na_Pile_numbers, na_Pile_part, na_Pile_spots, na_Pile_total, na_Pile_whole, ⟨p1_Turned, p2_Turned, p3_Turned, p4_Turned⟩, na_Turned_held, na_Turned_high, na_Turned_last_coming, na_Turned_low, na_Turned_numbers, na_Turned_part, na_Turned_spots, na_Turned_total, na_Turned_whole, ⟨p1_Midrow, p2_Midrow, p3_Midrow, p4_Midrow⟩, na_Midrow_held, na_Midrow_high, na_Midrow_last_coming, na_Midrow_low, na_Midrow_numbers, na_Midrow_part, na_Midrow_spots, na_Midrow_total, na_Midrow_whole, (fun e => by have h := ne_Pile_Turned; rw [show A_Pile = A_Turned from e] at h; simp at h), k_Pile___init__, b_Pile___init__, F_Pile___init__, k_Pile_ahead, b_Pile_ahead, F_Pile_ahead, k_Pile_many, b_Pile_many, F_Pile_many, k_Pile_top, b_Pile_top, F_Pile_top, k_Pile_put, b_Pile_put, F_Pile_put, k_Pile_take, b_Pile_take, F_Pile_take, k_Pile_fill, b_Pile_fill, F_Pile_fill, k_Pile_rise, b_Pile_rise, F_Pile_rise, k_Pile_is_ahead_of_upper, b_Pile_is_ahead_of_upper, F_Pile_is_ahead_of_upper, k_Pile_sink, b_Pile_sink, F_Pile_sink, k_Pile_place_under, b_Pile_place_under, F_Pile_place_under, k_Pile_lay, b_Pile_lay, F_Pile_lay, k_Turned_ahead, b_Turned_ahead, F_Turned_ahead, PySem.W.mg_of X G m_check_share, k_check_share, b_check_share, F_check_share, PySem.W.mg_of X G m_place, k_place, b_place, F_place, PySem.W.mg_of X G m_move_top, k_move_top, b_move_top, F_move_top, k_Midrow___init__, b_Midrow___init__, F_Midrow___init__, b_Midrow___init___1, v_Midrow___init___1, b_Midrow___init___2, v_Midrow___init___2, k_Midrow_many, b_Midrow_many, F_Midrow_many, k_Midrow_put, b_Midrow_put, F_Midrow_put, k_Midrow_take, b_Midrow_take, F_Midrow_take, k_Midrow_number_of, b_Midrow_number_of, F_Midrow_number_of, k_Midrow_oldest, b_Midrow_oldest, F_Midrow_oldest, k_Midrow_share, b_Midrow_share, F_Midrow_share, k_Midrow_pile_of, b_Midrow_pile_of, F_Midrow_pile_of, k_Midrow_settle, b_Midrow_settle, F_Midrow_settle, PySem.W.mg_of X G m__law_at, k__law_at, b__law_at, F__law_at, PySem.W.mg_of X G m__law_is, k__law_is, b__law_is, F__law_is, PySem.W.mg_of X G m__law_number, k__law_number, b__law_number, F__law_number, PySem.W.mg_of X G m__law_no_number, k__law_no_number, b__law_no_number, F__law_no_number, PySem.W.mg_of X G m__law_no_take, k__law_no_take, b__law_no_take, F__law_no_take, PySem.W.mg_of X G m__law_no_oldest, k__law_no_oldest, b__law_no_oldest, F__law_no_oldest, PySem.W.mg_of X G m__law_look, k__law_look, b__law_look, F__law_look, PySem.W.mg_of X G m__law_taken, k__law_taken, b__law_taken, F__law_taken, PySem.W.mg_of X G m__law_asked, k__law_asked, b__law_asked, F__law_asked, PySem.W.mg_of X G m__law_put, k__law_put, b__law_put, F__law_put, PySem.W.mg_of X G m_law, k_law, b_law, F_law, ⟨k1_Pile, k2_Pile, k3_Pile, k4_Pile⟩, ⟨g1_Pile_ahead, g2_Pile_ahead, k_Pile_ahead⟩, ⟨g1_Pile_many, g2_Pile_many, k_Pile_many⟩, ⟨g1_Pile_top, g2_Pile_top, k_Pile_top⟩, ⟨g1_Pile_put, g2_Pile_put, k_Pile_put⟩, ⟨g1_Pile_take, g2_Pile_take, k_Pile_take⟩, ⟨g1_Pile_fill, g2_Pile_fill, k_Pile_fill⟩, ⟨g1_Pile_rise, g2_Pile_rise, k_Pile_rise⟩, ⟨g1_Pile_is_ahead_of_upper, g2_Pile_is_ahead_of_upper, k_Pile_is_ahead_of_upper⟩, ⟨g1_Pile_sink, g2_Pile_sink, k_Pile_sink⟩, ⟨g1_Pile_place_under, g2_Pile_place_under, k_Pile_place_under⟩, ⟨g1_Pile_lay, g2_Pile_lay, k_Pile_lay⟩, ⟨k1_Turned, k2_Turned, k3_Turned, k4_Turned⟩, ⟨g1_Turned_ahead, g2_Turned_ahead, k_Turned_ahead⟩, ⟨g1_Turned_many, g2_Turned_many, k_Pile_many⟩, ⟨g1_Turned_top, g2_Turned_top, k_Pile_top⟩, ⟨g1_Turned_put, g2_Turned_put, k_Pile_put⟩, ⟨g1_Turned_take, g2_Turned_take, k_Pile_take⟩, ⟨g1_Turned_fill, g2_Turned_fill, k_Pile_fill⟩, ⟨g1_Turned_rise, g2_Turned_rise, k_Pile_rise⟩, ⟨g1_Turned_is_ahead_of_upper, g2_Turned_is_ahead_of_upper, k_Pile_is_ahead_of_upper⟩, ⟨g1_Turned_sink, g2_Turned_sink, k_Pile_sink⟩, ⟨g1_Turned_place_under, g2_Turned_place_under, k_Pile_place_under⟩, ⟨g1_Turned_lay, g2_Turned_lay, k_Pile_lay⟩, ⟨k1_Midrow, k2_Midrow, k3_Midrow, k4_Midrow⟩, ⟨g1_Midrow_many, g2_Midrow_many, k_Midrow_many⟩, ⟨g1_Midrow_put, g2_Midrow_put, k_Midrow_put⟩, ⟨g1_Midrow_take, g2_Midrow_take, k_Midrow_take⟩, ⟨g1_Midrow_number_of, g2_Midrow_number_of, k_Midrow_number_of⟩, ⟨g1_Midrow_oldest, g2_Midrow_oldest, k_Midrow_oldest⟩, ⟨g1_Midrow_share, g2_Midrow_share, k_Midrow_share⟩, ⟨g1_Midrow_pile_of, g2_Midrow_pile_of, k_Midrow_pile_of⟩, ⟨g1_Midrow_settle, g2_Midrow_settle, k_Midrow_settle⟩⟩, fun s v => .of_eq rfl⟩
theorem walk {l : PySem.W.OpenLaw} {q : Program} {loose : List Str} {XP : (Str → Option Value) → Heap → Prop} {YP : World → Heap → Prop} {d : DefRec} {K : Params → PySem.W.Frag} (hn : l.most = some 63) (hdf : d.params.defaults = [])
    (hY : ∀ (w : World) (h : Heap), YP w h → (K w.params).In h)
    (F : ∀ (w : World) (mg : Str → Option Value) (fa : Addr) (h : Heap), (K w.params).In h → h.Ns mainGlobals mg → mg d.name = some (.ref fa) →
      ∃ L : Lk, Txt (K w.params) mg L ∧ ∀ (s : Shared) (v : Value), BindsTo s L.d_law ⟨[v], []⟩ [("_law_script", v)]) (hnm : d.name = "law") :
    PySem.W.WalkO q loose XP YP l.row.toRowW d [] (fun f vs => PySem.call f vs) :=
  L2.walk_of (n := 63) (k := 60) (x := "_law_script") (CX := fun w => CXE l.prog w) (sp := fun w => spLaw (K w.params)) hn (by decide) hdf ⟨rfl, by decide, by decide⟩ hY
    (fun w mg fa h KX G hmg => by
      obtain ⟨L, T, b⟩ := F w mg fa h KX G hmg
      have e : some (Value.ref fa) = some (Value.ref L.a_law) := by
        rw [hnm] at hmg
        exact hmg.symm.trans T.m_law
      cases e
      exact ⟨L.d_law, b, fun base _ _ => ok_law T⟩)
    (fun _ _ a ns hl _ hS => ⟨a, ns, rfl, hS, hl, fun _ => rfl⟩) fun _ _ _ _ _ z => by
      obtain ⟨_, _, _, _, _, z⟩ := z
      exact z
end K05
def PySem.W.Fast.tw7031480513733870665 : Unit := ()
def PySem.W.Fast.tw13538946206096933350 : Unit := ()
def PySem.W.Fast.tw1241264818820571074 : Unit := ()
def PySem.W.Fast.tw4633428516138340479 : Unit := ()
def PySem.W.Fast.tw4449903364638955904 : Unit := ()
def PySem.W.Fast.tw6653784103166330809 : Unit := ()
def PySem.W.Fast.tw6871559049991080039 : Unit := ()
def PySem.W.Fast.tw14433229059136275128 : Unit := ()
def PySem.W.Fast.tw4015230286652901102 : Unit := ()
def PySem.W.Fast.tw15913058978208018583 : Unit := ()
def PySem.W.Fast.tw6770787315182914226 : Unit := ()
def PySem.W.Fast.tw7609020889822557043 : Unit := ()
def PySem.W.Fast.tw1524364530088431240 : Unit := ()
open PySem PySem.W PyProof.Rows
set_option maxRecDepth 100000 in
set_option maxHeartbeats 0 in
theorem PySem.Challenge.cw_midpile_k05_numbers_of_comings_holds : PySem.Challenge.rw_midpile_k05_numbers_of_comings.Holds := by
  w_on; o_law; k_head; (case hw => w_witness2)
  k_fill
  refine K05.walk (l := PySem.Challenge.rw_midpile_k05_numbers_of_comings) rfl rfl (fun w h Y => PySem.W.kIn_of Y) ?F rfl
  case F =>
    intro w mg fa h KX G hmg
    refine' K05.txt_mk KX G ?z_len ?z_max ?z_min ?z_isinstance ?z_int ?z_bool ?z_enumerate ?z_ValueError ?m_MidError ?m_NoShare ?m_NoThing ?m_Empty ?m_Twice ?m_NoWidth ?m_Pile ?m_Turned ?m_Midrow ?x_NoShare ?xa_NoShare ?xb_NoShare ?xc_NoShare ?xd_NoShare ?xe_NoShare ?xf_NoShare ?x_NoThing ?xa_NoThing ?xb_NoThing ?xc_NoThing ?xd_NoThing ?xe_NoThing ?xf_NoThing ?x_Empty ?xa_Empty ?xb_Empty ?xc_Empty ?xd_Empty ?xe_Empty ?xf_Empty ?x_Twice ?xa_Twice ?xb_Twice ?xc_Twice ?xd_Twice ?xe_Twice ?xf_Twice ?ka_Empty ?ks_Empty ?kv_Empty ?tk_Empty ?ka_NoThing ?ks_NoThing ?kv_NoThing ?tk_NoThing ?p1_Pile ?p2_Pile ?p3_Pile ?p4_Pile ?na_Pile_held ?na_Pile_high ?na_Pile_last_coming ?na_Pile_low ?na_Pile_numbers ?na_Pile_part ?na_Pile_spots ?na_Pile_total ?na_Pile_whole ?p1_Turned ?p2_Turned ?p3_Turned ?p4_Turned ?na_Turned_held ?na_Turned_high ?na_Turned_last_coming ?na_Turned_low ?na_Turned_numbers ?na_Turned_part ?na_Turned_spots ?na_Turned_total ?na_Turned_whole ?p1_Midrow ?p2_Midrow ?p3_Midrow ?p4_Midrow ?na_Midrow_held ?na_Midrow_high ?na_Midrow_last_coming ?na_Midrow_low ?na_Midrow_numbers ?na_Midrow_part ?na_Midrow_spots ?na_Midrow_total ?na_Midrow_whole ?ne_Pile_Turned ?at_Pile___init__ ?l_Pile___init__ ?c_Pile___init__ ?k_Pile___init__ ?at_Pile_ahead ?l_Pile_ahead ?c_Pile_ahead ?k_Pile_ahead ?at_Pile_many ?l_Pile_many ?c_Pile_many ?k_Pile_many ?at_Pile_top ?l_Pile_top ?c_Pile_top ?k_Pile_top ?at_Pile_put ?l_Pile_put ?c_Pile_put ?k_Pile_put ?at_Pile_take ?l_Pile_take ?c_Pile_take ?k_Pile_take ?at_Pile_fill ?l_Pile_fill ?c_Pile_fill ?k_Pile_fill ?at_Pile_rise ?l_Pile_rise ?c_Pile_rise ?k_Pile_rise ?at_Pile_is_ahead_of_upper ?l_Pile_is_ahead_of_upper ?c_Pile_is_ahead_of_upper ?k_Pile_is_ahead_of_upper ?at_Pile_sink ?l_Pile_sink ?c_Pile_sink ?k_Pile_sink ?at_Pile_place_under ?l_Pile_place_under ?c_Pile_place_under ?k_Pile_place_under ?at_Pile_lay ?l_Pile_lay ?c_Pile_lay ?k_Pile_lay ?at_Turned_ahead ?l_Turned_ahead ?c_Turned_ahead ?k_Turned_ahead ?m_check_share ?l_check_share ?c_check_share ?k_check_share ?m_place ?l_place ?c_place ?k_place ?m_move_top ?l_move_top ?c_move_top ?k_move_top ?at_Midrow___init__ ?l_Midrow___init__ ?c_Midrow___init__ ?k_Midrow___init__ ?dl_Midrow___init__ ?dd_Midrow___init__ ?at_Midrow_many ?l_Midrow_many ?c_Midrow_many ?k_Midrow_many ?at_Midrow_put ?l_Midrow_put ?c_Midrow_put ?k_Midrow_put ?at_Midrow_take ?l_Midrow_take ?c_Midrow_take ?k_Midrow_take ?at_Midrow_number_of ?l_Midrow_number_of ?c_Midrow_number_of ?k_Midrow_number_of ?at_Midrow_oldest ?l_Midrow_oldest ?c_Midrow_oldest ?k_Midrow_oldest ?at_Midrow_share ?l_Midrow_share ?c_Midrow_share ?k_Midrow_share ?at_Midrow_pile_of ?l_Midrow_pile_of ?c_Midrow_pile_of ?k_Midrow_pile_of ?at_Midrow_settle ?l_Midrow_settle ?c_Midrow_settle ?k_Midrow_settle ?m__law_at ?l__law_at ?c__law_at ?k__law_at ?m__law_is ?l__law_is ?c__law_is ?k__law_is ?m__law_number ?l__law_number ?c__law_number ?k__law_number ?m__law_no_number ?l__law_no_number ?c__law_no_number ?k__law_no_number ?m__law_no_take ?l__law_no_take ?c__law_no_take ?k__law_no_take ?m__law_no_oldest ?l__law_no_oldest ?c__law_no_oldest ?k__law_no_oldest ?m__law_look ?l__law_look ?c__law_look ?k__law_look ?m__law_taken ?l__law_taken ?c__law_taken ?k__law_taken ?m__law_asked ?l__law_asked ?c__law_asked ?k__law_asked ?m__law_put ?l__law_put ?c__law_put ?k__law_put ?m_law ?l_law ?c_law ?k_law ?k1_Pile ?k2_Pile ?k3_Pile ?k4_Pile ?g1_Pile_ahead ?g2_Pile_ahead ?g1_Pile_many ?g2_Pile_many ?g1_Pile_top ?g2_Pile_top ?g1_Pile_put ?g2_Pile_put ?g1_Pile_take ?g2_Pile_take ?g1_Pile_fill ?g2_Pile_fill ?g1_Pile_rise ?g2_Pile_rise ?g1_Pile_is_ahead_of_upper ?g2_Pile_is_ahead_of_upper ?g1_Pile_sink ?g2_Pile_sink ?g1_Pile_place_under ?g2_Pile_place_under ?g1_Pile_lay ?g2_Pile_lay ?k1_Turned ?k2_Turned ?k3_Turned ?k4_Turned ?g1_Turned_ahead ?g2_Turned_ahead ?g1_Turned_many ?g2_Turned_many ?g1_Turned_top ?g2_Turned_top ?g1_Turned_put ?g2_Turned_put ?g1_Turned_take ?g2_Turned_take ?g1_Turned_fill ?g2_Turned_fill ?g1_Turned_rise ?g2_Turned_rise ?g1_Turned_is_ahead_of_upper ?g2_Turned_is_ahead_of_upper ?g1_Turned_sink ?g2_Turned_sink ?g1_Turned_place_under ?g2_Turned_place_under ?g1_Turned_lay ?g2_Turned_lay ?k1_Midrow ?k2_Midrow ?k3_Midrow ?k4_Midrow ?g1_Midrow_many ?g2_Midrow_many ?g1_Midrow_put ?g2_Midrow_put ?g1_Midrow_take ?g2_Midrow_take ?g1_Midrow_number_of ?g2_Midrow_number_of ?g1_Midrow_oldest ?g2_Midrow_oldest ?g1_Midrow_share ?g2_Midrow_share ?g1_Midrow_pile_of ?g2_Midrow_pile_of ?g1_Midrow_settle ?g2_Midrow_settle
    (case z_len => first | k_is | k_exc | kernel_rfl)
    (case z_max => first | k_is | k_exc | kernel_rfl)
    (case z_min => first | k_is | k_exc | kernel_rfl)
    (case z_isinstance => first | k_is | k_exc | kernel_rfl)
    (case z_int => first | k_is | k_exc | kernel_rfl)
    (case z_bool => first | k_is | k_exc | kernel_rfl)
    (case z_enumerate => first | k_is | k_exc | kernel_rfl)
    (case z_ValueError => first | k_is | k_exc | kernel_rfl)
    (case m_MidError => first | k_is | k_exc | kernel_rfl)
    (case m_NoShare => first | k_is | k_exc | kernel_rfl)
    (case m_NoThing => first | k_is | k_exc | kernel_rfl)
    (case m_Empty => first | k_is | k_exc | kernel_rfl)
    (case m_Twice => first | k_is | k_exc | kernel_rfl)
    (case m_NoWidth => first | k_is | k_exc | kernel_rfl)
    (case m_Pile => first | k_is | k_exc | kernel_rfl)
    (case m_Turned => first | k_is | k_exc | kernel_rfl)
    (case m_Midrow => first | k_is | k_exc | kernel_rfl)
    (case x_NoShare => first | k_is | k_exc | kernel_rfl)
    (case xa_NoShare => first | k_is | k_exc | kernel_rfl)
    (case xb_NoShare => first | k_is | k_exc | kernel_rfl)
    (case xc_NoShare => first | k_is | k_exc | kernel_rfl)
    (case xd_NoShare => first | k_is | k_exc | kernel_rfl)
    (case xe_NoShare => first | k_is | k_exc | kernel_rfl)
    (case xf_NoShare => first | k_is | k_exc | kernel_rfl)
    (case x_NoThing => first | k_is | k_exc | kernel_rfl)
    (case xa_NoThing => first | k_is | k_exc | kernel_rfl)
    (case xb_NoThing => first | k_is | k_exc | kernel_rfl)
    (case xc_NoThing => first | k_is | k_exc | kernel_rfl)
    (case xd_NoThing => first | k_is | k_exc | kernel_rfl)
    (case xe_NoThing => first | k_is | k_exc | kernel_rfl)
    (case xf_NoThing => first | k_is | k_exc | kernel_rfl)
    (case x_Empty => first | k_is | k_exc | kernel_rfl)
    (case xa_Empty => first | k_is | k_exc | kernel_rfl)
    (case xb_Empty => first | k_is | k_exc | kernel_rfl)
    (case xc_Empty => first | k_is | k_exc | kernel_rfl)
    (case xd_Empty => first | k_is | k_exc | kernel_rfl)
    (case xe_Empty => first | k_is | k_exc | kernel_rfl)
    (case xf_Empty => first | k_is | k_exc | kernel_rfl)
    (case x_Twice => first | k_is | k_exc | kernel_rfl)
    (case xa_Twice => first | k_is | k_exc | kernel_rfl)
    (case xb_Twice => first | k_is | k_exc | kernel_rfl)
    (case xc_Twice => first | k_is | k_exc | kernel_rfl)
    (case xd_Twice => first | k_is | k_exc | kernel_rfl)
    (case xe_Twice => first | k_is | k_exc | kernel_rfl)
    (case xf_Twice => first | k_is | k_exc | kernel_rfl)
    (case ka_Empty => first | k_is | k_exc | kernel_rfl)
    (case ks_Empty => first | k_is | k_exc | kernel_rfl)
    (case kv_Empty => first | k_is | k_exc | kernel_rfl)
    (case tk_Empty => first | k_is | k_exc | kernel_rfl)
    (case ka_NoThing => first | k_is | k_exc | kernel_rfl)
    (case ks_NoThing => first | k_is | k_exc | kernel_rfl)
    (case kv_NoThing => first | k_is | k_exc | kernel_rfl)
    (case tk_NoThing => first | k_is | k_exc | kernel_rfl)
    (case p1_Pile => first | k_is | k_exc | kernel_rfl)
    (case p2_Pile => first | k_is | k_exc | kernel_rfl)
    (case p3_Pile => first | k_is | k_exc | kernel_rfl)
    (case p4_Pile => first | k_is | k_exc | kernel_rfl)
    (case na_Pile_held => first | k_is | k_exc | kernel_rfl)
    (case na_Pile_high => first | k_is | k_exc | kernel_rfl)
    (case na_Pile_last_coming => first | k_is | k_exc | kernel_rfl)
    (case na_Pile_low => first | k_is | k_exc | kernel_rfl)
    (case na_Pile_numbers => first | k_is | k_exc | kernel_rfl)
    (case na_Pile_part => first | k_is | k_exc | kernel_rfl)
    (case na_Pile_spots => first | k_is | k_exc | kernel_rfl)
    (case na_Pile_total => first | k_is | k_exc | kernel_rfl)
    (case na_Pile_whole => first | k_is | k_exc | kernel_rfl)
    (case p1_Turned => first | k_is | k_exc | kernel_rfl)
    (case p2_Turned => first | k_is | k_exc | kernel_rfl)
    (case p3_Turned => first | k_is | k_exc | kernel_rfl)
    (case p4_Turned => first | k_is | k_exc | kernel_rfl)
    (case na_Turned_held => first | k_is | k_exc | kernel_rfl)
    (case na_Turned_high => first | k_is | k_exc | kernel_rfl)
    (case na_Turned_last_coming => first | k_is | k_exc | kernel_rfl)
    (case na_Turned_low => first | k_is | k_exc | kernel_rfl)
    (case na_Turned_numbers => first | k_is | k_exc | kernel_rfl)
    (case na_Turned_part => first | k_is | k_exc | kernel_rfl)
    (case na_Turned_spots => first | k_is | k_exc | kernel_rfl)
    (case na_Turned_total => first | k_is | k_exc | kernel_rfl)
    (case na_Turned_whole => first | k_is | k_exc | kernel_rfl)
    (case p1_Midrow => first | k_is | k_exc | kernel_rfl)
    (case p2_Midrow => first | k_is | k_exc | kernel_rfl)
    (case p3_Midrow => first | k_is | k_exc | kernel_rfl)
    (case p4_Midrow => first | k_is | k_exc | kernel_rfl)
    (case na_Midrow_held => first | k_is | k_exc | kernel_rfl)
    (case na_Midrow_high => first | k_is | k_exc | kernel_rfl)
    (case na_Midrow_last_coming => first | k_is | k_exc | kernel_rfl)
    (case na_Midrow_low => first | k_is | k_exc | kernel_rfl)
    (case na_Midrow_numbers => first | k_is | k_exc | kernel_rfl)
    (case na_Midrow_part => first | k_is | k_exc | kernel_rfl)
    (case na_Midrow_spots => first | k_is | k_exc | kernel_rfl)
    (case na_Midrow_total => first | k_is | k_exc | kernel_rfl)
    (case na_Midrow_whole => first | k_is | k_exc | kernel_rfl)
    (case ne_Pile_Turned => first | k_is | k_exc | kernel_rfl)
    (case at_Pile___init__ => first | k_is | k_exc | kernel_rfl)
    (case l_Pile___init__ => first | k_is | k_exc | kernel_rfl)
    (case c_Pile___init__ => first | k_is | k_exc | kernel_rfl)
    (case k_Pile___init__ => first | k_is | k_exc | kernel_rfl)
    (case at_Pile_ahead => first | k_is | k_exc | kernel_rfl)
    (case l_Pile_ahead => first | k_is | k_exc | kernel_rfl)
    (case c_Pile_ahead => first | k_is | k_exc | kernel_rfl)
    (case k_Pile_ahead => first | k_is | k_exc | kernel_rfl)
    (case at_Pile_many => first | k_is | k_exc | kernel_rfl)
    (case l_Pile_many => first | k_is | k_exc | kernel_rfl)
    (case c_Pile_many => first | k_is | k_exc | kernel_rfl)
    (case k_Pile_many => first | k_is | k_exc | kernel_rfl)
    (case at_Pile_top => first | k_is | k_exc | kernel_rfl)
    (case l_Pile_top => first | k_is | k_exc | kernel_rfl)
    (case c_Pile_top => first | k_is | k_exc | kernel_rfl)
    (case k_Pile_top => first | k_is | k_exc | kernel_rfl)
    (case at_Pile_put => first | k_is | k_exc | kernel_rfl)
    (case l_Pile_put => first | k_is | k_exc | kernel_rfl)
    (case c_Pile_put => first | k_is | k_exc | kernel_rfl)
    (case k_Pile_put => first | k_is | k_exc | kernel_rfl)
    (case at_Pile_take => first | k_is | k_exc | kernel_rfl)
    (case l_Pile_take => first | k_is | k_exc | kernel_rfl)
    (case c_Pile_take => first | k_is | k_exc | kernel_rfl)
    (case k_Pile_take => first | k_is | k_exc | kernel_rfl)
    (case at_Pile_fill => first | k_is | k_exc | kernel_rfl)
    (case l_Pile_fill => first | k_is | k_exc | kernel_rfl)
    (case c_Pile_fill => first | k_is | k_exc | kernel_rfl)
    (case k_Pile_fill => first | k_is | k_exc | kernel_rfl)
    (case at_Pile_rise => first | k_is | k_exc | kernel_rfl)
    (case l_Pile_rise => first | k_is | k_exc | kernel_rfl)
    (case c_Pile_rise => first | k_is | k_exc | kernel_rfl)
    (case k_Pile_rise => first | k_is | k_exc | kernel_rfl)
    (case at_Pile_is_ahead_of_upper => first | k_is | k_exc | kernel_rfl)
    (case l_Pile_is_ahead_of_upper => first | k_is | k_exc | kernel_rfl)
    (case c_Pile_is_ahead_of_upper => first | k_is | k_exc | kernel_rfl)
    (case k_Pile_is_ahead_of_upper => first | k_is | k_exc | kernel_rfl)
    (case at_Pile_sink => first | k_is | k_exc | kernel_rfl)
    (case l_Pile_sink => first | k_is | k_exc | kernel_rfl)
    (case c_Pile_sink => first | k_is | k_exc | kernel_rfl)
    (case k_Pile_sink => first | k_is | k_exc | kernel_rfl)
    (case at_Pile_place_under => first | k_is | k_exc | kernel_rfl)
    (case l_Pile_place_under => first | k_is | k_exc | kernel_rfl)
    (case c_Pile_place_under => first | k_is | k_exc | kernel_rfl)
    (case k_Pile_place_under => first | k_is | k_exc | kernel_rfl)
    (case at_Pile_lay => first | k_is | k_exc | kernel_rfl)
    (case l_Pile_lay => first | k_is | k_exc | kernel_rfl)
    (case c_Pile_lay => first | k_is | k_exc | kernel_rfl)
    (case k_Pile_lay => first | k_is | k_exc | kernel_rfl)
    (case at_Turned_ahead => first | k_is | k_exc | kernel_rfl)
    (case l_Turned_ahead => first | k_is | k_exc | kernel_rfl)
    (case c_Turned_ahead => first | k_is | k_exc | kernel_rfl)
    (case k_Turned_ahead => first | k_is | k_exc | kernel_rfl)
    (case m_check_share => first | k_is | k_exc | kernel_rfl)
    (case l_check_share => first | k_is | k_exc | kernel_rfl)
    (case c_check_share => first | k_is | k_exc | kernel_rfl)
    (case k_check_share => first | k_is | k_exc | kernel_rfl)
    (case m_place => first | k_is | k_exc | kernel_rfl)
    (case l_place => first | k_is | k_exc | kernel_rfl)
    (case c_place => first | k_is | k_exc | kernel_rfl)
    (case k_place => first | k_is | k_exc | kernel_rfl)
    (case m_move_top => first | k_is | k_exc | kernel_rfl)
    (case l_move_top => first | k_is | k_exc | kernel_rfl)
    (case c_move_top => first | k_is | k_exc | kernel_rfl)
    (case k_move_top => first | k_is | k_exc | kernel_rfl)
    (case at_Midrow___init__ => first | k_is | k_exc | kernel_rfl)
    (case l_Midrow___init__ => first | k_is | k_exc | kernel_rfl)
    (case c_Midrow___init__ => first | k_is | k_exc | kernel_rfl)
    (case k_Midrow___init__ => first | k_is | k_exc | kernel_rfl)
    (case dl_Midrow___init__ => first | k_is | k_exc | kernel_rfl)
    (case dd_Midrow___init__ => rfl)
    (case at_Midrow_many => first | k_is | k_exc | kernel_rfl)
    (case l_Midrow_many => first | k_is | k_exc | kernel_rfl)
    (case c_Midrow_many => first | k_is | k_exc | kernel_rfl)
    (case k_Midrow_many => first | k_is | k_exc | kernel_rfl)
    (case at_Midrow_put => first | k_is | k_exc | kernel_rfl)
    (case l_Midrow_put => first | k_is | k_exc | kernel_rfl)
    (case c_Midrow_put => first | k_is | k_exc | kernel_rfl)
    (case k_Midrow_put => first | k_is | k_exc | kernel_rfl)
    (case at_Midrow_take => first | k_is | k_exc | kernel_rfl)
    (case l_Midrow_take => first | k_is | k_exc | kernel_rfl)
    (case c_Midrow_take => first | k_is | k_exc | kernel_rfl)
    (case k_Midrow_take => first | k_is | k_exc | kernel_rfl)
    (case at_Midrow_number_of => first | k_is | k_exc | kernel_rfl)
    (case l_Midrow_number_of => first | k_is | k_exc | kernel_rfl)
    (case c_Midrow_number_of => first | k_is | k_exc | kernel_rfl)
    (case k_Midrow_number_of => first | k_is | k_exc | kernel_rfl)
    (case at_Midrow_oldest => first | k_is | k_exc | kernel_rfl)
    (case l_Midrow_oldest => first | k_is | k_exc | kernel_rfl)
    (case c_Midrow_oldest => first | k_is | k_exc | kernel_rfl)
    (case k_Midrow_oldest => first | k_is | k_exc | kernel_rfl)
    (case at_Midrow_share => first | k_is | k_exc | kernel_rfl)
    (case l_Midrow_share => first | k_is | k_exc | kernel_rfl)
    (case c_Midrow_share => first | k_is | k_exc | kernel_rfl)
    (case k_Midrow_share => first | k_is | k_exc | kernel_rfl)
    (case at_Midrow_pile_of => first | k_is | k_exc | kernel_rfl)
    (case l_Midrow_pile_of => first | k_is | k_exc | kernel_rfl)
    (case c_Midrow_pile_of => first | k_is | k_exc | kernel_rfl)
    (case k_Midrow_pile_of => first | k_is | k_exc | kernel_rfl)
    (case at_Midrow_settle => first | k_is | k_exc | kernel_rfl)
    (case l_Midrow_settle => first | k_is | k_exc | kernel_rfl)
    (case c_Midrow_settle => first | k_is | k_exc | kernel_rfl)
    (case k_Midrow_settle => first | k_is | k_exc | kernel_rfl)
    (case m__law_at => first | k_is | k_exc | kernel_rfl)
    (case l__law_at => first | k_is | k_exc | kernel_rfl)
    (case c__law_at => first | k_is | k_exc | kernel_rfl)
    (case k__law_at => first | k_is | k_exc | kernel_rfl)
    (case m__law_is => first | k_is | k_exc | kernel_rfl)
    (case l__law_is => first | k_is | k_exc | kernel_rfl)
    (case c__law_is => first | k_is | k_exc | kernel_rfl)
    (case k__law_is => first | k_is | k_exc | kernel_rfl)
    (case m__law_number => first | k_is | k_exc | kernel_rfl)
    (case l__law_number => first | k_is | k_exc | kernel_rfl)
    (case c__law_number => first | k_is | k_exc | kernel_rfl)
    (case k__law_number => first | k_is | k_exc | kernel_rfl)
    (case m__law_no_number => first | k_is | k_exc | kernel_rfl)
    (case l__law_no_number => first | k_is | k_exc | kernel_rfl)
    (case c__law_no_number => first | k_is | k_exc | kernel_rfl)
    (case k__law_no_number => first | k_is | k_exc | kernel_rfl)
    (case m__law_no_take => first | k_is | k_exc | kernel_rfl)
    (case l__law_no_take => first | k_is | k_exc | kernel_rfl)
    (case c__law_no_take => first | k_is | k_exc | kernel_rfl)
    (case k__law_no_take => first | k_is | k_exc | kernel_rfl)
    (case m__law_no_oldest => first | k_is | k_exc | kernel_rfl)
    (case l__law_no_oldest => first | k_is | k_exc | kernel_rfl)
    (case c__law_no_oldest => first | k_is | k_exc | kernel_rfl)
    (case k__law_no_oldest => first | k_is | k_exc | kernel_rfl)
    (case m__law_look => first | k_is | k_exc | kernel_rfl)
    (case l__law_look => first | k_is | k_exc | kernel_rfl)
    (case c__law_look => first | k_is | k_exc | kernel_rfl)
    (case k__law_look => first | k_is | k_exc | kernel_rfl)
    (case m__law_taken => first | k_is | k_exc | kernel_rfl)
    (case l__law_taken => first | k_is | k_exc | kernel_rfl)
    (case c__law_taken => first | k_is | k_exc | kernel_rfl)
    (case k__law_taken => first | k_is | k_exc | kernel_rfl)
    (case m__law_asked => first | k_is | k_exc | kernel_rfl)
    (case l__law_asked => first | k_is | k_exc | kernel_rfl)
    (case c__law_asked => first | k_is | k_exc | kernel_rfl)
    (case k__law_asked => first | k_is | k_exc | kernel_rfl)
    (case m__law_put => first | k_is | k_exc | kernel_rfl)
    (case l__law_put => first | k_is | k_exc | kernel_rfl)
    (case c__law_put => first | k_is | k_exc | kernel_rfl)
    (case k__law_put => first | k_is | k_exc | kernel_rfl)
    (case m_law => first | k_is | k_exc | kernel_rfl)
    (case l_law => first | k_is | k_exc | kernel_rfl)
    (case c_law => first | k_is | k_exc | kernel_rfl)
    (case k_law => first | k_is | k_exc | kernel_rfl)
    (case k1_Pile => first | k_is | k_exc | kernel_rfl)
    (case k2_Pile => first | k_is | k_exc | kernel_rfl)
    (case k3_Pile => first | k_is | k_exc | kernel_rfl)
    (case k4_Pile => first | k_is | k_exc | kernel_rfl)
    (case g1_Pile_ahead => first | k_is | k_exc | kernel_rfl)
    (case g2_Pile_ahead => first | k_is | k_exc | kernel_rfl)
    (case g1_Pile_many => first | k_is | k_exc | kernel_rfl)
    (case g2_Pile_many => first | k_is | k_exc | kernel_rfl)
    (case g1_Pile_top => first | k_is | k_exc | kernel_rfl)
    (case g2_Pile_top => first | k_is | k_exc | kernel_rfl)
    (case g1_Pile_put => first | k_is | k_exc | kernel_rfl)
    (case g2_Pile_put => first | k_is | k_exc | kernel_rfl)
    (case g1_Pile_take => first | k_is | k_exc | kernel_rfl)
    (case g2_Pile_take => first | k_is | k_exc | kernel_rfl)
    (case g1_Pile_fill => first | k_is | k_exc | kernel_rfl)
    (case g2_Pile_fill => first | k_is | k_exc | kernel_rfl)
    (case g1_Pile_rise => first | k_is | k_exc | kernel_rfl)
    (case g2_Pile_rise => first | k_is | k_exc | kernel_rfl)
    (case g1_Pile_is_ahead_of_upper => first | k_is | k_exc | kernel_rfl)
    (case g2_Pile_is_ahead_of_upper => first | k_is | k_exc | kernel_rfl)
    (case g1_Pile_sink => first | k_is | k_exc | kernel_rfl)
    (case g2_Pile_sink => first | k_is | k_exc | kernel_rfl)
    (case g1_Pile_place_under => first | k_is | k_exc | kernel_rfl)
    (case g2_Pile_place_under => first | k_is | k_exc | kernel_rfl)
    (case g1_Pile_lay => first | k_is | k_exc | kernel_rfl)
    (case g2_Pile_lay => first | k_is | k_exc | kernel_rfl)
    (case k1_Turned => first | k_is | k_exc | kernel_rfl)
    (case k2_Turned => first | k_is | k_exc | kernel_rfl)
    (case k3_Turned => first | k_is | k_exc | kernel_rfl)
    (case k4_Turned => first | k_is | k_exc | kernel_rfl)
    (case g1_Turned_ahead => first | k_is | k_exc | kernel_rfl)
    (case g2_Turned_ahead => first | k_is | k_exc | kernel_rfl)
    (case g1_Turned_many => first | k_is | k_exc | kernel_rfl)
    (case g2_Turned_many => first | k_is | k_exc | kernel_rfl)
    (case g1_Turned_top => first | k_is | k_exc | kernel_rfl)
    (case g2_Turned_top => first | k_is | k_exc | kernel_rfl)
    (case g1_Turned_put => first | k_is | k_exc | kernel_rfl)
    (case g2_Turned_put => first | k_is | k_exc | kernel_rfl)
    (case g1_Turned_take => first | k_is | k_exc | kernel_rfl)
    (case g2_Turned_take => first | k_is | k_exc | kernel_rfl)
    (case g1_Turned_fill => first | k_is | k_exc | kernel_rfl)
    (case g2_Turned_fill => first | k_is | k_exc | kernel_rfl)
    (case g1_Turned_rise => first | k_is | k_exc | kernel_rfl)
    (case g2_Turned_rise => first | k_is | k_exc | kernel_rfl)
    (case g1_Turned_is_ahead_of_upper => first | k_is | k_exc | kernel_rfl)
    (case g2_Turned_is_ahead_of_upper => first | k_is | k_exc | kernel_rfl)
    (case g1_Turned_sink => first | k_is | k_exc | kernel_rfl)
    (case g2_Turned_sink => first | k_is | k_exc | kernel_rfl)
    (case g1_Turned_place_under => first | k_is | k_exc | kernel_rfl)
    (case g2_Turned_place_under => first | k_is | k_exc | kernel_rfl)
    (case g1_Turned_lay => first | k_is | k_exc | kernel_rfl)
    (case g2_Turned_lay => first | k_is | k_exc | kernel_rfl)
    (case k1_Midrow => first | k_is | k_exc | kernel_rfl)
    (case k2_Midrow => first | k_is | k_exc | kernel_rfl)
    (case k3_Midrow => first | k_is | k_exc | kernel_rfl)
    (case k4_Midrow => first | k_is | k_exc | kernel_rfl)
    (case g1_Midrow_many => first | k_is | k_exc | kernel_rfl)
    (case g2_Midrow_many => first | k_is | k_exc | kernel_rfl)
    (case g1_Midrow_put => first | k_is | k_exc | kernel_rfl)
    (case g2_Midrow_put => first | k_is | k_exc | kernel_rfl)
    (case g1_Midrow_take => first | k_is | k_exc | kernel_rfl)
    (case g2_Midrow_take => first | k_is | k_exc | kernel_rfl)
    (case g1_Midrow_number_of => first | k_is | k_exc | kernel_rfl)
    (case g2_Midrow_number_of => first | k_is | k_exc | kernel_rfl)
    (case g1_Midrow_oldest => first | k_is | k_exc | kernel_rfl)
    (case g2_Midrow_oldest => first | k_is | k_exc | kernel_rfl)
    (case g1_Midrow_share => first | k_is | k_exc | kernel_rfl)
    (case g2_Midrow_share => first | k_is | k_exc | kernel_rfl)
    (case g1_Midrow_pile_of => first | k_is | k_exc | kernel_rfl)
    (case g2_Midrow_pile_of => first | k_is | k_exc | kernel_rfl)
    (case g1_Midrow_settle => first | k_is | k_exc | kernel_rfl)
    (case g2_Midrow_settle => first | k_is | k_exc | kernel_rfl)

